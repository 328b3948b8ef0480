/-
  Contracts of the program's screen: what is left of a length, what two have in common.
-/
import Derived.Test.YtlamdgdegmjljaaScrPrgA
namespace Go.Proofs.Ytlamdgdegmjljaa.Scr
open Go.ChangeShapes Go.WideShapes Go.ChangeAt Go.RowKit Lz RowG RegVal Reg
set_option linter.unusedVariables false
set_option maxRecDepth 100000

def leftI (b l a : Int) : Int := if l < 1 ∨ l ≤ a - b then 0 else l - (a - b)
set_option maxHeartbeats 1000000 in
theorem left_any (b l a : Int) (hb : -1073741824 ≤ b ∧ b ≤ 1073741824) (hl : -1073741824 ≤ l ∧ l ≤ 1073741824) (ha : b ≤ a ∧ a ≤ 1073741824) (w : World) :
    Calls Try.prog 45 #[.int .i64 b, .int .i64 l, .int .i64 a] w fun e w' => e = .returned (.int .i64 (leftI b l a)) ∧ w = w' := by
  have HD : RowKit.Hid (leftI b l a = if l < 1 ∨ l ≤ a - b then 0 else l - (a - b)) := Lib.hid rfl
  generalize leftI b l a = RES at *
  obtain ⟨A, hA⟩ : ∃ A, IntKind.u64.wrap a = A := ⟨_, rfl⟩
  obtain ⟨B, hB⟩ : ∃ B, IntKind.u64.wrap b = B := ⟨_, rfl⟩
  obtain ⟨q, hq⟩ : ∃ q, a - b = q := ⟨_, rfl⟩
  have hQ : IntKind.u64.wrap (A - B) = q := by
    rw [← hA, ← hB, ← hq]
    simp only [IntKind.wrap, IntKind.signed, IntKind.bits, Bool.false_and, Bool.false_eq_true, if_false]
    omega
  by_cases h1 : l < 1
  · have d1 : decide (l < 1) = true := decide_eq_true h1
    have hres : RES = 0 := HD.out.trans (if_pos (.inl h1))
    subst hres
    clear HD h1 hq
    go_enter Try.func45, Try.ntmps45
    go_wp2_with fail
    go_ret
    exact ⟨rfl, rfl⟩
  · have d1 : decide (l < 1) = false := decide_eq_false h1
    have hL : IntKind.u64.wrap l = l := by
      simp only [IntKind.wrap, IntKind.signed, IntKind.bits, Bool.false_and, Bool.false_eq_true, if_false]
      omega
    by_cases h2 : l ≤ q
    · have d2 : decide (l ≤ q) = true := decide_eq_true h2
      have hres : RES = 0 := HD.out.trans (if_pos (.inr (by omega)))
      subst hres
      clear HD h1 h2 hq
      go_enter Try.func45, Try.ntmps45
      go_wp2_with fail
      go_ret
      exact ⟨rfl, rfl⟩
    · have d2 : decide (l ≤ q) = false := decide_eq_false h2
      have hI : IntKind.i64.wrap q = q := IntWalk.i64_in _ (by omega)
      have hI2 : wrap64 q = q := IntWalk.wrap64_in _ (by omega)
      have hS : IntKind.i64.wrap (l - q) = l - q := IntWalk.i64_in _ (by omega)
      have hS2 : wrap64 (l - q) = l - q := IntWalk.wrap64_in _ (by omega)
      have hres : RES = l - q := HD.out.trans (by rw [if_neg (by omega), hq])
      subst hres
      clear HD h1 h2 hq
      go_enter Try.func45, Try.ntmps45
      go_wp2_with fail
      go_ret
      exact ⟨rfl, rfl⟩
theorem meet_left (a b : Rc) : meetR a b = if min (leftI a.x a.w (max a.x b.x)) (leftI b.x b.w (max a.x b.x)) < 1 ∨ min (leftI a.y a.h (max a.y b.y)) (leftI b.y b.h (max a.y b.y)) < 1 then ⟨0, 0, 0, 0⟩ else ⟨max a.x b.x, max a.y b.y, min (leftI a.x a.w (max a.x b.x)) (leftI b.x b.w (max a.x b.x)), min (leftI a.y a.h (max a.y b.y)) (leftI b.y b.h (max a.y b.y))⟩ := by
  have side : ∀ p m q n : Int, (min (p + m) (q + n) - max p q < 1 ∧ min (leftI p m (max p q)) (leftI q n (max p q)) < 1) ∨ (1 ≤ min (p + m) (q + n) - max p q ∧ min (leftI p m (max p q)) (leftI q n (max p q)) = min (p + m) (q + n) - max p q) := by
    intro p m q n
    unfold leftI
    split <;> split <;> omega
  unfold meetR
  rcases side a.x a.w b.x b.w with ⟨h1, h2⟩ | ⟨h1, h2⟩
  · rw [if_pos (.inl h1), if_pos (.inl h2)]
  · rcases side a.y a.h b.y b.h with ⟨h3, h4⟩ | ⟨h3, h4⟩
    · rw [if_pos (.inr h3), if_pos (.inr h4)]
    · rw [if_neg (by omega), if_neg (by omega), h2, h4]
structure MeetW (w W : World) (p : Nat) (ax ay aw ah bx by' bw bh : Int) : Prop where
  c0 : W.cell? ⟨p, 0, none⟩ = some (.int .i64 ax)
  c1 : W.cell? ⟨p, 1, none⟩ = some (.int .i64 ay)
  c2 : W.cell? ⟨p, 2, none⟩ = some (.int .i64 aw)
  c3 : W.cell? ⟨p, 3, none⟩ = some (.int .i64 ah)
  d0 : W.cell? ⟨p + 1, 0, none⟩ = some (.int .i64 bx)
  d1 : W.cell? ⟨p + 1, 1, none⟩ = some (.int .i64 by')
  d2 : W.cell? ⟨p + 1, 2, none⟩ = some (.int .i64 bw)
  d3 : W.cell? ⟨p + 1, 3, none⟩ = some (.int .i64 bh)
  o0 : W.cell? ⟨p + 2, 0, none⟩ = some (.int .i64 0)
  o1 : W.cell? ⟨p + 2, 1, none⟩ = some (.int .i64 0)
  o2 : W.cell? ⟨p + 2, 2, none⟩ = some (.int .i64 0)
  o4 : W.cell? ⟨p + 2, 3, none⟩ = some (.int .i64 0)
  fz : ∀ i, W.frozen? ⟨p + 2, i, none⟩ = false
  b : Below p w W
  o : W.heap[p + 2]? = some (.cells #[.int .i64 0, .int .i64 0, .int .i64 0, .int .i64 0] 35 (0, 0))
theorem MeetW.q {w W : World} {p : Nat} {ax ay aw ah bx by' bw bh : Int} (h : MeetW w W p ax ay aw ah bx by' bw bh) (n : Nat) : MeetW w (W.drewN n) p ax ay aw ah bx by' bw bh :=
  ⟨h.c0, h.c1, h.c2, h.c3, h.d0, h.d1, h.d2, h.d3, h.o0, h.o1, h.o2, h.o4, h.fz, below_q h.b n, h.o⟩
set_option maxHeartbeats 4000000 in
theorem meet_any (a b : Rc) (ha : small a) (hb : small b) (w : World) :
    Calls Try.prog 32 #[a.v, b.v] w fun e w' => e = .returned (meetR a b).v ∧ Below w.heap.size w w' := by
  have z1 := alloc_size w (.cells #[.int .i64 a.x, .int .i64 a.y, .int .i64 a.w, .int .i64 a.h] 35)
  have i1 := RAt.box w a 35
  have b1 := (Below.refl w.heap.size w).alloc (Nat.le_refl _) (.cells #[.int .i64 a.x, .int .i64 a.y, .int .i64 a.w, .int .i64 a.h] 35)
  obtain ⟨w1, hw1⟩ : ∃ w1, w.alloc (.cells #[.int .i64 a.x, .int .i64 a.y, .int .i64 a.w, .int .i64 a.h] 35) = w1 := ⟨_, rfl⟩
  rw [hw1] at z1 i1 b1
  have z2 := alloc_size w1 (.cells #[.int .i64 b.x, .int .i64 b.y, .int .i64 b.w, .int .i64 b.h] 35)
  have r2 := RAt.box w1 b 35
  have k2 := (Below.refl w1.heap.size w1).alloc (Nat.le_refl _) (.cells #[.int .i64 b.x, .int .i64 b.y, .int .i64 b.w, .int .i64 b.h] 35)
  obtain ⟨w2, hw2⟩ : ∃ w2, w1.alloc (.cells #[.int .i64 b.x, .int .i64 b.y, .int .i64 b.w, .int .i64 b.h] 35) = w2 := ⟨_, rfl⟩
  rw [hw2] at z2 r2 k2
  have z2 : w2.heap.size = w.heap.size + 2 := by omega
  have z3 := alloc_size w2 (.cells #[.int .i64 0, .int .i64 0, .int .i64 0, .int .i64 0] 35)
  have o3 := heap_alloc_new w2 (.cells #[.int .i64 0, .int .i64 0, .int .i64 0, .int .i64 0] 35)
  have k3 := (Below.refl w2.heap.size w2).alloc (Nat.le_refl _) (.cells #[.int .i64 0, .int .i64 0, .int .i64 0, .int .i64 0] 35)
  obtain ⟨w3, hw3⟩ : ∃ w3, w2.alloc (.cells #[.int .i64 0, .int .i64 0, .int .i64 0, .int .i64 0] 35) = w3 := ⟨_, rfl⟩
  rw [hw3] at z3 o3 k3
  rw [z2] at o3
  rw [z1] at r2
  obtain ⟨c0, c1, c2, c3⟩ := (i1.below k2 (by omega)).below k3 (by omega)
  obtain ⟨d0, d1, d2, d3⟩ := r2.below k3 (by omega)
  have hB := Lib.hid ((b1.trans (k2.mono (by omega))).trans (k3.mono (by omega)))
  have HO := Lib.hid o3
  have o0 := cell_of_row w3 (w.heap.size + 2) 0 _ _ _ o3
  have o1 := cell_of_row w3 (w.heap.size + 2) 1 _ _ _ o3
  have o2 := cell_of_row w3 (w.heap.size + 2) 2 _ _ _ o3
  have o4 := cell_of_row w3 (w.heap.size + 2) 3 _ _ _ o3
  have fz : ∀ i, w3.frozen? ⟨w.heap.size + 2, i, none⟩ = false := fun i => frozen_of_row w3 (w.heap.size + 2) i _ _ o3
  simp at o0 o1 o2 o4
  have HM : RowKit.Hid (meetR a b = if min (leftI a.x a.w (max a.x b.x)) (leftI b.x b.w (max a.x b.x)) < 1 ∨ min (leftI a.y a.h (max a.y b.y)) (leftI b.y b.h (max a.y b.y)) < 1 then ⟨0, 0, 0, 0⟩ else ⟨max a.x b.x, max a.y b.y, min (leftI a.x a.w (max a.x b.x)) (leftI b.x b.w (max a.x b.x)), min (leftI a.y a.h (max a.y b.y)) (leftI b.y b.h (max a.y b.y))⟩) := Lib.hid (meet_left a b)
  generalize meetR a b = MR at *
  clear i1 b1 r2 k2 k3 o3 z3
  obtain ⟨ax, ay, aw, ah⟩ := a
  obtain ⟨bx, by', bw, bh⟩ := b
  unfold small at ha hb
  unfold Rc.v
  simp only at *
  obtain ⟨X, hX⟩ : ∃ X, max ax bx = X := ⟨_, rfl⟩
  obtain ⟨Y, hY⟩ : ∃ Y, max ay by' = Y := ⟨_, rfl⟩
  rw [hX, hY] at HM
  have f1 : (if ax < bx then bx else ax) = X := by rw [← hX, Int.max_def]; split <;> split <;> omega
  have f2 : (if ay < by' then by' else ay) = Y := by rw [← hY, Int.max_def]; split <;> split <;> omega
  have C1 := Lib.hid (fun (W : World) r => (left_any ax aw X (by omega) (by omega) (by omega) (W.drewN r)).mono (fun e w' h => (⟨h.1, r, h.2.symm⟩ : e = _ ∧ ∃ m, w' = W.drewN m)))
  have C2 := Lib.hid (fun (W : World) r => (left_any bx bw X (by omega) (by omega) (by omega) (W.drewN r)).mono (fun e w' h => (⟨h.1, r, h.2.symm⟩ : e = _ ∧ ∃ m, w' = W.drewN m)))
  have C3 := Lib.hid (fun (W : World) r => (left_any ay ah Y (by omega) (by omega) (by omega) (W.drewN r)).mono (fun e w' h => (⟨h.1, r, h.2.symm⟩ : e = _ ∧ ∃ m, w' = W.drewN m)))
  have C4 := Lib.hid (fun (W : World) r => (left_any by' bh Y (by omega) (by omega) (by omega) (W.drewN r)).mono (fun e w' h => (⟨h.1, r, h.2.symm⟩ : e = _ ∧ ∃ m, w' = W.drewN m)))
  generalize leftI ax aw X = p1 at *
  generalize leftI bx bw X = p2 at *
  generalize leftI ay ah Y = p3 at *
  generalize leftI by' bh Y = p4 at *
  obtain ⟨M, hM⟩ : ∃ M, min p1 p2 = M := ⟨_, rfl⟩
  obtain ⟨L, hL⟩ : ∃ L, min p3 p4 = L := ⟨_, rfl⟩
  rw [hM, hL] at HM
  have f3 : (if p2 < p1 then p2 else p1) = M := by rw [← hM, Int.min_def]; split <;> split <;> omega
  have f4 : (if p4 < p3 then p4 else p3) = L := by rw [← hL, Int.min_def]; split <;> split <;> omega
  clear ha hb
  have HW := Lib.hid (MeetW.mk c0 c1 c2 c3 d0 d1 d2 d3 o0 o1 o2 o4 fz hB.out HO.out)
  have MS : RowKit.Hid (MR = if M < 1 ∨ L < 1 then ⟨0, 0, 0, 0⟩ else ⟨X, Y, M, L⟩) := HM
  clear HM hX hY hM hL
  by_cases h1 : M < 1
  · have t1 : decide (M < 1) = true := decide_eq_true h1
    have hMR := MS.out
    rw [if_pos (.inl h1)] at hMR
    subst hMR
    clear MS h1
    go_enter Try.func32, Try.ntmps32
    go_wp2_with fail
    go_quiet (fail)
    have HV := Lib.hid (HW.out.q nq)
    generalize w3.drewN nq = w4 at *
    clear nq
    clear HW c0 c1 c2 c3 d0 d1 d2 d3 o0 o1 o2 o4 fz hB HO
    obtain ⟨c0, c1, c2, c3, d0, d1, d2, d3, o0, o1, o2, o4, fz, hb, ho⟩ := HV.out
    have hB := Lib.hid hb
    have HO := Lib.hid ho
    have D1 := Lib.hid (C1.out w4)
    have D2 := Lib.hid (C2.out w4)
    clear hb ho
    go_wp2_with fail
    go_quiet ((go_at_call 45; first | with_reducible exact D1.out _ | with_reducible exact D2.out _))
    clear D1 D2
    have HX := Lib.hid (HV.out.q nq)
    generalize w4.drewN nq = w5 at *
    clear nq
    clear HV c0 c1 c2 c3 d0 d1 d2 d3 o0 o1 o2 o4 fz hB HO
    obtain ⟨c0, c1, c2, c3, d0, d1, d2, d3, o0, o1, o2, o4, fz, hb, ho⟩ := HX.out
    have hB := Lib.hid hb
    have HO := Lib.hid ho
    have D3 := Lib.hid (C3.out w5)
    have D4 := Lib.hid (C4.out w5)
    clear hb ho
    go_wp2_with fail
    go_quiet ((go_at_call 45; first | with_reducible exact D3.out _ | with_reducible exact D4.out _))
    clear D3 D4
    have HY := Lib.hid (HX.out.q nq)
    generalize w5.drewN nq = w6 at *
    clear nq
    clear HX c0 c1 c2 c3 d0 d1 d2 d3 o0 o1 o2 o4 fz hB HO
    obtain ⟨c0, c1, c2, c3, d0, d1, d2, d3, o0, o1, o2, o4, fz, hb, ho⟩ := HY.out
    have hB := Lib.hid hb
    have HO := Lib.hid ho
    clear hb ho
    go_wp2_with fail
    refine bodyPost_ret (Ret.ret_cell rfl _ _ (w.heap.size + 2) 35 _ (0, 0) _ rfl (store4 HO.out _ _ _ _) Try.underlying35 rfl (by kernel_rfl)) rfl ⟨rfl, below_set (below_set (below_set (below_set hB.out (by omega) _ _) (by omega) _ _) (by omega) _ _) (by omega) _ _⟩
  have t1 : decide (M < 1) = false := decide_eq_false h1
  by_cases h2 : L < 1
  · have t2 : decide (L < 1) = true := decide_eq_true h2
    have hMR := MS.out
    rw [if_pos (.inr h2)] at hMR
    subst hMR
    clear MS h1 h2
    go_enter Try.func32, Try.ntmps32
    go_wp2_with fail
    go_quiet (fail)
    have HV := Lib.hid (HW.out.q nq)
    generalize w3.drewN nq = w4 at *
    clear nq
    clear HW c0 c1 c2 c3 d0 d1 d2 d3 o0 o1 o2 o4 fz hB HO
    obtain ⟨c0, c1, c2, c3, d0, d1, d2, d3, o0, o1, o2, o4, fz, hb, ho⟩ := HV.out
    have hB := Lib.hid hb
    have HO := Lib.hid ho
    have D1 := Lib.hid (C1.out w4)
    have D2 := Lib.hid (C2.out w4)
    clear hb ho
    go_wp2_with fail
    go_quiet ((go_at_call 45; first | with_reducible exact D1.out _ | with_reducible exact D2.out _))
    clear D1 D2
    have HX := Lib.hid (HV.out.q nq)
    generalize w4.drewN nq = w5 at *
    clear nq
    clear HV c0 c1 c2 c3 d0 d1 d2 d3 o0 o1 o2 o4 fz hB HO
    obtain ⟨c0, c1, c2, c3, d0, d1, d2, d3, o0, o1, o2, o4, fz, hb, ho⟩ := HX.out
    have hB := Lib.hid hb
    have HO := Lib.hid ho
    have D3 := Lib.hid (C3.out w5)
    have D4 := Lib.hid (C4.out w5)
    clear hb ho
    go_wp2_with fail
    go_quiet ((go_at_call 45; first | with_reducible exact D3.out _ | with_reducible exact D4.out _))
    clear D3 D4
    have HY := Lib.hid (HX.out.q nq)
    generalize w5.drewN nq = w6 at *
    clear nq
    clear HX c0 c1 c2 c3 d0 d1 d2 d3 o0 o1 o2 o4 fz hB HO
    obtain ⟨c0, c1, c2, c3, d0, d1, d2, d3, o0, o1, o2, o4, fz, hb, ho⟩ := HY.out
    have hB := Lib.hid hb
    have HO := Lib.hid ho
    clear hb ho
    go_wp2_with fail
    refine bodyPost_ret (Ret.ret_cell rfl _ _ (w.heap.size + 2) 35 _ (0, 0) _ rfl (store4 HO.out _ _ _ _) Try.underlying35 rfl (by kernel_rfl)) rfl ⟨rfl, below_set (below_set (below_set (below_set hB.out (by omega) _ _) (by omega) _ _) (by omega) _ _) (by omega) _ _⟩
  · have t2 : decide (L < 1) = false := decide_eq_false h2
    have hMR := MS.out
    rw [if_neg (by omega)] at hMR
    subst hMR
    clear MS h1 h2
    go_enter Try.func32, Try.ntmps32
    go_wp2_with fail
    go_quiet (fail)
    have HV := Lib.hid (HW.out.q nq)
    generalize w3.drewN nq = w4 at *
    clear nq
    clear HW c0 c1 c2 c3 d0 d1 d2 d3 o0 o1 o2 o4 fz hB HO
    obtain ⟨c0, c1, c2, c3, d0, d1, d2, d3, o0, o1, o2, o4, fz, hb, ho⟩ := HV.out
    have hB := Lib.hid hb
    have HO := Lib.hid ho
    have D1 := Lib.hid (C1.out w4)
    have D2 := Lib.hid (C2.out w4)
    clear hb ho
    go_wp2_with fail
    go_quiet ((go_at_call 45; first | with_reducible exact D1.out _ | with_reducible exact D2.out _))
    clear D1 D2
    have HX := Lib.hid (HV.out.q nq)
    generalize w4.drewN nq = w5 at *
    clear nq
    clear HV c0 c1 c2 c3 d0 d1 d2 d3 o0 o1 o2 o4 fz hB HO
    obtain ⟨c0, c1, c2, c3, d0, d1, d2, d3, o0, o1, o2, o4, fz, hb, ho⟩ := HX.out
    have hB := Lib.hid hb
    have HO := Lib.hid ho
    have D3 := Lib.hid (C3.out w5)
    have D4 := Lib.hid (C4.out w5)
    clear hb ho
    go_wp2_with fail
    go_quiet ((go_at_call 45; first | with_reducible exact D3.out _ | with_reducible exact D4.out _))
    clear D3 D4
    have HY := Lib.hid (HX.out.q nq)
    generalize w5.drewN nq = w6 at *
    clear nq
    clear HX c0 c1 c2 c3 d0 d1 d2 d3 o0 o1 o2 o4 fz hB HO
    obtain ⟨c0, c1, c2, c3, d0, d1, d2, d3, o0, o1, o2, o4, fz, hb, ho⟩ := HY.out
    have hB := Lib.hid hb
    have HO := Lib.hid ho
    clear hb ho
    go_wp2_with fail
    refine bodyPost_ret (Ret.ret_cell rfl _ _ (w.heap.size + 2) 35 _ (0, 0) _ rfl (store4 HO.out _ _ _ _) Try.underlying35 rfl (by kernel_rfl)) rfl ⟨rfl, below_set (below_set (below_set (below_set hB.out (by omega) _ _) (by omega) _ _) (by omega) _ _) (by omega) _ _⟩
end Go.Proofs.Ytlamdgdegmjljaa.Scr
