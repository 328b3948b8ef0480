/-
  Contracts of the reference of layer 14 (screen): another size.
-/
import Derived.Test.YtlamdgdegmjljaaScrRefD
import Derived.Test.YtlamdgdegmjljaaRegPred
namespace Go.Proofs.Ytlamdgdegmjljaa.Scr
open Go.ChangeShapes Go.WideShapes Go.ChangeAt Go.RowKit Lz RowG RegVal Reg
set_option linter.unusedVariables false
set_option maxRecDepth 100000

/-- What stands ready: the image, the result's variable. -/
structure RdyZ (w W' : World) (W H : Int) (a : Option Addr) (n cap : Nat) (l : List Int) : Prop where
  i : VarAt W' w.heap.size W H (.slice a n cap)
  o : VarAt W' (w.heap.size + 1) 0 0 (.slice none 0 0)
  b : Below w.heap.size w W'
  s : w.heap.size + 2 ≤ W'.heap.size
theorem RdyZ.new {w : World} {W H : Int} {a : Option Addr} {n cap : Nat} {l : List Int} :
    RdyZ w ((w.alloc (.cells #[.int .i64 W, .int .i64 H, .slice a n cap] 32)).alloc (.cells #[.int .i64 0, .int .i64 0, .slice none 0 0] 32)) W H a n cap l := by
  have z1 := alloc_size w (.cells #[.int .i64 W, .int .i64 H, .slice a n cap] 32)
  have i1 := VarAt.new w W H (.slice a n cap)
  have b1 := (Below.refl w.heap.size w).alloc (Nat.le_refl _) (.cells #[.int .i64 W, .int .i64 H, .slice a n cap] 32)
  generalize w.alloc (.cells #[.int .i64 W, .int .i64 H, .slice a n cap] 32) = w2 at *
  have z3 := alloc_size w2 (.cells #[.int .i64 0, .int .i64 0, .slice none 0 0] 32)
  have o3 := VarAt.new w2 0 0 (.slice none 0 0)
  have k3 := (Below.refl w2.heap.size w2).alloc (Nat.le_refl _) (.cells #[.int .i64 0, .int .i64 0, .slice none 0 0] 32)
  generalize w2.alloc (.cells #[.int .i64 0, .int .i64 0, .slice none 0 0] 32) = w3 at *
  have b3 : Below w.heap.size w w3 := b1.trans (k3.mono (by omega))
  rw [z1] at o3
  exact ⟨i1.below k3 (by omega), o3, b3, by omega⟩
theorem RdyZ.keep {w W1 W2 : World} {W H : Int} {a : Option Addr} {n cap : Nat} {l : List Int} (h : RdyZ w W1 W H a n cap l) (k : Below (w.heap.size + 2) W1 W2) : RdyZ w W2 W H a n cap l :=
  ⟨h.i.below k (by omega), h.o.below k (by omega), h.b.trans (k.mono (by omega)), Nat.le_trans h.s k.size⟩
def rzV (v img : Value) (g b k : Nat) (X x y c : Int) : Nat → Option Value
  | 0 => some (.pointer (some ⟨g, 2, none⟩))
  | 1 => some v
  | 2 => some img
  | 3 => some (.int .i64 k)
  | 4 => some (.int .i64 X)
  | 5 => some (.int .i64 x)
  | 6 => some (.int .i64 k)
  | 7 => some (.int .i64 X)
  | 8 => some (.int .i64 y)
  | 9 => some (.int .i64 c)
  | 12 => some (.pointer (some ⟨g, 2, none⟩))
  | _ => none
def rzR (B : Nat) (wr : World) (y : Int) (l' : List Int) (i : Nat) (v : Value) (W : World) : Prop :=
  if i = 10 then ∃ p, v = .slice (some ⟨p, 0, none⟩) 1 1 ∧ wr.heap.size ≤ p ∧ p < W.heap.size ∧ W.cell? ⟨p, 0, none⟩ = some (.int .i64 y) else if i = 11 then IntsAt B W v l' else True
structure rzS (w4 wr : World) (X Y : Int) (v : Value) (l l' : List Int) (ℓ : Nat → Bool) (W : World) : Prop where
  b : Below w4.heap.size wr W
  m : ℓ 11 = false → Lp w4 W X Y v l ∧ Below wr.heap.size wr W
  g : ℓ 13 = false → VarAt W w4.heap.size X Y v ∧ w4.heap.size + 1 ≤ W.heap.size
  e : ℓ 13 = true → ∃ u, Lp w4 W X Y u l'
  p1 : ℓ 11 = false → ℓ 13 = false
  p2 : ℓ 10 = false → ℓ 11 = false
  p3 : ℓ 9 = false → ℓ 10 = false
  p4 : ℓ 1 = false → ℓ 11 = false
theorem rzS.keep {w4 wr W : World} {X Y : Int} {v : Value} {l l' : List Int} {ℓ : Nat → Bool} {i : Nat} (h : rzS w4 wr X Y v l l' ℓ W) (h1 : i ≠ 9) (h2 : i ≠ 10) (h3 : i ≠ 11) (h4 : i ≠ 13) : rzS w4 wr X Y v l l' (fun j => if j = i then true else ℓ j) W := by
  have e9 : (if (9 : Nat) = i then true else ℓ 9) = ℓ 9 := if_neg (Ne.symm h1)
  have e10 : (if (10 : Nat) = i then true else ℓ 10) = ℓ 10 := if_neg (Ne.symm h2)
  have e11 : (if (11 : Nat) = i then true else ℓ 11) = ℓ 11 := if_neg (Ne.symm h3)
  have e13 : (if (13 : Nat) = i then true else ℓ 13) = ℓ 13 := if_neg (Ne.symm h4)
  refine ⟨h.b, ?_, ?_, ?_, ?_, ?_, ?_, ?_⟩
  · rw [e11]; exact h.m
  · rw [e13]; exact h.g
  · rw [e13]; exact h.e
  · rw [e11, e13]; exact h.p1
  · rw [e10, e11]; exact h.p2
  · rw [e9, e10]; exact h.p3
  · intro hh
    rw [e11]
    refine h.p4 ?_
    by_cases hi : (1 : Nat) = i
    · rw [if_pos hi] at hh; cases hh
    · rwa [if_neg hi] at hh
theorem Lp.drew {w4 W : World} {X Y : Int} {v : Value} {l : List Int} (h : Lp w4 W X Y v l) : Lp w4 W.drew X Y v l := ⟨h.g, h.row, h.bel.drew, h.sz⟩
theorem rzS.drew {w4 wr W : World} {X Y : Int} {v : Value} {l l' : List Int} {ℓ : Nat → Bool} (h : rzS w4 wr X Y v l l' ℓ W) : rzS w4 wr X Y v l l' ℓ W.drew := by
  refine ⟨h.b.drew, fun q => ⟨(h.m q).1.drew, (h.m q).2.drew⟩, h.g, fun q => ?_, h.p1, h.p2, h.p3, h.p4⟩
  obtain ⟨u, hu⟩ := h.e q
  exact ⟨u, hu.drew⟩
set_option maxHeartbeats 8000000 in
theorem refResize_any (W H : Int) (l : List Int) (v : Value) (X Y : Int) (w : World) (hm : ImOk W H l) (hs : SI w v l) :
    Calls Try.prog 20 #[imgV W H v, .int .i64 X, .int .i64 Y] w fun e w' => ∃ v', e = .returned (.tuple #[imgV (resW X Y W) (resH X Y H) v', .int .i64 (resE X Y)]) ∧ SI w' v' (resS W H X Y l) ∧ Below w.heap.size w w' ∧ Near w v v' := by
  obtain ⟨a, n, cap, rfl, hln, hrd⟩ := hs.read
  clear hrd hln
  have hw := hm.w
  have hh := hm.h
  have R0 := RdyZ.new (w := w) (W := W) (H := H) (a := a) (n := n) (cap := cap) (l := l)
  have HSI := Lib.hid hs
  have z1 := alloc_size w (.cells #[.int .i64 W, .int .i64 H, .slice a n cap] 32)
  obtain ⟨w1, hw1⟩ : ∃ w1, w.alloc (.cells #[.int .i64 W, .int .i64 H, .slice a n cap] 32) = w1 := ⟨_, rfl⟩
  rw [hw1] at R0 z1
  obtain ⟨w3, hw3⟩ : ∃ w3, w1.alloc (.cells #[.int .i64 0, .int .i64 0, .slice none 0 0] 32) = w3 := ⟨_, rfl⟩
  rw [hw3] at R0
  have RDY := Lib.hid (fun W' (k : Below (w.heap.size + 2) w3 W') => R0.keep k)
  have hs3 := R0.s
  have S1 := Lib.hid (fun w => refSide_any X w)
  have S2 := Lib.hid (fun w => refSide_any Y w)
  clear R0 hs
  unfold imgV
  cases hx : sideB X with
  | false =>
    rw [hx] at S1
    have h1 : resE X Y = 1 := by unfold resE; rw [hx]; rfl
    have h2 : resS W H X Y l = l := by unfold resS; rw [hx]; rfl
    have h3 : resW X Y W = W := by unfold resW; rw [hx]; rfl
    have h4 : resH X Y H = H := by unfold resH; rw [hx]; rfl
    rw [h1, h2, h3, h4]
    clear h1 h2 h3 h4 hx
    go_enter Try.func20, Try.ntmps20
    go_wp2_with fail
    refine (S1.out _).mono ?_
    rintro q w4 ⟨rfl, rfl⟩
    clear S1 S2
    have RD := RDY.out w3 (Below.refl _ _)
    obtain ⟨⟨c0, c1, c2⟩, _⟩ := RD.i.cells
    obtain ⟨⟨o0, o1, o2⟩, fz⟩ := RD.o.cells
    have HO := Lib.hid RD.o
    have HB := Lib.hid RD.b
    clear RD RDY
    go_wp2_with fail
    refine bodyPost_ret (Ret.ret_cell_tmp rfl _ _ (w.heap.size + 1) 32 _ (0, 0) _ rfl (store3 HO.out _ _ _) Try.underlying32 rfl (by kernel_rfl)) rfl ⟨.slice a n cap, rfl, ?_, below_store3 HB.out (by omega) _ _ _, Near.refl _ _⟩
    exact SI.below HSI.out (below_store3 HB.out (by omega) _ _ _)
  | true =>
  cases hy : sideB Y with
  | false =>
    rw [hx] at S1
    rw [hy] at S2
    have h1 : resE X Y = 1 := by unfold resE; rw [hx, hy]; rfl
    have h2 : resS W H X Y l = l := by unfold resS; rw [hx, hy]; rfl
    have h3 : resW X Y W = W := by unfold resW; rw [hx, hy]; rfl
    have h4 : resH X Y H = H := by unfold resH; rw [hx, hy]; rfl
    rw [h1, h2, h3, h4]
    clear h1 h2 h3 h4 hx hy
    go_enter Try.func20, Try.ntmps20
    go_wp2_with fail
    refine (S1.out _).mono ?_
    rintro q w4 ⟨rfl, rfl⟩
    go_wp2_with fail
    refine (S2.out _).mono ?_
    rintro q w4 ⟨rfl, rfl⟩
    clear S1 S2
    have RD := RDY.out w3 (Below.refl _ _)
    obtain ⟨⟨c0, c1, c2⟩, _⟩ := RD.i.cells
    obtain ⟨⟨o0, o1, o2⟩, fz⟩ := RD.o.cells
    have HO := Lib.hid RD.o
    have HB := Lib.hid RD.b
    clear RD RDY
    go_wp2_with fail
    refine bodyPost_ret (Ret.ret_cell_tmp rfl _ _ (w.heap.size + 1) 32 _ (0, 0) _ rfl (store3 HO.out _ _ _) Try.underlying32 rfl (by kernel_rfl)) rfl ⟨.slice a n cap, rfl, ?_, below_store3 HB.out (by omega) _ _ _, Near.refl _ _⟩
    exact SI.below HSI.out (below_store3 HB.out (by omega) _ _ _)
  | true =>
  rw [hx] at S1
  rw [hy] at S2
  obtain ⟨hX, hY, hm1, hm2⟩ := side_mul hx hy
  obtain ⟨N, hN⟩ : ∃ N : Nat, X * Y = N := ⟨(X * Y).toNat, by omega⟩
  have h1 : resE X Y = 0 := by unfold resE; rw [hx, hy]; rfl
  have h2 : resS W H X Y l = gen N (resF W H X l) := by unfold resS; rw [hx, hy]; show resL W H X Y l = _; unfold resL; rw [hN, Int.toNat_natCast]
  have h3 : resW X Y W = X := by unfold resW; rw [hx, hy]; rfl
  have h4 : resH X Y H = Y := by unfold resH; rw [hx, hy]; rfl
  rw [h1, h2, h3, h4]
  have hNb : N ≤ 16777216 := by omega
  have n1 : IntKind.i64.wrap (N : Nat) = (N : Nat) := IntWalk.i64_in _ (by omega)
  have n2 : wrap64 (N : Nat) = (N : Nat) := IntWalk.wrap64_in _ (by omega)
  have HN12 := Lib.hid (And.intro n1 n2)
  clear n1 n2
  have HF : RowKit.Hid (∀ i : Nat, resF W H X l i = atI W H l (i % X) (i / X)) := Lib.hid (fun _ => rfl)
  have HAT := Lib.hid (fun x y w' (k : Below w.heap.size w w') => refAt_any W H l (.slice a n cap) x y w' hm (HSI.out.below k))
  unfold imgV at HAT
  clear h1 h2 h3 h4 hx hy hm1 hm2 hm
  generalize resF W H X l = F at *
  obtain ⟨⟨c0, c1, c2⟩, _⟩ := (RDY.out w3 (Below.refl _ _)).i.cells
  go_enter Try.func20, Try.ntmps20
  go_wp2_with fail
  refine (S1.out _).mono ?_
  rintro q w4 ⟨rfl, rfl⟩
  go_wp2_with fail
  refine (S2.out _).mono ?_
  rintro q w4 ⟨rfl, rfl⟩
  have L0 := Lib.hid (Lp.new w3 X Y)
  clear c0 c1 c2 S1 S2
  go_wp2_with fail
  go_loopw [9] (fun i wr => ∃ k : Nat, k ≤ N ∧ i = .int .i64 k ∧ ∃ v, Lp w3 wr X Y v (gen k F)) (fun i _ => N - (intOf i).toNat)
  case atStart => exact ⟨0, Nat.zero_le _, rfl, _, L0.out⟩
  case round =>
    obtain ⟨k, hk, rfl, v, M⟩ := hrel
    have RD := RDY.out wr (M.bel.mono hs3)
    have HM := Lib.hid M
    by_cases hlt : k < N
    · have d1 : decide (k < N) = true := decide_eq_true hlt
      have d2 : decide ((k : Int) < N) = true := decide_eq_true (Int.ofNat_lt.2 hlt)
      have hpk : 0 ≤ (k : Int) / X := Int.ediv_nonneg (by omega) (by omega)
      have HQ : RowKit.Hid (∀ W', Below w3.heap.size wr W' → _) := Lib.hid (fun W' (k : Below w3.heap.size wr W') => (RDY.out W' ((M.bel.trans k).mono hs3)))
      have t1 : Int.tmod (k : Int) X = (k : Int) % X := IntWalk.rem_in _ _ (by omega)
      have t2 : IntKind.i64.wrap (Int.tdiv (k : Int) X) = (k : Int) / X := IntWalk.i64_quo _ _ (by omega)
      have hX0 : ¬ X = 0 := by omega
      have t3 : (X == 0) = false := by simpa using hX0
      have hkX : (k : Int) / X ≤ k := Int.ediv_le_self _ (by omega)
      have t4 : IntKind.i64.wrap ((k : Int) / X) = (k : Int) / X := IntWalk.i64_in _ (by omega)
      have HAT1 := Lib.hid (HAT.out ((k : Int) % X) ((k : Int) / X))
      have HS := Lib.hid (gen_succ k F)
      have HFk := HF.out k
      rw [← HFk] at HAT1
      have HG := Lib.hid (gen_length k F)
      have HVL : RowKit.Hid (∀ q, v.ownBlock = some q → q < wr.heap.size) := Lib.hid (fun q hq => (World.ownsRow.lt M.row.1 q hq).2)
      have hgl : w3.heap.size < wr.heap.size := M.sz
      have HI0 : rzS w3 wr X Y v (gen k F) (gen (k + 1) F) (fun _ => false) wr := ⟨Below.refl _ _, fun _ => ⟨M, Below.refl _ _⟩, fun _ => ⟨M.g, M.sz⟩, fun h => (by cases h), fun _ => rfl, fun _ => rfl, fun _ => rfl, fun _ => rfl⟩
      have HI1 := Lib.hid HI0
      obtain ⟨va, vn, vc, rfl⟩ := shape4 M.row
      clear RD M HI0 HFk HF
      rw [HS.out] at HI1
      generalize F k = c at *
      obtain ⟨n1, n2⟩ := HN12.out
      go_wp2_with fail
      clear n1 n2
      refine region_preds (by kernel_rfl) (rzV (.slice va vn vc) (.agg #[.int .i64 W, .int .i64 H, .slice a n cap]) w3.heap.size w.heap.size k X ((k : Int) % X) ((k : Int) / X) c) (rzR (w3.heap.size + 1) wr c (gen k F ++ [c])) (rzS w3 wr X Y (.slice va vn vc) (gen k F) (gen k F ++ [c])) [1, 3, 8, 9] [none, none, none, none, none, none, none, none, none, none, none, none, none, none, none, none, none, none, none, none, none, none, none, none, none, none, none, none, none, some 0, some 1, some 2, some 3, some 4, some 5, some 6, some 7, some 8, some 9, some 10, some 11, some 12, none] (by kernel_rfl) (by kernel_rfl) (by rfl) (by kernel_rfl) (by kernel_rfl) (by kernel_rfl) HI1.out.drew ⟨?_, ?_, ?_, ?_, ?_, ?_, ?_, ?_, ?_, ?_, ?_, ?_, ?_, ?_, trivial⟩ ?_
      case refine_15 =>
        intro vs ℓ W3 hl hS hR
        obtain ⟨u, hu⟩ := hS.e (hl 13 (by decide))
        have HU := Lib.hid hu
        clear hR hS hl hu
        simp only [zipF, rzV, Option.getD_some, Option.getD_none]
        generalize vs 10 = nb at *
        generalize vs 11 = nb2 at *
        go_wp2_with fail
        exact ⟨⟨k + 1, by omega, by go_num, u, by rw [HS.out]; exact HU.out⟩, by simp [intOf]; omega⟩
      case refine_2 =>
        intro ℓ act W9 hl hS hw hx hr hd
        have hv := (hS.m (hS.p4 hl)).1.g.cells
        obtain ⟨⟨_, _, g2⟩, _⟩ := hv
        clear hw hx
        simp [readFacts, depFactsP, dstOf, Region.binds, rzV] at hr hd
        refine ⟨wanted_none (by rfl), fun K hK => ?_⟩
        go_simp
        exact hK _ _ rfl (hS.keep (by decide) (by decide) (by decide) (by decide)) (fun _ _ _ _ h => h)
      case refine_10 =>
        intro ℓ act W9 hl hS hw hx hr hd
        have h10 := hS.p3 hl
        have h11 := hS.p2 h10
        have h13 := hS.p1 h11
        obtain ⟨hLp, hBw⟩ := hS.m h11
        have RD := HQ.out W9 hS.b
        clear hw hx
        simp [readFacts, depFactsP, dstOf, Region.binds, rzV] at hr hd
        refine ⟨wanted_none (by rfl), fun K hK => ?_⟩
        go_simp
        refine (HAT1.out _ RD.b).mono ?_
        rintro q w' ⟨rfl, b⟩
        have L2 := hLp.keep b
        refine hK _ _ rfl ⟨hS.b.trans (b.mono (by have := hLp.sz; omega)), fun _ => ⟨L2, hBw.trans (b.mono hBw.size)⟩, fun _ => ⟨L2.g, L2.sz⟩, fun h => ?_, fun _ => by simpa using h13, fun _ => by simpa using h11, fun h => by simp at h, fun _ => by simpa using h11⟩ (fun j u _ hj h => ?_)
        · simp [h13] at h
        · unfold rzR at h ⊢
          rw [if_neg (fun e => by rw [e, h10] at hj; cases hj), if_neg (fun e => by rw [e, h11] at hj; cases hj)] at h ⊢
          trivial
      case refine_11 =>
        intro ℓ act W9 hl hS hw hx hr hd
        have h9 : ℓ 9 = true := hw ⟨9, .data⟩ (by simp) (by rfl)
        have h11 := hS.p2 hl
        have h13 := hS.p1 h11
        obtain ⟨hLp, hBw⟩ := hS.m h11
        clear hw hx
        simp [readFacts, depFactsP, dstOf, Region.binds, rzV] at hr hd
        refine ⟨wanted_none (by rfl), fun K hK => ?_⟩
        go_simp
        have b := (Below.refl W9.heap.size W9).alloc (Nat.le_refl _) (.cells #[.int .i64 c] 3)
        have L2 := hLp.keep b
        have hcl := (box1 W9 #[.int .i64 c] 3).2 0 _ rfl
        refine hK _ _ (show rzR (w3.heap.size + 1) wr c (gen k F ++ [c]) 10 _ _ from by
          unfold rzR
          rw [if_pos rfl]
          exact ⟨_, rfl, hBw.size, by rw [alloc_size]; exact Nat.lt_succ_self _, hcl⟩) ⟨hS.b.trans (b.mono (by have := hLp.sz; omega)), fun _ => ⟨L2, hBw.trans (b.mono hBw.size)⟩, fun _ => ⟨L2.g, L2.sz⟩, fun h => ?_, fun _ => by simpa using h13, fun h => by simp at h, fun h => ?_, fun _ => by simpa using h11⟩ (fun j u _ hj h => ?_)
        · simp [h13] at h
        · simp [h9] at h
        · unfold rzR at h ⊢
          rw [if_neg (fun e => by rw [e, hl] at hj; cases hj), if_neg (fun e => by rw [e, h11] at hj; cases hj)] at h ⊢
          trivial
      case refine_12 =>
        intro ℓ act W9 hl hS hw hx hr hd
        have h1 : ℓ 1 = true := hw ⟨1, .data⟩ (by simp) (by rfl)
        have h10 : ℓ 10 = true := hw ⟨10, .data⟩ (by simp) (by rfl)
        have h13 := hS.p1 hl
        obtain ⟨hLp, hBw⟩ := hS.m hl
        clear hw hx
        simp [readFacts, depFactsP, dstOf, Region.binds, rzV, rzR] at hr hd
        refine ⟨wanted_none (by rfl), fun K hK => ?_⟩
        obtain ⟨e30, ⟨u0, e39, p, rfl, y1, y2, y3⟩, _⟩ := hd
        obtain ⟨i0, hi, hz0, hz1, hz2⟩ := info_parts info_num
        refine wp_append_near (.tmp 30) (.tmp 39) 30 rfl 3 i0 (.int .i64 0) 1 8 Try.underlying30 hi hz0 hz1 hz2 rfl (by decide) (.slice va vn vc) (gen k F).length (ints (gen k F)) (eval_tmp e30) (row0 hLp.row.1) ⟨p, 0, none⟩ 1 1 [.int .i64 c] (eval_tmp e39) rfl (fun j u hj => ?_) (by intro u hu; simp at hu; subst hu; rfl) (by rw [HG.out]; unfold maxLen; omega) (by rw [HG.out]; omega) ?_
        · have hj0 : j = 0 := by
            have := (List.getElem?_eq_some_iff.1 hj).1
            simpa using this
          subst hj0
          rw [Go.WideShapes.add_plain]
          simp at hj
          subst hj
          exact y3
        intro v' w' q1 q2 q3
        have hrow : IntsAt (w3.heap.size + 1) w' v' (gen k F ++ [c]) := by
          refine ⟨?_, fun i hi => ?_, ?_⟩
          · rw [List.length_append, ints_append]; exact q1
          · rcases q3 i hi with h4 | h4
            · exact hLp.row.2.1 i h4
            · have := hLp.sz; omega
          · intro u hu
            unfold ints at hu
            obtain ⟨x, _, rfl⟩ := List.mem_map.1 hu
            rfl
        have hbel : Below (w3.heap.size + 1) W9 w' := grown_below q2 hLp.row.2.1 hLp.sz
        refine hK _ _ (show rzR (w3.heap.size + 1) wr c (gen k F ++ [c]) 11 _ _ from by
          unfold rzR
          rw [if_neg (by decide), if_pos rfl]
          exact hrow) ⟨hS.b.trans (hbel.mono (by omega)), fun h => by simp at h, fun _ => ⟨hLp.g.below hbel (by omega), Nat.le_trans hLp.sz hbel.size⟩, fun h => ?_, fun _ => by simpa using h13, fun h => ?_, fun h => ?_, fun h => ?_⟩ (fun j u hv hj h => ?_)
        · simp [h13] at h
        · simp [h10] at h
        · have h9' : ℓ 9 = false := by simpa using h
          have := hS.p3 h9'
          rw [h10] at this
          cases this
        · simp [h1] at h
        · unfold rzR at h ⊢
          by_cases e10 : j = 10
          · rw [if_pos e10] at h ⊢
            obtain ⟨p', rfl, x1, x2, x3⟩ := h
            refine ⟨p', rfl, x1, Nat.lt_of_lt_of_le x2 hbel.size, ?_⟩
            have e := q2.block p' x2 (fun e => by have := HVL.out p' e.symm; omega)
            rw [← x3]
            simp only [World.cell?, e]
          · rw [if_neg e10, if_neg (fun e => by rw [e, hl] at hj; cases hj)] at h ⊢
            trivial
      case refine_14 =>
        intro ℓ act W9 hl hS hw hx hr hd
        have h11 : ℓ 11 = true := hw ⟨11, .data⟩ (by simp) (by rfl)
        obtain ⟨hg, hgs⟩ := hS.g hl
        obtain ⟨⟨_, _, g2⟩, fz⟩ := hg.cells
        have hb := hS.b
        have p2 := hS.p2
        have p3 := hS.p3
        have p4 := hS.p4
        clear hw hx
        simp [readFacts, depFactsP, dstOf, Region.binds, rzV, rzR] at hr hd
        refine ⟨wanted_none (by rfl), fun K hK => ?_⟩
        obtain ⟨e41, ⟨u, e40, y40⟩, _⟩ := hd
        obtain ⟨ua, un, uc, rfl⟩ := shape4 y40
        go_simp
        have hrow := row_other (i := 2) (u := .slice ua un uc) y40 (Nat.lt_succ_self w3.heap.size)
        refine hK _ _ (show UV _ _ 13 undef _ from by unfold UV; show rzR _ _ _ _ 13 _ _; unfold rzR; rw [if_neg (by decide), if_neg (by decide)]; trivial) ⟨below_set hb (Nat.le_refl _) _ _, fun h => ?_, fun h => by simp at h, fun _ => ⟨.slice ua un uc, hg.set _, hrow, below_set (HM.out.bel.trans hb) (Nat.le_refl _) _ _, by simpa using hgs⟩, fun h => ?_, fun h => ?_, fun h => ?_, fun h => ?_⟩ (fun j u hv hj h => ?_)
        · simp [h11] at h
        · simp [h11] at h
        · have := p2 (by simpa using h)
          rw [h11] at this
          cases this
        · simpa using p3 (by simpa using h)
        · have := p4 (by simpa using h)
          rw [h11] at this
          cases this
        · unfold rzR at h ⊢
          by_cases e10 : j = 10
          · rw [if_pos e10] at h ⊢
            obtain ⟨p', rfl, x1, x2, x3⟩ := h
            refine ⟨p', rfl, x1, by simpa using x2, ?_⟩
            have e := heap_setCell_other W9 ⟨w3.heap.size, 2, none⟩ p' (.slice ua un uc) (fun e => by have : p' = w3.heap.size := e; omega)
            rw [← x3]
            simp only [World.cell?, e]
          · by_cases e11 : j = 11
            · rw [if_neg e10, if_pos e11] at h ⊢
              exact row_other h (Nat.lt_succ_self _)
            · rw [if_neg e10, if_neg e11]; trivial
      all_goals
        intro ℓ act W9 hl hS hw hx hr hd
        have RD := HQ.out W9 hS.b
        obtain ⟨⟨d0, d1, d2⟩, _⟩ := RD.i.cells
        clear RD hw hx
        simp [readFacts, depFactsP, dstOf, Region.binds, rzV] at hr hd
        refine ⟨wanted_none (by rfl), fun K hK => ?_⟩
        go_simp
        exact hK _ _ rfl (hS.keep (by decide) (by decide) (by decide) (by decide)) (fun _ _ _ _ h => h)
    · obtain rfl : k = N := by omega
      have d1 : decide (k < k) = false := decide_eq_false hlt
      have d2 : decide ((k : Int) < k) = false := decide_eq_false (by omega)
      obtain ⟨⟨g0, g1, g2⟩, _⟩ := M.g.cells
      obtain ⟨⟨o0, o1, o2⟩, fz⟩ := RD.o.cells
      obtain ⟨a4, n4, cap4, rfl⟩ := shape4 M.row
      have HO := Lib.hid RD.o
      have HB := Lib.hid RD.b
      clear M RD RDY HF L0 HAT
      obtain ⟨n1, n2⟩ := HN12.out
      go_wp2_with fail
      refine bodyPost_ret (Ret.ret_cell_tmp rfl _ _ (w.heap.size + 1) 32 _ (0, 0) _ rfl (store3 HO.out _ _ _) Try.underlying32 rfl (by kernel_rfl)) rfl ⟨.slice a4 n4 cap4, rfl, ?_, below_store3 HB.out (by omega) _ _ _, Fresh.near (fresh_row HM.out.row (by omega)) _⟩
      exact (row_store3 HM.out.row (by omega) _ _ _).si
end Go.Proofs.Ytlamdgdegmjljaa.Scr
