/-
  The program's rectangles: whether they are in order, and how those that are in order are laid down.
-/
import Derived.Test.YtedlhfemmofbpaaRegPrgH
namespace Go.Proofs.Ytedlhfemmofbpaa.Reg
open Go.ChangeShapes Go.WideShapes Go.ChangeAt Go.RowKit Go.Shelf Lz RowG RegVal OwnL
set_option linter.unusedVariables false
set_option maxRecDepth 100000

/-- Rectangles that are read, their capacity no less than their number; they all count. -/
structure CR (w : World) (v : Value) (l : List Rc) : Prop where
  sees : SeesR w v l
  room : Room v
  counts : ∀ r ∈ l, counts r = true
theorem CR.below {w w' : World} {v : Value} {l : List Rc} (h : CR w v l) (k : Below w.heap.size w w') : CR w' v l := ⟨h.sees.below k, h.room, h.counts⟩
theorem below_al {w w' : World} {n : Nat} (h : Below n w w') (hn : n ≤ w'.heap.size) (o : Obj) : Below n w (w'.alloc o) := h.trans ((Below.refl n w').alloc hn o)
theorem two_rects (W : World) (r1 r2 : Rc) (T : TypeId) :
    RcAt ((W.alloc (.cells #[.int .i64 r1.x, .int .i64 r1.y, .int .i64 r1.w, .int .i64 r1.h] T)).alloc (.cells #[.int .i64 r2.x, .int .i64 r2.y, .int .i64 r2.w, .int .i64 r2.h] T)) W.heap.size 0 r1 ∧
    RcAt ((W.alloc (.cells #[.int .i64 r1.x, .int .i64 r1.y, .int .i64 r1.w, .int .i64 r1.h] T)).alloc (.cells #[.int .i64 r2.x, .int .i64 r2.y, .int .i64 r2.w, .int .i64 r2.h] T)) (W.heap.size + 1) 0 r2 ∧
    Below W.heap.size W ((W.alloc (.cells #[.int .i64 r1.x, .int .i64 r1.y, .int .i64 r1.w, .int .i64 r1.h] T)).alloc (.cells #[.int .i64 r2.x, .int .i64 r2.y, .int .i64 r2.w, .int .i64 r2.h] T)) := by
  have h1 := box4 W r1 T
  have z := alloc_size W (.cells #[.int .i64 r1.x, .int .i64 r1.y, .int .i64 r1.w, .int .i64 r1.h] T)
  have k1 := (Below.refl W.heap.size W).alloc (Nat.le_refl _) (.cells #[.int .i64 r1.x, .int .i64 r1.y, .int .i64 r1.w, .int .i64 r1.h] T)
  generalize W.alloc (.cells #[.int .i64 r1.x, .int .i64 r1.y, .int .i64 r1.w, .int .i64 r1.h] T) = W1 at *
  have h2 := box4 W1 r2 T
  have k2 := (Below.refl W1.heap.size W1).alloc (Nat.le_refl _) (.cells #[.int .i64 r2.x, .int .i64 r2.y, .int .i64 r2.w, .int .i64 r2.h] T)
  rw [z] at h2
  exact ⟨h1.below k2 (by omega), h2, k1.trans (k2.mono (by omega))⟩
/-- What is told of an order. -/
def ordPost (l : List Rc) (e : Ending) : Prop := ∃ b, e = .returned (.bool b) ∧ (b = true → ord l) ∧ (b = false → 2 ≤ l.length)
set_option maxHeartbeats 8000000 in
theorem inOrder_any (l : List Rc) (v : Value) (w : World) (hl : l.length ≤ 100000) (h : CR w v l) :
    Calls Try.prog 53 #[v] w fun e w' => ordPost l e ∧ Below w.heap.size w w' := by
  obtain ⟨a, cap, rfl, hn, hr⟩ := h.sees
  have HC := Lib.hid h.counts
  obtain ⟨n, hlen⟩ : ∃ n, l.length = n := ⟨_, rfl⟩
  rw [hlen] at hl hn ⊢
  have CELLS := Lib.hid (fun (W : World) (k : Below w.heap.size w W) (i : Nat) (hi : i < n) => (show ∃ b off, a = some ⟨b, off, none⟩ ∧ RcAt W b (off + i * 4) (l[i]'(by omega)) from by
    obtain ⟨b, off, e, hb, hc⟩ := hr (by omega)
    exact ⟨b, off, e, (hc i (by omega)).below k hb⟩))
  have HL := Lib.hid hlen
  clear h hr hn
  go_enter Try.func53, Try.ntmps53
  go_wp2_with fail
  go_loopw [3] (fun p wr => ∃ k : Nat, p = .int .i64 k ∧ 1 ≤ k ∧ (1 < n → k ≤ n) ∧ Below w.heap.size w wr ∧ ∀ i, (h : i + 1 < l.length) → i + 1 < k → nextOk l[i] l[i + 1]) (fun p _ => n - (intOf p).toNat)
  case atStart => exact ⟨1, rfl, Nat.le_refl _, fun h => by omega, Below.refl _ _, fun i hi h => absurd h (by omega)⟩
  case round =>
    obtain ⟨k, rfl, hk1, hkn, hB, hord⟩ := hrel
    have HO := Lib.hid hord
    have HB := Lib.hid hB
    by_cases hlt : k < n
    · obtain ⟨j, rfl⟩ : ∃ j, k = j + 1 := ⟨k - 1, by omega⟩
      have dl : decide (((j + 1 : Nat) : Int) < n) = true := decide_eq_true (by omega)
      have dl2 : decide (j + 1 < n) = true := decide_eq_true hlt
      have f1 : IntKind.i64.wrap (((j + 1 : Nat) : Int) - 1) = j := (IntWalk.i64_in _ (by omega)).trans (by omega)
      have f2 : wrap64 (((j + 1 : Nat) : Int) - 1) = j := (IntWalk.wrap64_in _ (by omega)).trans (by omega)
      have hj : j < n := by omega
      obtain ⟨b, off, rfl, p1⟩ := CELLS.out wr hB j hj
      obtain ⟨b', off', e', p2⟩ := CELLS.out wr hB (j + 1) hlt
      obtain ⟨rfl, rfl⟩ : b = b' ∧ off = off' := by simp at e'; exact e'
      obtain ⟨r1, hr1⟩ : ∃ r, l[j]'(by have := HL.out; omega) = r := ⟨_, rfl⟩
      obtain ⟨r2, hr2⟩ : ∃ r, l[j + 1]'(by have := HL.out; omega) = r := ⟨_, rfl⟩
      rw [hr1] at p1
      rw [hr2] at p2
      have q1 := counts_iff.1 (HC.out r1 (by rw [← hr1]; exact List.getElem_mem _))
      have q2 := counts_iff.1 (HC.out r2 (by rw [← hr2]; exact List.getElem_mem _))
      have HQ : RowKit.Hid (nextOk r1 r2 → ∀ i, (h : i + 1 < l.length) → i + 1 < j + 1 + 1 → nextOk l[i] l[i + 1]) := Lib.hid (fun q i hi h => by
        by_cases e : i = j
        · subst e; rw [hr1, hr2]; exact q
        · exact HO.out i hi (by omega))
      obtain ⟨x1, y1, u1, v1⟩ := r1
      obtain ⟨x2, y2, u2, v2⟩ := r2
      unfold nextOk at HQ
      simp only at q1 q2 HQ p1 p2
      clear hr1 hr2 hord hB hkn hk1
      have P1 := Lib.hid (fun (W : World) (k : Below w.heap.size w W) => p1)
      obtain ⟨c0, c1, c2, c3⟩ := p1
      obtain ⟨d0, d1, d2, d3⟩ := p2
      simp only at c0 c1 c2 c3 d0 d1 d2 d3
      go_upto_region 4 with fail
      go_cut [4, 5] (fun u4 u5 wx => ∃ p q, u4 = .pointer (some ⟨p, 0, none⟩) ∧ u5 = .pointer (some ⟨q, 0, none⟩) ∧ RcAt wx p 0 ⟨x1, y1, u1, v1⟩ ∧ RcAt wx q 0 ⟨x2, y2, u2, v2⟩ ∧ Below w.heap.size w wx)
      case first =>
        have AL := fun (o : Obj) (W : World) (p : Addr) (v : Value) (h : W.cell? p = some v) => (((Below.refl W.heap.size W).alloc (Nat.le_refl _) o).cell (World.block_lt_of_cell? W _ h)).trans h
        have cz0 := AL (Obj.cells #[.int .i64 0, .int .i64 0, .int .i64 0, .int .i64 0] 32) _ _ _ c0
        have czz0 := AL (Obj.cells #[.int .i64 0, .int .i64 0, .int .i64 0, .int .i64 0] 32) _ _ _ cz0
        have cr0 := AL (Obj.cells #[.int .i64 x2, .int .i64 y2, .int .i64 u2, .int .i64 v2] 32) _ _ _ c0
        have crz0 := AL (Obj.cells #[.int .i64 0, .int .i64 0, .int .i64 0, .int .i64 0] 32) _ _ _ cr0
        have czr0 := AL (Obj.cells #[.int .i64 x2, .int .i64 y2, .int .i64 u2, .int .i64 v2] 32) _ _ _ cz0
        have cz1 := AL (Obj.cells #[.int .i64 0, .int .i64 0, .int .i64 0, .int .i64 0] 32) _ _ _ c1
        have czz1 := AL (Obj.cells #[.int .i64 0, .int .i64 0, .int .i64 0, .int .i64 0] 32) _ _ _ cz1
        have cr1 := AL (Obj.cells #[.int .i64 x2, .int .i64 y2, .int .i64 u2, .int .i64 v2] 32) _ _ _ c1
        have crz1 := AL (Obj.cells #[.int .i64 0, .int .i64 0, .int .i64 0, .int .i64 0] 32) _ _ _ cr1
        have czr1 := AL (Obj.cells #[.int .i64 x2, .int .i64 y2, .int .i64 u2, .int .i64 v2] 32) _ _ _ cz1
        have cz2 := AL (Obj.cells #[.int .i64 0, .int .i64 0, .int .i64 0, .int .i64 0] 32) _ _ _ c2
        have czz2 := AL (Obj.cells #[.int .i64 0, .int .i64 0, .int .i64 0, .int .i64 0] 32) _ _ _ cz2
        have cr2 := AL (Obj.cells #[.int .i64 x2, .int .i64 y2, .int .i64 u2, .int .i64 v2] 32) _ _ _ c2
        have crz2 := AL (Obj.cells #[.int .i64 0, .int .i64 0, .int .i64 0, .int .i64 0] 32) _ _ _ cr2
        have czr2 := AL (Obj.cells #[.int .i64 x2, .int .i64 y2, .int .i64 u2, .int .i64 v2] 32) _ _ _ cz2
        have cz3 := AL (Obj.cells #[.int .i64 0, .int .i64 0, .int .i64 0, .int .i64 0] 32) _ _ _ c3
        have czz3 := AL (Obj.cells #[.int .i64 0, .int .i64 0, .int .i64 0, .int .i64 0] 32) _ _ _ cz3
        have cr3 := AL (Obj.cells #[.int .i64 x2, .int .i64 y2, .int .i64 u2, .int .i64 v2] 32) _ _ _ c3
        have crz3 := AL (Obj.cells #[.int .i64 0, .int .i64 0, .int .i64 0, .int .i64 0] 32) _ _ _ cr3
        have czr3 := AL (Obj.cells #[.int .i64 x2, .int .i64 y2, .int .i64 u2, .int .i64 v2] 32) _ _ _ cz3
        have dz0 := AL (Obj.cells #[.int .i64 0, .int .i64 0, .int .i64 0, .int .i64 0] 32) _ _ _ d0
        have dzz0 := AL (Obj.cells #[.int .i64 0, .int .i64 0, .int .i64 0, .int .i64 0] 32) _ _ _ dz0
        have dr0 := AL (Obj.cells #[.int .i64 x1, .int .i64 y1, .int .i64 u1, .int .i64 v1] 32) _ _ _ d0
        have drz0 := AL (Obj.cells #[.int .i64 0, .int .i64 0, .int .i64 0, .int .i64 0] 32) _ _ _ dr0
        have dzr0 := AL (Obj.cells #[.int .i64 x1, .int .i64 y1, .int .i64 u1, .int .i64 v1] 32) _ _ _ dz0
        have dz1 := AL (Obj.cells #[.int .i64 0, .int .i64 0, .int .i64 0, .int .i64 0] 32) _ _ _ d1
        have dzz1 := AL (Obj.cells #[.int .i64 0, .int .i64 0, .int .i64 0, .int .i64 0] 32) _ _ _ dz1
        have dr1 := AL (Obj.cells #[.int .i64 x1, .int .i64 y1, .int .i64 u1, .int .i64 v1] 32) _ _ _ d1
        have drz1 := AL (Obj.cells #[.int .i64 0, .int .i64 0, .int .i64 0, .int .i64 0] 32) _ _ _ dr1
        have dzr1 := AL (Obj.cells #[.int .i64 x1, .int .i64 y1, .int .i64 u1, .int .i64 v1] 32) _ _ _ dz1
        have dz2 := AL (Obj.cells #[.int .i64 0, .int .i64 0, .int .i64 0, .int .i64 0] 32) _ _ _ d2
        have dzz2 := AL (Obj.cells #[.int .i64 0, .int .i64 0, .int .i64 0, .int .i64 0] 32) _ _ _ dz2
        have dr2 := AL (Obj.cells #[.int .i64 x1, .int .i64 y1, .int .i64 u1, .int .i64 v1] 32) _ _ _ d2
        have drz2 := AL (Obj.cells #[.int .i64 0, .int .i64 0, .int .i64 0, .int .i64 0] 32) _ _ _ dr2
        have dzr2 := AL (Obj.cells #[.int .i64 x1, .int .i64 y1, .int .i64 u1, .int .i64 v1] 32) _ _ _ dz2
        have dz3 := AL (Obj.cells #[.int .i64 0, .int .i64 0, .int .i64 0, .int .i64 0] 32) _ _ _ d3
        have dzz3 := AL (Obj.cells #[.int .i64 0, .int .i64 0, .int .i64 0, .int .i64 0] 32) _ _ _ dz3
        have dr3 := AL (Obj.cells #[.int .i64 x1, .int .i64 y1, .int .i64 u1, .int .i64 v1] 32) _ _ _ d3
        have drz3 := AL (Obj.cells #[.int .i64 0, .int .i64 0, .int .i64 0, .int .i64 0] 32) _ _ _ dr3
        have dzr3 := AL (Obj.cells #[.int .i64 x1, .int .i64 y1, .int .i64 u1, .int .i64 v1] 32) _ _ _ dz3
        clear AL q1 q2 P1
        have TW1 := Lib.hid (two_rects wr ⟨x1, y1, u1, v1⟩ ⟨x2, y2, u2, v2⟩ 32)
        have TW2 := Lib.hid (two_rects wr ⟨x2, y2, u2, v2⟩ ⟨x1, y1, u1, v1⟩ 32)
        go_region
        all_goals clear cz0 cz1 cz2 cz3 czz0 czz1 czz2 czz3 cr0 cr1 cr2 cr3 crz0 crz1 crz2 crz3 czr0 czr1 czr2 czr3 dz0 dz1 dz2 dz3 dzz0 dzz1 dzz2 dzz3 dr0 dr1 dr2 dr3 drz0 drz1 drz2 drz3 dzr0 dzr1 dzr2 dzr3
        · go_wp2_with fail
          go_meet
          case rel => exact ⟨_, _, rfl, rfl, TW1.out.1, TW1.out.2.1, below_q (HB.out.trans (TW1.out.2.2.mono HB.out.size)) 1⟩
        · go_wp2_with fail
          go_meet
          case rel => exact ⟨_, _, rfl, rfl, TW2.out.2.1, TW2.out.1, below_q (HB.out.trans (TW2.out.2.2.mono HB.out.size)) 1⟩
      case rest =>
        obtain ⟨p, q, rfl, rfl, g1, g2, hb2⟩ := hcut
        have HB2 := Lib.hid hb2
        obtain ⟨c0, c1, c2, c3⟩ := g1
        obtain ⟨d0, d1, d2, d3⟩ := g2
        simp only [Nat.zero_add] at c0 c1 c2 c3 d0 d1 d2 d3
        obtain ⟨X, hX⟩ : ∃ X, x1 + u1 = X := ⟨_, rfl⟩
        obtain ⟨Y, hY⟩ : ∃ Y, y1 + v1 = Y := ⟨_, rfl⟩
        have w1 : IntKind.i64.wrap (x1 + u1) = X := (IntWalk.i64_in _ (by omega)).trans hX
        have w2 : wrap64 (x1 + u1) = X := (IntWalk.wrap64_in _ (by omega)).trans hX
        have w3 : IntKind.i64.wrap (y1 + v1) = Y := (IntWalk.i64_in _ (by omega)).trans hY
        have w4 : wrap64 (y1 + v1) = Y := (IntWalk.wrap64_in _ (by omega)).trans hY
        rw [hX, hY] at HQ
        have HGO : RowKit.Hid (((y2 = y1 ∧ v2 = v1 ∧ X ≤ x2) ∨ Y ≤ y2) → ∀ i, (h : i + 1 < l.length) → i + 1 < j + 1 + 1 → nextOk l[i] l[i + 1]) := HQ
        clear HQ hX hY q1 q2 hb2
        by_cases k4 : y2 < Y
        · have d4 : decide (y2 < Y) = true := decide_eq_true k4
          by_cases k1 : y2 = y1
          · have e1 : (y2 == y1) = true := by simpa using k1
            by_cases k2 : v2 = v1
            · have e2 : (v2 == v1) = true := by simpa using k2
              by_cases k3 : X ≤ x2
              · have e3 : decide (X ≤ x2) = true := decide_eq_true k3
                have HG2 := Lib.hid (HGO.out (.inl ⟨k1, k2, k3⟩))
                clear k1 k2 k3 k4 HGO
                go_wp2_with fail
                go_roundw
                case rel => exact ⟨j + 1 + 1, by go_num, by omega, fun _ => hlt, HB2.out, HG2.out⟩
                case measure => simp [intOf]; omega
              · have e3 : decide (X ≤ x2) = false := decide_eq_false k3
                clear k1 k2 k3 k4 HGO
                go_wp2_with fail
                go_ret
                exact ⟨⟨false, rfl, fun h => by simp at h, fun _ => by omega⟩, HB2.out⟩
            · have e2 : (v2 == v1) = false := by simpa using k2
              clear k1 k2 k4 HGO
              go_wp2_with fail
              go_ret
              exact ⟨⟨false, rfl, fun h => by simp at h, fun _ => by omega⟩, HB2.out⟩
          · have e1 : (y2 == y1) = false := by simpa using k1
            clear k1 k4 HGO
            go_wp2_with fail
            go_ret
            exact ⟨⟨false, rfl, fun h => by simp at h, fun _ => by omega⟩, HB2.out⟩
        · have d4 : decide (y2 < Y) = false := decide_eq_false k4
          have HG2 := Lib.hid (HGO.out (.inr (by omega)))
          clear k4 HGO
          by_cases k1 : y2 = y1
          · have e1 : (y2 == y1) = true := by simpa using k1
            by_cases k2 : v2 = v1
            · have e2 : (v2 == v1) = true := by simpa using k2
              by_cases k3 : X ≤ x2
              · have e3 : decide (X ≤ x2) = true := decide_eq_true k3
                clear k1 k2 k3
                go_wp2_with fail
                go_roundw
                case rel => exact ⟨j + 1 + 1, by go_num, by omega, fun _ => hlt, HB2.out, HG2.out⟩
                case measure => simp [intOf]; omega
              · have e3 : decide (X ≤ x2) = false := decide_eq_false k3
                clear k1 k2 k3
                go_wp2_with fail
                go_roundw
                case rel => exact ⟨j + 1 + 1, by go_num, by omega, fun _ => hlt, HB2.out, HG2.out⟩
                case measure => simp [intOf]; omega
            · have e2 : (v2 == v1) = false := by simpa using k2
              clear k1 k2
              go_wp2_with fail
              go_roundw
              case rel => exact ⟨j + 1 + 1, by go_num, by omega, fun _ => hlt, HB2.out, HG2.out⟩
              case measure => simp [intOf]; omega
          · have e1 : (y2 == y1) = false := by simpa using k1
            clear k1
            go_wp2_with fail
            go_roundw
            case rel => exact ⟨j + 1 + 1, by go_num, by omega, fun _ => hlt, HB2.out, HG2.out⟩
            case measure => simp [intOf]; omega
    · have dl : decide ((k : Int) < n) = false := decide_eq_false (by omega)
      have dl2 : decide (k < n) = false := decide_eq_false (by omega)
      have HE : RowKit.Hid (ord l) := Lib.hid (ord_of l (fun i hi => HO.out i hi (by have := HL.out; omega)))
      clear hord hB HO
      go_wp2_with fail
      go_ret
      exact ⟨⟨true, rfl, fun _ => HE.out, fun h => by simp at h⟩, HB.out⟩
end Go.Proofs.Ytedlhfemmofbpaa.Reg
