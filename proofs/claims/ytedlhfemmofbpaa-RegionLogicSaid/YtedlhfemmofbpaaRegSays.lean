/-
  What is asked of the program's calls of layer 15 (region), and the document's examples.
-/
import Derived.Test.YtedlhfemmofbpaaRegRefF
import Derived.Test.YtedlhfemmofbpaaRegRefS
import Derived.Test.YtedlhfemmofbpaaRegRefH
namespace Go.Proofs.Ytedlhfemmofbpaa.Reg
open Go.ChangeShapes Go.WideShapes Go.ChangeAt Go.RowKit Lz RowG RegVal
set_option linter.unusedVariables false
set_option maxRecDepth 100000

/-- Two regions that are put together in some way. -/
def combL (op : Int) (a b : List Rc) : List Rc := flat (comb (fOp op) a b)
/-- What the calls of region answer. -/
structure Says : Prop where
  make : ∀ (a : List Rc) (va : Value) (w : World), a.length ≤ 5000 → (∀ r ∈ a, r.wf) → SeesR w va a → Calls Try.prog 12 #[va] w fun e w' => ∃ u, e = .returned u ∧ SeesR w' u (make a) ∧ Below w.heap.size w w'
  union : ∀ (a b : List Rc) (va vb : Value) (w : World), a.length + b.length ≤ 5000 → (∀ r ∈ a, r.wf) → (∀ r ∈ b, r.wf) → SeesR w va a → SeesR w vb b → Calls Try.prog 14 #[va, vb] w fun e w' => ∃ u, e = .returned u ∧ SeesR w' u (combL 0 a b) ∧ Below w.heap.size w w'
  minus : ∀ (a b : List Rc) (va vb : Value) (w : World), a.length + b.length ≤ 5000 → (∀ r ∈ a, r.wf) → (∀ r ∈ b, r.wf) → SeesR w va a → SeesR w vb b → Calls Try.prog 15 #[va, vb] w fun e w' => ∃ u, e = .returned u ∧ SeesR w' u (combL 1 a b) ∧ Below w.heap.size w w'
  both : ∀ (a b : List Rc) (va vb : Value) (w : World), a.length + b.length ≤ 5000 → (∀ r ∈ a, r.wf) → (∀ r ∈ b, r.wf) → SeesR w va a → SeesR w vb b → Calls Try.prog 16 #[va, vb] w fun e w' => ∃ u, e = .returned u ∧ SeesR w' u (combL 2 a b) ∧ Below w.heap.size w w'
  shift : ∀ (a : List Rc) (va : Value) (dx dy : Int) (w : World), a.length ≤ 600 → (Reg.make a).length ≤ 5000 → (∀ r ∈ a, r.wf) → (Lit.int .i64 dx).wf = true → (Lit.int .i64 dy).wf = true → SeesR w va a → Calls Try.prog 17 #[va, .int .i64 dx, .int .i64 dy] w fun e w' => ∃ u, e = .returned u ∧ SeesR w' u (shiftL a dx dy) ∧ Below w.heap.size w w'
  area : ∀ (a : List Rc) (va : Value) (w : World), a.length ≤ 5000 → (∀ r ∈ a, r.wf) → SeesR w va a → Calls Try.prog 19 #[va] w fun e w' => e = .returned (.int .i64 (areaL (Reg.make a))) ∧ Below w.heap.size w w'
  has : ∀ (a : List Rc) (va : Value) (x y : Int) (w : World), a.length ≤ 5000 → (∀ r ∈ a, r.wf) → (Lit.int .i64 x).wf = true → (Lit.int .i64 y).wf = true → SeesR w va a → Calls Try.prog 21 #[va, .int .i64 x, .int .i64 y] w fun e w' => e = .returned (.bool (hasL a x y)) ∧ Below w.heap.size w w'
  bounds : ∀ (a : List Rc) (va : Value) (w : World), a.length ≤ 5000 → (∀ r ∈ a, r.wf) → SeesR w va a → Calls Try.prog 23 #[va] w fun e w' => e = .returned (boundsL a).v ∧ Below w.heap.size w w'

/-- Numbers in the range are well formed. -/
theorem bd_wf {n : Int} (h1 : -9223372036854775808 ≤ n) (h2 : n ≤ 9223372036854775807) : (Lit.int .i64 n).wf = true := by
  simp only [Lit.wf, IntKind.min, IntKind.max, IntKind.signed, IntKind.bits, Bool.and_eq_true, decide_eq_true_eq, if_true]
  omega
theorem counts_wf {r : Rc} (h : counts r = true) : r.wf := by
  have c := counts_iff.1 h
  exact ⟨bd_wf (by omega) (by omega), bd_wf (by omega) (by omega), bd_wf (by omega) (by omega), bd_wf (by omega) (by omega)⟩
theorem comb_wf {f : Bool → Bool → Bool} (hf : f false false = false) (a b : List Rc) : ∀ r ∈ flat (comb f a b), r.wf := fun r hr => counts_wf ((comb_form hf a b).counts r hr)
theorem make_wf (a : List Rc) : ∀ r ∈ make a, r.wf := comb_wf rfl a []
theorem shift_wf (a : List Rc) (dx dy : Int) : ∀ r ∈ shiftL a dx dy, r.wf := by
  unfold shiftL
  split
  · intro r hr; cases hr
  · exact make_wf _
theorem comb_wfL (op : Int) (a b : List Rc) : ∀ r ∈ combL op a b, r.wf := comb_wf (fOp_no op) a b
theorem one_wf {c : Rc} (h : c.wf) : ∀ r ∈ [c], r.wf := fun r hr => by
  rw [List.mem_singleton.1 hr]; exact h
theorem make_shift (a : List Rc) (dx dy : Int) : make (shiftL a dx dy) = shiftL a dx dy := by
  unfold shiftL
  split
  · exact make_form (comb_form (f := fOr) rfl [] [])
  · exact make_form (comb_form (f := fOr) rfl _ [])
/-- Rectangles that were just written down. -/
theorem sees_lit (l : List Rc) (w : World) (T : TypeId) (cs : Array Value) (n : Nat) (h : cs.toList = cellsR l) (hn : l.length = n) (h0 : 0 < n) : SeesR (w.alloc (.cells cs T)) (.slice (some ⟨w.heap.size, 0, none⟩) n n) l := by
  subst hn
  have hz := alloc_size w (.cells cs T)
  have hb := heap_alloc_new w (.cells cs T)
  refine ⟨_, _, rfl, fun e => by simp at e, fun _ => ⟨_, 0, rfl, by rw [hz]; omega, fun i hi => ?_⟩⟩
  obtain ⟨g0, g1, g2, g3⟩ := cellsR_get l i hi
  rw [← h] at g0 g1 g2 g3
  simp only [Array.getElem?_toList] at g0 g1 g2 g3
  rw [Nat.zero_add]
  refine ⟨?_, ?_, ?_, ?_⟩ <;> simp only [World.cell?, hb] <;> assumption
/-- What is told of an argument that is a region. -/
def RcArg (W : World) (a : Option Addr) (n cap : Nat) (l : List Rc) : Prop := l.length = n ∧ n ≤ maxLen ∧ IsRects W a l ∧ (∀ r ∈ l, r.wf) ∧ (a = none → n = 0 ∧ cap = 0)
theorem RcArg.sees {W : World} {a : Option Addr} {n cap : Nat} {l : List Rc} (h : RcArg W a n cap l) : SeesR W (.slice a n cap) l := by
  obtain ⟨rfl, _, h1, _, h2⟩ := h
  exact ⟨a, cap, rfl, h2, h1⟩
theorem comb_fits (op : Int) (a b : List Rc) (h : a.length + b.length ≤ 5000) : (combL op a b).length ≤ 1000000000 := by
  have h1 := comb_length (fOp op) a b
  have h2 : (2 * (a.length + b.length)) * (2 * (a.length + b.length)) ≤ 10000 * 10000 := Nat.mul_le_mul (by omega) (by omega)
  unfold combL
  omega
theorem make_fits (a : List Rc) (h : a.length ≤ 5000) : (make a).length ≤ 1000000000 := by
  have := comb_fits 0 a [] (by simpa using h)
  rwa [show combL 0 a [] = make a from make_eq a] at this
theorem refSame_yes (c : List Rc) (va vb : Value) (w : World) (hc : c.length ≤ 1000000000) (ha : SeesR w va c) (hb : SeesR w vb c) :
    Calls Try.prog 11 #[va, vb] w fun e w' => e = .returned (.bool true) ∧ ∃ m, w' = w.drewN m := by
  have := refSame_any c c va vb w hc hc ha hb
  rwa [decide_eq_true (rfl : c = c)] at this
theorem shift_fits (a : List Rc) (dx dy : Int) (h : a.length ≤ 50) : (shiftL a dx dy).length ≤ 1000000000 := by
  unfold shiftL
  split
  · simp
  have h1 := comb_length fOr a []
  have h2 : (2 * (a.length + ([] : List Rc).length)) * (2 * (a.length + ([] : List Rc).length)) ≤ 100 * 100 := Nat.mul_le_mul (by simp; omega) (by simp; omega)
  have h3 := comb_length fOr ((make a).map (moved dx dy)) []
  have h5 : (make a).length ≤ 10000 := Nat.le_trans h1 h2
  have h4 : (2 * (((make a).map (moved dx dy)).length + ([] : List Rc).length)) * (2 * (((make a).map (moved dx dy)).length + ([] : List Rc).length)) ≤ 20000 * 20000 := Nat.mul_le_mul (by simp; omega) (by simp; omega)
  exact Nat.le_trans h3 (Nat.le_trans h4 (by decide))
theorem comb_small (op : Int) (a b : List Rc) (n : Nat) (h : a.length + b.length ≤ n) : (combL op a b).length ≤ (2 * n) * (2 * n) := by
  have h1 := comb_length (fOp op) a b
  exact Nat.le_trans h1 (Nat.mul_le_mul (by omega) (by omega))
theorem make_small (a : List Rc) (n : Nat) (h : a.length ≤ n) : (make a).length ≤ (2 * n) * (2 * n) := comb_small 0 a [] n (by simpa using h)
theorem fOp_ff (op : Int) : fOp op false false = false := by
  unfold fOp
  split
  · rfl
  split <;> rfl
theorem comb_in (op : Int) (a b : List Rc) (x y : Int) : hasL (combL op a b) x y = fOp op (hasL a x y) (hasL b x y) := comb_has (fOp_ff op) a b x y
theorem same_places (o1 o2 : Int) {a b c d : List Rc} (h : ∀ x y, fOp o1 (hasL a x y) (hasL b x y) = fOp o2 (hasL c x y) (hasL d x y)) : combL o1 a b = combL o2 c d := congrArg flat (comb_same (fOp_ff o1) (fOp_ff o2) h)
theorem no_places (o : Int) {a b : List Rc} (h : ∀ x y, fOp o (hasL a x y) (hasL b x y) = false) : combL o a b = [] := (comb_nil (fOp_ff o)).2 h
theorem make_comb0 (a : List Rc) : make a = combL 0 a [] := rfl
theorem SeesR.none {w : World} {u : Value} (h : SeesR w u []) : ∃ p c, u = .slice p 0 c := by
  obtain ⟨p, c, h, _⟩ := h
  exact ⟨p, c, h⟩
theorem none_of {f : FuncId} {args : Array Value} {w : World} (h : Calls Try.prog f args w fun e w' => ∃ u, e = .returned u ∧ SeesR w' u [] ∧ Below w.heap.size w w') : Calls Try.prog f args w fun e w' => ∃ p c, e = .returned (.slice p 0 c) ∧ Below w.heap.size w w' := by
  refine h.mono ?_
  rintro e w' ⟨u, h1, h2, h3⟩
  obtain ⟨p, c, rfl⟩ := h2.none
  exact ⟨p, c, h1, h3⟩
/-- The parts' places. -/
theorem area_two (a b : List Rc) : areaL (make (combL 0 a b)) + areaL (make (combL 2 a b)) = areaL (make a) + areaL (make b) := by
  have e := fun (l : List Rc) => comb_area (f := fOr) rfl l []
  unfold make
  rw [e, e, e, e]
  have := many_two (S := fun x y => fOr (hasL (combL 0 a b) x y) (hasL [] x y)) (T := fun x y => fOr (hasL (combL 2 a b) x y) (hasL [] x y)) (U := fun x y => fOr (hasL a x y) (hasL [] x y)) (V := fun x y => fOr (hasL b x y) (hasL [] x y)) (fun x y => by
    simp only [comb_in, hasL_nil]
    cases hasL a x y <;> cases hasL b x y <;> rfl)
  omega
theorem area_range (a : List Rc) : 0 ≤ areaL (make a) ∧ areaL (make a) ≤ 4398046511104 := by
  have hform : IsB (comb fOr a []) := comb_form rfl a []
  have h1 := areaL_take (l := make a) (fun r hr => hform.counts r hr) (make a).length
  have h2 : areaL (make a) ≤ 4398046511104 := area_bound hform
  rw [List.take_length] at h1
  omega
def exA : List Rc := [⟨0, 0, 2, 2⟩, ⟨2, 0, 2, 2⟩]
def exB : List Rc := [⟨1, 1, 1, 1⟩]
def exC : List Rc := [⟨0, 0, 4, 2⟩]
def exD : List Rc := [⟨0, 0, 4, 1⟩, ⟨0, 1, 1, 1⟩, ⟨2, 1, 2, 1⟩]
theorem ex_wf : (∀ r ∈ exA, r.wf) ∧ (∀ r ∈ exB, r.wf) ∧ (∀ r ∈ exC, r.wf) ∧ ∀ r ∈ exD, r.wf := by
  unfold Rc.wf exA exB exC exD
  decide +kernel
theorem ex_make : make exA = exC := by decide +kernel
theorem ex_minus : combL 1 exC exB = exD := by decide +kernel
theorem ex_area : areaL (make exD) = 7 := by decide +kernel
theorem ex_has : hasL exD 0 1 = true := by decide +kernel
theorem ex_not : hasL exD 1 1 = false := by decide +kernel
set_option maxHeartbeats 2000000 in
theorem works_any (D : Says) (w : World) :
    Calls Try.prog 10 #[] w fun e w' => e = .returned (.bool true) ∧ Below w.heap.size w w' := by
  have V1 := Lib.hid D.make
  have V2 := Lib.hid D.minus
  have V3 := Lib.hid D.area
  have V4 := Lib.hid D.has
  have KA := Lib.hid (Below.refl w.heap.size w)
  have hB := Nat.le_refl w.heap.size
  clear D
  go_enter Try.func10, Try.ntmps10
  go_wp2_with fail
  have z1 := sees_lit exA w 32 #[.int .i64 0, .int .i64 0, .int .i64 2, .int .i64 2, .int .i64 2, .int .i64 0, .int .i64 2, .int .i64 2] 2 rfl rfl (by decide)
  have b1 := (Below.refl w.heap.size w).alloc hB (.cells #[.int .i64 0, .int .i64 0, .int .i64 2, .int .i64 2, .int .i64 2, .int .i64 0, .int .i64 2, .int .i64 2] 32)
  generalize (w.alloc (.cells #[.int .i64 0, .int .i64 0, .int .i64 2, .int .i64 2, .int .i64 2, .int .i64 0, .int .i64 2, .int .i64 2] 32)) = A1 at *
  refine (V1.out exA _ A1 (by decide) ex_wf.1 z1).mono ?_
  rintro r w1 ⟨u1, rfl, s1, c1⟩
  rw [ex_make] at s1
  have b2 := b1.trans (c1.mono b1.size)
  clear z1 b1 c1 KA
  go_wp2_with fail
  have z2 := sees_lit exB w1 32 #[.int .i64 1, .int .i64 1, .int .i64 1, .int .i64 1] 1 rfl rfl (by decide)
  have s2 := s1.below ((Below.refl w1.heap.size w1).alloc (Nat.le_refl _) (.cells #[.int .i64 1, .int .i64 1, .int .i64 1, .int .i64 1] 32))
  have b3 := b2.alloc b2.size (.cells #[.int .i64 1, .int .i64 1, .int .i64 1, .int .i64 1] 32)
  generalize (w1.alloc (.cells #[.int .i64 1, .int .i64 1, .int .i64 1, .int .i64 1] 32)) = A2 at *
  refine (V2.out exC exB _ _ A2 (by decide) ex_wf.2.2.1 ex_wf.2.1 s2 z2).mono ?_
  rintro r w2 ⟨u2, rfl, t1, c2⟩
  rw [ex_minus] at t1
  have s3 := s2.below c2
  have b4 := b3.trans (c2.mono b3.size)
  clear z2 s1 s2 b2 b3 c2
  go_wp2_with fail
  have z3 := sees_lit exC w2 32 #[.int .i64 0, .int .i64 0, .int .i64 4, .int .i64 2] 1 rfl rfl (by decide)
  have s4 := s3.below ((Below.refl w2.heap.size w2).alloc (Nat.le_refl _) (.cells #[.int .i64 0, .int .i64 0, .int .i64 4, .int .i64 2] 32))
  have t2 := t1.below ((Below.refl w2.heap.size w2).alloc (Nat.le_refl _) (.cells #[.int .i64 0, .int .i64 0, .int .i64 4, .int .i64 2] 32))
  have b5 := b4.alloc b4.size (.cells #[.int .i64 0, .int .i64 0, .int .i64 4, .int .i64 2] 32)
  generalize (w2.alloc (.cells #[.int .i64 0, .int .i64 0, .int .i64 4, .int .i64 2] 32)) = A3 at *
  refine ((refSame_any exC exC _ _ A3 (by decide) (by decide) s4 z3)).mono ?_
  rintro r w3 ⟨rfl, m3, rfl⟩
  rw [decide_eq_true (rfl : exC = exC)]
  clear z3 s3 s4 t1 b4
  go_wp2_with fail
  have z4 := sees_lit exD (A3.drewN m3) 32 #[.int .i64 0, .int .i64 0, .int .i64 4, .int .i64 1, .int .i64 0, .int .i64 1, .int .i64 1, .int .i64 1, .int .i64 2, .int .i64 1, .int .i64 2, .int .i64 1] 3 rfl rfl (by decide)
  have t3 := t2.below ((below_drewN (Below.refl A3.heap.size A3) m3).alloc (Nat.le_refl _) (.cells #[.int .i64 0, .int .i64 0, .int .i64 4, .int .i64 1, .int .i64 0, .int .i64 1, .int .i64 1, .int .i64 1, .int .i64 2, .int .i64 1, .int .i64 2, .int .i64 1] 32))
  have b6 := (below_drewN b5 m3).alloc b5.size (.cells #[.int .i64 0, .int .i64 0, .int .i64 4, .int .i64 1, .int .i64 0, .int .i64 1, .int .i64 1, .int .i64 1, .int .i64 2, .int .i64 1, .int .i64 2, .int .i64 1] 32)
  generalize ((A3.drewN m3).alloc (.cells #[.int .i64 0, .int .i64 0, .int .i64 4, .int .i64 1, .int .i64 0, .int .i64 1, .int .i64 1, .int .i64 1, .int .i64 2, .int .i64 1, .int .i64 2, .int .i64 1] 32)) = A4 at *
  refine ((refSame_any exD exD _ _ A4 (by decide) (by decide) t3 z4)).mono ?_
  rintro r w4 ⟨rfl, m4, rfl⟩
  rw [decide_eq_true (rfl : exD = exD)]
  have t4 := t3.drewN m4
  have b7 := below_drewN b6 m4
  clear z4 t2 t3 b5 b6
  generalize A4.drewN m4 = A5 at *
  go_wp2_with fail
  refine (V3.out exD _ A5 (by decide) ex_wf.2.2.2 t4).mono ?_
  rintro r w5 ⟨rfl, c5⟩
  rw [ex_area]
  have t5 := t4.below c5
  have b8 := b7.trans (c5.mono b7.size)
  clear t4 b7 c5
  go_wp2_with fail
  refine (V4.out exD _ 0 1 w5 (by decide) ex_wf.2.2.2 (by decide) (by decide) t5).mono ?_
  rintro r w6 ⟨rfl, c6⟩
  rw [ex_has]
  have t6 := t5.below c6
  have b9 := b8.trans (c6.mono b8.size)
  go_wp2_with fail
  refine (V4.out exD _ 1 1 w6 (by decide) ex_wf.2.2.2 (by decide) (by decide) t6).mono ?_
  rintro r w7 ⟨rfl, c7⟩
  rw [ex_not]
  go_wp2_with fail
  go_ret
  exact ⟨rfl, b9.trans (c7.mono b9.size)⟩
end Go.Proofs.Ytedlhfemmofbpaa.Reg
