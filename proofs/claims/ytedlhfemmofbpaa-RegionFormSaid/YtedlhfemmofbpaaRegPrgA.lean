/-
  Contracts of the program's region: which rectangles count, which places they have, what is kept, how far is too far.
-/
import Derived.Shelf.Abstract
import Derived.Test.YtedlhfemmofbpaaRegPrgM
namespace Go.Proofs.Ytedlhfemmofbpaa.Reg
open Go.ChangeShapes Go.WideShapes Go.ChangeAt Go.RowKit Go.Shelf Lz RowG RegVal
set_option linter.unusedVariables false
set_option maxRecDepth 100000

def nearB (a n : Int) : Bool := decide (-1048576 ≤ a ∧ 1 ≤ n ∧ a + n ≤ 1048576)
theorem counts_near (r : Rc) : counts r = (nearB r.x r.w && nearB r.y r.h) := by
  rw [Bool.eq_iff_iff, counts_iff]
  unfold nearB
  simp only [Bool.and_eq_true, decide_eq_true_eq]
theorem isNear_any (a n : Int) (ha : (Lit.int .i64 a).wf = true) (w : World) :
    Calls Try.prog 43 #[.int .i64 a, .int .i64 n] w fun e w' => e = .returned (.bool (nearB a n)) ∧ w = w' := by
  have hb := wf_bd ha
  clear ha
  have HD : RowKit.Hid (nearB a n = decide (-1048576 ≤ a ∧ 1 ≤ n ∧ a + n ≤ 1048576)) := Lib.hid rfl
  generalize nearB a n = RES at *
  by_cases h0 : -1048576 ≤ a
  case neg =>
    have d0 : decide (-1048576 ≤ a) = false := decide_eq_false h0
    have hres : RES = false := HD.out.trans (decide_eq_false (fun h => h0 (by omega)))
    subst hres
    clear HD h0
    go_enter Try.func43, Try.ntmps43
    go_wp2_with fail
    go_ret
    exact ⟨rfl, rfl⟩
  have d0 : decide (-1048576 ≤ a) = true := decide_eq_true h0
  by_cases h1 : 1 ≤ n
  case neg =>
    have d1 : decide (1 ≤ n) = false := decide_eq_false h1
    have hres : RES = false := HD.out.trans (decide_eq_false (fun h => h1 (by omega)))
    subst hres
    clear HD h0 h1
    go_enter Try.func43, Try.ntmps43
    go_wp2_with fail
    go_ret
    exact ⟨rfl, rfl⟩
  have d1 : decide (1 ≤ n) = true := decide_eq_true h1
  obtain ⟨q, hq⟩ : ∃ q, 1048576 - a = q := ⟨_, rfl⟩
  have w1 : IntKind.i64.wrap (1048576 - a) = q := (IntWalk.i64_in _ (by omega)).trans hq
  have w2 : wrap64 (1048576 - a) = q := (IntWalk.wrap64_in _ (by omega)).trans hq
  have hres : RES = decide (n ≤ q) := HD.out.trans (decide_eq_decide.2 ⟨fun h => by omega, fun h => ⟨h0, h1, by omega⟩⟩)
  subst hres
  clear HD h0 h1 hb hq
  go_enter Try.func43, Try.ntmps43
  go_wp2_with fail
  go_ret
  exact ⟨rfl, rfl⟩
def farB (n : Int) : Bool := decide (n < -2097152 ∨ 2097152 < n)
theorem isTooMuch_any (n : Int) (w : World) :
    Calls Try.prog 32 #[.int .i64 n] w fun e w' => e = .returned (.bool (farB n)) ∧ w = w' := by
  have HD : RowKit.Hid (farB n = decide (n < -2097152 ∨ 2097152 < n)) := Lib.hid rfl
  generalize farB n = RES at *
  by_cases h1 : n < -2097152
  · have d1 : decide (n < -2097152) = true := decide_eq_true h1
    have hres : RES = true := HD.out.trans (decide_eq_true (.inl h1))
    subst hres
    clear HD h1
    go_enter Try.func32, Try.ntmps32
    go_wp2_with fail
    go_ret
    exact ⟨rfl, rfl⟩
  · have d1 : decide (n < -2097152) = false := decide_eq_false h1
    have hres : RES = decide (2097152 < n) := HD.out.trans (decide_eq_decide.2 ⟨fun h => h.resolve_left h1, .inr⟩)
    subst hres
    clear HD h1
    go_enter Try.func32, Try.ntmps32
    go_wp2_with fail
    go_ret
    exact ⟨rfl, rfl⟩
set_option maxHeartbeats 1000000 in
theorem counts_any (r : Rc) (hr : r.wf) (w : World) :
    Calls Try.prog 35 #[r.v] w fun e w' => e = .returned (.bool (counts r)) ∧ Below w.heap.size w w' := by
  have AT := box4 w r 32
  have bel := (Below.refl w.heap.size w).alloc (Nat.le_refl _) (.cells #[.int .i64 r.x, .int .i64 r.y, .int .i64 r.w, .int .i64 r.h] 32)
  rw [counts_near]
  obtain ⟨x, y, u, v⟩ := r
  obtain ⟨h1, h2, h3, h4⟩ := hr
  unfold Rc.v
  simp only at *
  obtain ⟨c0, c1, c2, c3⟩ := AT
  simp only [Nat.zero_add] at c0 c1 c2 c3
  have N1 := Lib.hid (isNear_any x u h1)
  have N2 := Lib.hid (isNear_any y v h2)
  generalize nearB x u = b1 at *
  generalize nearB y v = b2 at *
  clear h1 h2 h3 h4
  go_enter Try.func35, Try.ntmps35
  go_wp2_with fail
  generalize w.alloc (.cells #[.int .i64 x, .int .i64 y, .int .i64 u, .int .i64 v] 32) = w1 at *
  refine (N1.out _).mono ?_
  rintro r w' ⟨rfl, rfl⟩
  cases b1 with
  | false =>
    go_wp2_with fail
    go_ret
    exact ⟨rfl, bel⟩
  | true =>
    go_wp2_with fail
    refine (N2.out _).mono ?_
    rintro r w' ⟨rfl, rfl⟩
    go_wp2_with fail
    go_ret
    exact ⟨rfl, bel⟩
theorem drop_any (r : Rc) (hr : r.wf) (w : World) :
    Calls Try.prog 47 #[r.v] w fun e w' => e = .returned (.bool (!counts r)) ∧ Below w.heap.size w w' := by
  have AT := box4 w r 32
  have bel := (Below.refl w.heap.size w).alloc (Nat.le_refl _) (.cells #[.int .i64 r.x, .int .i64 r.y, .int .i64 r.w, .int .i64 r.h] 32)
  have C := Lib.hid (counts_any r hr)
  obtain ⟨x, y, u, v⟩ := r
  generalize counts ⟨x, y, u, v⟩ = b at *
  unfold Rc.v at *
  simp only at *
  obtain ⟨c0, c1, c2, c3⟩ := AT
  simp only [Nat.zero_add] at c0 c1 c2 c3
  clear hr
  go_enter Try.func47, Try.ntmps47
  go_wp2_with fail
  generalize w.alloc (.cells #[.int .i64 x, .int .i64 y, .int .i64 u, .int .i64 v] 32) = w1 at *
  refine (C.out _).mono ?_
  rintro r w' ⟨rfl, b2⟩
  have bel2 := bel.trans (b2.mono bel.size)
  clear b2 bel C c0 c1 c2 c3
  go_wp2_with fail
  go_ret
  exact ⟨rfl, bel2⟩
/-- What a function keeps of two truths. -/
structure Keeps (g : Nat) (f : Bool → Bool → Bool) : Prop where
  enters : ∀ (args : Array Value) (w : World), (callFunc g args).run Try.prog w = .ok (.enter g args) w
  says : ∀ (p q : Bool) (w : World), Calls Try.prog g #[.bool p, .bool q] w fun e w' => e = .returned (.bool (f p q)) ∧ w = w'
theorem keeps_or : Keeps 29 fOr := by
  refine ⟨enters_of Try.func29 (by kernel_rfl) rfl, fun p q w => ?_⟩
  cases p <;> cases q <;> go_enter Try.func29, Try.ntmps29 <;> go_wp2_with fail
  all_goals
    go_ret
    exact ⟨rfl, rfl⟩
theorem keeps_minus : Keeps 30 fMinus := by
  refine ⟨enters_of Try.func30 (by kernel_rfl) rfl, fun p q w => ?_⟩
  cases p <;> cases q <;> go_enter Try.func30, Try.ntmps30 <;> go_wp2_with fail
  all_goals
    go_ret
    exact ⟨rfl, rfl⟩
theorem keeps_and : Keeps 31 fAnd := by
  refine ⟨enters_of Try.func31 (by kernel_rfl) rfl, fun p q w => ?_⟩
  cases p <;> cases q <;> go_enter Try.func31, Try.ntmps31 <;> go_wp2_with fail
  all_goals
    go_ret
    exact ⟨rfl, rfl⟩
set_option maxHeartbeats 1000000 in
theorem here_any (r : Rc) (hr : r.wf) (x y : Int) (w : World) (Bx By : Nat) (hx : w.cell? ⟨Bx, 0, none⟩ = some (.int .i64 x)) (hy : w.cell? ⟨By, 0, none⟩ = some (.int .i64 y)) :
    Calls Try.prog 34 #[r.v, .pointer (some ⟨Bx, 0, none⟩), .pointer (some ⟨By, 0, none⟩)] w fun e w' => e = .returned (.bool (inR r x y)) ∧ Below w.heap.size w w' := by
  have HD := Lib.hid (inR_eq r x y)
  generalize inR r x y = RES at *
  have AT := box4 w r 32
  have bel := (Below.refl w.heap.size w).alloc (Nat.le_refl _) (.cells #[.int .i64 r.x, .int .i64 r.y, .int .i64 r.w, .int .i64 r.h] 32)
  have lt := fun (B : Nat) (v : Value) (h : w.cell? ⟨B, 0, none⟩ = some v) => World.block_lt_of_cell? w _ h
  have kx := lt _ _ hx
  have ky := lt _ _ hy
  have hx1 := (bel.cell (p := ⟨Bx, 0, none⟩) kx).trans hx
  have hy1 := (bel.cell (p := ⟨By, 0, none⟩) ky).trans hy
  have C := Lib.hid (counts_any r hr)
  have HC := Lib.hid (fun (h : counts r = true) => counts_iff.1 h)
  obtain ⟨a, b, u, v⟩ := r
  generalize counts ⟨a, b, u, v⟩ = cc at *
  unfold Rc.v at *
  simp only at *
  obtain ⟨c0, c1, c2, c3⟩ := AT
  simp only [Nat.zero_add] at c0 c1 c2 c3
  clear hr lt hx hy
  go_enter Try.func34, Try.ntmps34
  go_wp2_with fail
  have z := alloc_size w (.cells #[.int .i64 a, .int .i64 b, .int .i64 u, .int .i64 v] 32)
  generalize w.alloc (.cells #[.int .i64 a, .int .i64 b, .int .i64 u, .int .i64 v] 32) = w1 at *
  refine (C.out _).mono ?_
  rintro r w' ⟨rfl, b2⟩
  have bel2 := bel.trans (b2.mono bel.size)
  have e0 := (b2.cell (p := ⟨w.heap.size, 0, none⟩) (show w.heap.size < w1.heap.size by omega)).trans c0
  have e1 := (b2.cell (p := ⟨w.heap.size, 1, none⟩) (show w.heap.size < w1.heap.size by omega)).trans c1
  have e2 := (b2.cell (p := ⟨w.heap.size, 2, none⟩) (show w.heap.size < w1.heap.size by omega)).trans c2
  have e3 := (b2.cell (p := ⟨w.heap.size, 3, none⟩) (show w.heap.size < w1.heap.size by omega)).trans c3
  have ex := (b2.cell (p := ⟨Bx, 0, none⟩) (show Bx < w1.heap.size by omega)).trans hx1
  have ey := (b2.cell (p := ⟨By, 0, none⟩) (show By < w1.heap.size by omega)).trans hy1
  clear b2 bel C c0 c1 c2 c3 hx1 hy1 z kx ky
  cases cc with
  | false =>
    go_wp2_with fail
    go_ret
    exact ⟨retB HD.out.symm, bel2⟩
  | true =>
  obtain ⟨⟨g1, g2, g3⟩, g4, g5, g6⟩ := HC.out rfl
  obtain ⟨X, hX⟩ : ∃ X, a + u = X := ⟨_, rfl⟩
  obtain ⟨Y, hY⟩ : ∃ Y, b + v = Y := ⟨_, rfl⟩
  by_cases k1 : a ≤ x
  case neg =>
    have d1 : decide (a ≤ x) = false := decide_eq_false k1
    clear k1
    go_wp2_with fail
    go_ret
    exact ⟨retB (HD.out.trans (by rw [d1]; rfl)).symm, bel2⟩
  have d1 : decide (a ≤ x) = true := decide_eq_true k1
  have f1 : IntKind.i64.wrap (a + u) = X := (IntWalk.i64_in _ (by omega)).trans hX
  have f2 : wrap64 (a + u) = X := (IntWalk.wrap64_in _ (by omega)).trans hX
  have f3 : IntKind.i64.wrap (b + v) = Y := (IntWalk.i64_in _ (by omega)).trans hY
  have f4 : wrap64 (b + v) = Y := (IntWalk.wrap64_in _ (by omega)).trans hY
  have HD := Lib.hid (by have := HD.out; rwa [hX, hY] at this)
  clear k1 g1 g2 g3 g4 g5 g6 hX hY HC
  by_cases k2 : x < X
  case neg =>
    have d2 : decide (x < X) = false := decide_eq_false k2
    clear k2
    go_wp2_with fail
    go_ret
    exact ⟨retB (HD.out.trans (by rw [d1, d2]; rfl)).symm, bel2⟩
  have d2 : decide (x < X) = true := decide_eq_true k2
  by_cases k3 : b ≤ y
  case neg =>
    have d3 : decide (b ≤ y) = false := decide_eq_false k3
    clear k2 k3
    go_wp2_with fail
    go_ret
    exact ⟨retB (HD.out.trans (by rw [d1, d2, d3]; rfl)).symm, bel2⟩
  have d3 : decide (b ≤ y) = true := decide_eq_true k3
  clear k2 k3
  go_wp2_with fail
  go_ret
  exact ⟨retB (HD.out.trans (by rw [d1, d2, d3]; simp)).symm, bel2⟩
end Go.Proofs.Ytedlhfemmofbpaa.Reg
