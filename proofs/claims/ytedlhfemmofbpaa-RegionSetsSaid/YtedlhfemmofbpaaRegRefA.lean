/-
  Contracts of the reference of layer 15 (region): which rectangles count, and which places are in them.
-/
import Derived.Test.YtedlhfemmofbpaaRegRow
import Derived.WalkKit
import Derived.Deep.DeepCutAuto
namespace Go.Proofs.Ytedlhfemmofbpaa.Reg
open Go.ChangeShapes Go.WideShapes Go.ChangeAt Go.RowKit Lz RowG
set_option linter.unusedVariables false
set_option maxRecDepth 100000

theorem retB {a b : Bool} (h : a = b) : Ending.returned (Value.bool a) = Ending.returned (.bool b) := by rw [h]
theorem refNear_any (n : Int) (w : World) :
    Calls Try.prog 44 #[.int .i64 n] w fun e w' => e = .returned (.bool (near n)) ∧ w = w' := by
  by_cases h1 : -1048576 ≤ n
  · have d1 : decide (-1048576 ≤ n) = true := decide_eq_true h1
    by_cases h2 : n ≤ 1048576
    · have d2 : decide (n ≤ 1048576) = true := decide_eq_true h2
      go_enter Try.func44, Try.ntmps44
      go_wp2_with fail
      go_ret
      exact ⟨retB (decide_eq_true ⟨h1, h2⟩).symm, rfl⟩
    · have d2 : decide (n ≤ 1048576) = false := decide_eq_false h2
      go_enter Try.func44, Try.ntmps44
      go_wp2_with fail
      go_ret
      exact ⟨retB (decide_eq_false (by omega)).symm, rfl⟩
  · have d1 : decide (-1048576 ≤ n) = false := decide_eq_false h1
    go_enter Try.func44, Try.ntmps44
    go_wp2_with fail
    go_ret
    exact ⟨retB (decide_eq_false (by omega)).symm, rfl⟩

theorem box4 (w : World) (r : Rc) (T : TypeId) : RcAt (w.alloc (.cells #[.int .i64 r.x, .int .i64 r.y, .int .i64 r.w, .int .i64 r.h] T)) w.heap.size 0 r := by
  have := heap_alloc_new w (.cells #[.int .i64 r.x, .int .i64 r.y, .int .i64 r.w, .int .i64 r.h] T)
  refine ⟨?_, ?_, ?_, ?_⟩
  all_goals
    simp only [World.cell?, this]
    rfl
theorem RcAt.below {w w' : World} {b o n : Nat} {r : Rc} (h : RcAt w b o r) (k : Below n w w') (hb : b < n) : RcAt w' b o r :=
  ⟨(k.cell hb).trans h.1, (k.cell hb).trans h.2.1, (k.cell hb).trans h.2.2.1, (k.cell hb).trans h.2.2.2⟩
theorem alloc_size (w : World) (o : Obj) : (w.alloc o).heap.size = w.heap.size + 1 := by simp [World.alloc, -World.alloc_eq]
theorem counts_eq (r : Rc) : counts r = (near r.x && (near r.y && (decide (1 ≤ r.w) && (decide (1 ≤ r.h) && (decide (r.w ≤ 2097152) && (decide (r.h ≤ 2097152) && (near (r.x + r.w) && near (r.y + r.h)))))))) := by
  rw [Bool.eq_iff_iff, counts_iff]
  unfold near
  simp only [Bool.and_eq_true, decide_eq_true_eq]
  omega
set_option maxHeartbeats 4000000 in
theorem refCounts_any (r : Rc) (w : World) :
    Calls Try.prog 36 #[r.v] w fun e w' => e = .returned (.bool (counts r)) ∧ Below w.heap.size w w' := by
  have AT := box4 w r 32
  have bel := (Below.refl w.heap.size w).alloc (Nat.le_refl _) (.cells #[.int .i64 r.x, .int .i64 r.y, .int .i64 r.w, .int .i64 r.h] 32)
  have HC := Lib.hid (counts_eq r)
  generalize counts r = CC at *
  obtain ⟨x, y, u, v⟩ := r
  unfold Rc.v
  simp only at *
  obtain ⟨c0, c1, c2, c3⟩ := AT
  simp only [Nat.zero_add] at c0 c1 c2 c3
  have N1 := Lib.hid (refNear_any x)
  have N2 := Lib.hid (refNear_any y)
  have N3 := Lib.hid (refNear_any (x + u))
  have N4 := Lib.hid (refNear_any (y + v))
  have nx : near x = true → -1048576 ≤ x ∧ x ≤ 1048576 := fun h => of_decide_eq_true h
  have ny : near y = true → -1048576 ≤ y ∧ y ≤ 1048576 := fun h => of_decide_eq_true h
  have NX := Lib.hid nx
  have NY := Lib.hid ny
  clear nx ny
  generalize near x = b1 at *
  generalize near y = b2 at *
  generalize near (x + u) = b3 at *
  generalize near (y + v) = b4 at *
  go_enter Try.func36, Try.ntmps36
  go_wp2_with fail
  generalize w.alloc (.cells #[.int .i64 x, .int .i64 y, .int .i64 u, .int .i64 v] 32) = w1 at *
  refine (N1.out _).mono ?_
  rintro r w' ⟨rfl, rfl⟩
  cases b1 with
  | false =>
    go_wp2_with fail
    go_ret
    exact ⟨retB (HC.out.trans (by simp)).symm, bel⟩
  | true =>
  have hx := NX.out (by simp)
  go_wp2_with fail
  refine (N2.out _).mono ?_
  rintro r w' ⟨rfl, rfl⟩
  cases b2 with
  | false =>
    go_wp2_with fail
    go_ret
    exact ⟨retB (HC.out.trans (by simp)).symm, bel⟩
  | true =>
  have hy := NY.out (by simp)
  clear N1 N2 NX NY
  by_cases h1 : 1 ≤ u
  · have d1 : decide (1 ≤ u) = true := decide_eq_true h1
    by_cases h2 : 1 ≤ v
    · have d2 : decide (1 ≤ v) = true := decide_eq_true h2
      by_cases h3 : u ≤ 2097152
      · have d3 : decide (u ≤ 2097152) = true := decide_eq_true h3
        by_cases h4 : v ≤ 2097152
        · have d4 : decide (v ≤ 2097152) = true := decide_eq_true h4
          have w1' : IntKind.i64.wrap (x + u) = x + u := IntWalk.i64_in _ (by omega)
          have w2' : IntKind.i64.wrap (y + v) = y + v := IntWalk.i64_in _ (by omega)
          have w3' : wrap64 (x + u) = x + u := IntWalk.wrap64_in _ (by omega)
          have w4' : wrap64 (y + v) = y + v := IntWalk.wrap64_in _ (by omega)
          go_wp2_with fail
          refine (N3.out _).mono ?_
          rintro r w' ⟨rfl, rfl⟩
          cases b3 with
          | false =>
            go_wp2_with fail
            go_ret
            exact ⟨retB (HC.out.trans (by simp)).symm, bel⟩
          | true =>
          go_wp2_with fail
          refine (N4.out _).mono ?_
          rintro r w' ⟨rfl, rfl⟩
          go_wp2_with fail
          go_ret
          exact ⟨retB (HC.out.trans (by rw [d1, d2, d3, d4]; simp)).symm, bel⟩
        · have d4 : decide (v ≤ 2097152) = false := decide_eq_false h4
          go_wp2_with fail
          go_ret
          exact ⟨retB (HC.out.trans (by rw [d4]; simp)).symm, bel⟩
      · have d3 : decide (u ≤ 2097152) = false := decide_eq_false h3
        go_wp2_with fail
        go_ret
        exact ⟨retB (HC.out.trans (by rw [d3]; simp)).symm, bel⟩
    · have d2 : decide (1 ≤ v) = false := decide_eq_false h2
      go_wp2_with fail
      go_ret
      exact ⟨retB (HC.out.trans (by rw [d2]; simp)).symm, bel⟩
  · have d1 : decide (1 ≤ u) = false := decide_eq_false h1
    go_wp2_with fail
    go_ret
    exact ⟨retB (HC.out.trans (by rw [d1]; simp)).symm, bel⟩
end Go.Proofs.Ytedlhfemmofbpaa.Reg
