/-
  The document's examples of layer 1: 'works' returns true.
-/
import Derived.Test.YtfelecomjllphaaOctRefCur
namespace Go.Proofs.Ytfelecomjllphaa.Oct
open Go.ChangeShapes Go.WideShapes Go.ChangeAt Go.RowKit
set_option linter.unusedVariables false

theorem v_put : putS 2 258 = ⟨#[1, 2]⟩ := by decide +kernel
theorem v_lit : litS 2 258 = ⟨#[2, 1]⟩ := by decide +kernel
theorem v_pe : putE 2 258 = 0 := by decide +kernel
theorem v_no : putE 3 1 = 1 := by decide +kernel
theorem v_sgn : sgnS (-1) = ⟨#[255, 255, 255, 255]⟩ := by decide +kernel
theorem v_int : intV ⟨#[1, 2, 3]⟩ 0 0 2 = 258 := by decide +kernel
theorem v_i : numI ⟨#[1, 2, 3]⟩ 0 0 2 = 2 := by decide +kernel
theorem v_e : numE ⟨#[1, 2, 3]⟩ 0 0 2 = 0 := by decide +kernel
theorem v_end : endE ⟨#[1, 2, 3]⟩ 2 0 = 3 := by decide +kernel

set_option maxHeartbeats 1000000 in
theorem works_any (w : World) :
    Calls Try.prog 8 #[] w fun e w' => e = .returned (.bool true) ∧ Below w.heap.size w w' := by
  go_enter Try.func8, Try.ntmps8
  go_wp2_with fail
  refine (put_any _ _ _).mono ?_
  rintro r w1 ⟨rfl, b1⟩
  rw [v_put, v_pe]
  go_wp2_with fail
  refine (little_any _ _ _).mono ?_
  rintro r w2 ⟨rfl, b2⟩
  rw [v_lit, v_pe]
  go_wp2_with fail
  refine (put_any _ _ _).mono ?_
  rintro r w3 ⟨rfl, b3⟩
  rw [v_no]
  go_wp2_with fail
  refine (new_any _ _).mono ?_
  rintro r w4 ⟨rfl, c4, b4⟩
  go_wp2_with fail
  refine (int_any _ _ _ _ _ _ c4 (by decide) (by decide) (by decide)).mono ?_
  rintro r w5 ⟨rfl, c5, g5⟩
  rw [v_int]
  rw [v_i, v_e] at c5
  go_wp2_with fail
  refine (signed_any _ _).mono ?_
  rintro r w6 ⟨rfl, b6⟩
  rw [v_sgn]
  have c6 := c5.below b6 c5.lt
  go_wp2_with fail
  refine (left_any _ _ _ _ _ c6 (by decide) (by decide) (by decide)).mono ?_
  rintro r w7 ⟨rfl, n7, rfl⟩
  go_wp2_with fail
  refine (at_any _ _ _ _ _ (show CurAt _ (w6.drewN n7) _ _ _ _ from c6)).mono ?_
  rintro r w8 ⟨rfl, rfl⟩
  go_wp2_with fail
  refine (end_any _ _ _ _ _ (show CurAt _ (w6.drewN n7) _ _ _ _ from c6) (by decide) (by decide) (by decide)).mono ?_
  rintro r w9 ⟨rfl, n9, rfl⟩
  rw [v_end]
  go_wp2_with fail
  go_ret
  have b13 := below_next (below_next b1 b2) b3
  exact ⟨rfl, below_drewN (below_next (below_grown (below_next b13 b4) g5 b13.size) b6) _⟩

end Go.Proofs.Ytfelecomjllphaa.Oct
