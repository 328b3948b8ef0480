/-
  The document's examples of layer 1: 'works' returns true.
-/
import Derived.Test.YtbdlmcpdplmdnaaOctRefCur
namespace Go.Proofs.Ytbdlmcpdplmdnaa.Oct
open Go.ChangeShapes Go.WideShapes Go.ChangeAt Go.RowKit
set_option linter.unusedVariables false

theorem v_put : putS 2 258 = ⟨#[1, 2]⟩ := by decide +kernel
theorem v_lit : litS 2 258 = ⟨#[2, 1]⟩ := by decide +kernel
theorem v_pe : putE 2 258 = 0 := by decide +kernel
theorem v_no : putE 3 1 = 1 := by decide +kernel
theorem v_sgn : sgnS (-1) = ⟨#[255, 255, 255, 255]⟩ := by decide +kernel
theorem v_int : intV ⟨#[1, 2, 3]⟩ 0 0 2 = 258 := by decide +kernel
theorem v_i : numI ⟨#[1, 2, 3]⟩ 0 0 2 = 2 := by decide +kernel
theorem v_e : numE ⟨#[1, 2, 3]⟩ 0 0 2 = 0 := by decide +kernel
theorem v_end : endE ⟨#[1, 2, 3]⟩ 2 0 = 3 := by decide +kernel

end Go.Proofs.Ytbdlmcpdplmdnaa.Oct
