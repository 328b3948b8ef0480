/-
  The contracts of layer 11 in one form, and the document's examples.
-/
import Derived.Test.YtcjloklilabblaaFltProg
namespace Go.Proofs.Ytcjloklilabblaa.Flt
open Go.ChangeShapes Go.WideShapes Go.ChangeAt Go.RowKit
set_option linter.unusedVariables false

/-- A row filtered, unfiltered; whether it could be. -/
def filS (k st : Int) (p r : ByteArray) : ByteArray := if rightB k st p r then ⟨(filL k st p.data.toList r.data.toList r.size).toArray⟩ else ByteArray.empty
def unfS (k st : Int) (p r : ByteArray) : ByteArray := if rightB k st p r then ⟨(unfL k st p.data.toList r.data.toList r.size).toArray⟩ else ByteArray.empty
def erS (k st : Int) (p r : ByteArray) : Int := if rightB k st p r then 0 else 1

theorem fil_size (k st : Int) (p r : ByteArray) : (filS k st p r).size ≤ r.size := by
  unfold filS
  split
  · show (filL k st p.data.toList r.data.toList r.size).length ≤ _
    rw [filL_length]; exact Nat.le_refl _
  · exact Nat.zero_le _
theorem unf_size (k st : Int) (p r : ByteArray) : (unfS k st p r).size ≤ r.size := by
  unfold unfS
  split
  · show (unfL k st p.data.toList r.data.toList r.size).length ≤ _
    rw [unfL_length]; exact Nat.le_refl _
  · exact Nat.zero_le _
theorem fil_call (k st : Int) (p r : ByteArray) (hp : p.size ≤ 400) (hr : r.size ≤ 400) (hw : (Lit.int .i64 st).wf = true) (w : World) :
    Calls Try.prog 12 #[.int .i64 k, .int .i64 st, .string p, .string r] w fun e w' => e = .returned (.tuple #[.string (filS k st p r), .int .i64 (erS k st p r)]) ∧ Below w.heap.size w w' := filter_any k st p r hp hr hw w
theorem unf_call (k st : Int) (p r : ByteArray) (hp : p.size ≤ 400) (hr : r.size ≤ 400) (hw : (Lit.int .i64 st).wf = true) (w : World) :
    Calls Try.prog 14 #[.int .i64 k, .int .i64 st, .string p, .string r] w fun e w' => e = .returned (.tuple #[.string (unfS k st p r), .int .i64 (erS k st p r)]) ∧ Below w.heap.size w w' := unfilter_any k st p r hp hr hw w
theorem rfil_call (k st : Int) (p r : ByteArray) (hp : p.size ≤ 400) (hr : r.size ≤ 400) (hw : (Lit.int .i64 st).wf = true) (w : World) :
    Calls Try.prog 13 #[.int .i64 k, .int .i64 st, .string p, .string r] w fun e w' => e = .returned (.tuple #[.string (filS k st p r), .int .i64 (erS k st p r)]) ∧ Below w.heap.size w w' := refFilter_any k st p r hp hr hw w
theorem runf_call (k st : Int) (p r : ByteArray) (hp : p.size ≤ 400) (hr : r.size ≤ 400) (hw : (Lit.int .i64 st).wf = true) (w : World) :
    Calls Try.prog 15 #[.int .i64 k, .int .i64 st, .string p, .string r] w fun e w' => e = .returned (.tuple #[.string (unfS k st p r), .int .i64 (erS k st p r)]) ∧ Below w.heap.size w w' := refUnfilter_any k st p r hp hr hw w

theorem over_any (p r : ByteArray) (hp : p.size ≤ maxLen) (hr : r.size ≤ maxLen) (w : World) :
    Calls Try.prog 11 #[.string p, .string r] w fun e w' => e = .returned (.bool (decide (400 < p.size ∨ 400 < r.size))) ∧ w = w' := by
  unfold maxLen at hp hr
  by_cases h : 400 < p.size
  · have d : decide (400 < (p.size : Int)) = true := by simp; omega
    have d2 : decide (400 < p.size) = true := by simp; omega
    go_enter Try.func11, Try.ntmps11
    go_wp2_with fail
    go_ret
    exact ⟨ret_bool (decide_eq_true (.inl h)).symm, rfl⟩
  · have d : decide (400 < (p.size : Int)) = false := by simp; omega
    have d2 : decide (400 < p.size) = false := by simp; omega
    go_enter Try.func11, Try.ntmps11
    go_wp2_with fail
    go_ret
    exact ⟨ret_bool (decide_eq_decide.2 (by omega)), rfl⟩

theorem works_any (W : World) : Calls Try.prog 8 #[] W fun e w' => e = .returned (.bool true) ∧ Below W.heap.size W w' := by
  have w1 : (Lit.int .i64 1).wf = true := by decide
  have F := fun w => fil_call 1 1 ⟨#[]⟩ ⟨#[1, 3, 6]⟩ (by decide) (by decide) w1 w
  have U := fun w => unf_call 1 1 ⟨#[]⟩ ⟨#[1, 2, 3]⟩ (by decide) (by decide) w1 w
  have G := fun w => guess_any 4 10 20 12 (by decide) (by decide) (by decide) w
  have C := fun w => choose_any 1 ⟨#[]⟩ ⟨#[5, 5, 5]⟩ (by decide) (by decide) w1 w
  rw [show filS 1 1 ⟨#[]⟩ ⟨#[1, 3, 6]⟩ = ⟨#[1, 2, 3]⟩ by decide +kernel, show erS 1 1 ⟨#[]⟩ ⟨#[1, 3, 6]⟩ = 0 by decide +kernel] at F
  rw [show unfS 1 1 ⟨#[]⟩ ⟨#[1, 2, 3]⟩ = ⟨#[1, 3, 6]⟩ by decide +kernel, show erS 1 1 ⟨#[]⟩ ⟨#[1, 2, 3]⟩ = 0 by decide +kernel] at U
  rw [show guessI 4 10 20 12 = 20 by decide +kernel] at G
  rw [show bestK 1 ⟨#[]⟩ ⟨#[5, 5, 5]⟩ = 1 by decide +kernel] at C
  have FF := Lib.hid F
  have UU := Lib.hid U
  have GG := Lib.hid G
  have CC := Lib.hid C
  clear F U G C
  go_enter Try.func8, Try.ntmps8
  go_wp2_with fail
  refine (FF.out _).mono ?_
  rintro r w1 ⟨rfl, b1⟩
  go_wp2_with fail
  refine (UU.out _).mono ?_
  rintro r w2 ⟨rfl, b2⟩
  have b2 := b1.trans (b2.mono b1.size)
  clear b1
  go_wp2_with fail
  refine (GG.out _).mono ?_
  rintro r w3 ⟨rfl, b3⟩
  have b3 := b2.trans (b3.mono b2.size)
  clear b2
  go_wp2_with fail
  refine (CC.out _).mono ?_
  rintro r w4 ⟨rfl, b4⟩
  have b4 := b3.trans (b4.mono b3.size)
  clear b3
  go_wp2_with fail
  go_ret
  exact ⟨rfl, b4⟩
end Go.Proofs.Ytcjloklilabblaa.Flt
