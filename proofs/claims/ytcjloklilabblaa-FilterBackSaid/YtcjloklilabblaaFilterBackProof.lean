/-
  Proved: a row that is filtered is unfiltered again, and a row that is unfiltered is filtered again, by the same kind and with the same row above; rows of more than 400 bytes are not asked about (statement FilterBack). Conditions: none.
-/
import Derived.Test.YtcjloklilabblaaRows
import Derived.Test.YtcjloklilabblaaFltWorks
import Derived.WalkKit
import Derived.ProofKit
import Derived.OpenShut
import Derived.ShutString
import Derived.ChangeOld
import Derived.Below
import Derived.Lib.SmallJoins
import Derived.Deep.Slices
namespace Go.Proofs.Ytcjloklilabblaa.filterBack
open Go.Proofs.Ytcjloklilabblaa.Flt
open Go.ChangeShapes Go.WideShapes Go.ChangeAt Go.RowKit
open Go.ChangeMaps (open_string shut_string)
set_option linter.unusedVariables false

theorem own : ownKnob Try.prog.godebug = none := by kernel_rfl
theorem laidOut : laidOutB Try.prog = true := by kernel_rfl

theorem early (k st : Int) (p r : ByteArray) (wp : p.size ≤ maxLen) (wr : r.size ≤ maxLen) (h : 400 < p.size ∨ 400 < r.size) (w : World) :
    Calls Try.prog 5 #[.int .i64 k, .int .i64 st, .string p, .string r] w fun e w' => e = .returned (.bool true) ∧ Below w.heap.size w w' := by
  have O := fun w => over_any p r wp wr w
  rw [decide_eq_true h] at O
  have OO := Lib.hid O
  clear O h
  go_enter Try.func5, Try.ntmps5
  go_wp2_with fail
  refine (works_any _).mono ?_
  rintro r w1 ⟨rfl, b1⟩
  go_wp2_with fail
  refine (OO.out _).mono ?_
  rintro r w2 ⟨rfl, rfl⟩
  go_wp2_with fail
  go_ret
  exact ⟨rfl, b1⟩
/-- Rows that may be filtered: there and back. -/
theorem there (k st : Int) (p r : ByteArray) (h : rightB k st p r = true) : (filS k st p r).size = r.size ∧ (unfS k st p r).size = r.size ∧ unfS k st p (filS k st p r) = r ∧ filS k st p (unfS k st p r) = r ∧ erS k st p r = 0 ∧ erS k st p (filS k st p r) = 0 ∧ erS k st p (unfS k st p r) = 0 := by
  have hst : 1 ≤ st := by simp only [rightB, decide_eq_true_iff] at h; omega
  have l1 : r.data.toList.length = r.size := by simp
  have z1 : (filS k st p r).size = r.size := by
    unfold filS; rw [if_pos h]
    show (filL k st p.data.toList r.data.toList r.size).length = _
    rw [filL_length]
  have z2 : (unfS k st p r).size = r.size := by
    unfold unfS; rw [if_pos h]
    show (unfL k st p.data.toList r.data.toList r.size).length = _
    rw [unfL_length]
  have h1 : rightB k st p (filS k st p r) = true := by simp only [rightB, decide_eq_true_iff] at h ⊢; omega
  have h2 : rightB k st p (unfS k st p r) = true := by simp only [rightB, decide_eq_true_iff] at h ⊢; omega
  have d1 : (filS k st p r).data.toList = filL k st p.data.toList r.data.toList r.size := by unfold filS; rw [if_pos h]
  have d2 : (unfS k st p r).data.toList = unfL k st p.data.toList r.data.toList r.size := by unfold unfS; rw [if_pos h]
  have e1 := unf_fil (k := k) hst p.data.toList r.data.toList r.data.toList.length (Nat.le_refl _)
  have e2 := fil_unf (k := k) hst p.data.toList r.data.toList r.data.toList.length (Nat.le_refl _)
  rw [List.take_length, l1] at e1 e2
  refine ⟨z1, z2, ?_, ?_, by unfold erS; rw [if_pos h], by unfold erS; rw [if_pos h1], by unfold erS; rw [if_pos h2]⟩
  · rw [unfS, if_pos h1, d1, z1, e1]
  · rw [filS, if_pos h2, d2, z2, e2]
theorem walk (k st : Int) (p r : ByteArray) (wst : (Lit.int .i64 st).wf = true) (wp : p.size ≤ maxLen) (wr : r.size ≤ maxLen) (w : World) :
    Calls Try.prog 5 #[.int .i64 k, .int .i64 st, .string p, .string r] w fun e w' => e = .returned (.bool true) ∧ Below w.heap.size w w' := by
  by_cases h : 400 < p.size ∨ 400 < r.size
  · exact early k st p r wp wr h w
  have O := fun w => over_any p r wp wr w
  rw [decide_eq_false h] at O
  have OO := Lib.hid O
  have hp : p.size ≤ 400 := by omega
  have hr : r.size ≤ 400 := by omega
  have F := Lib.hid (fun w => fil_call k st p r hp hr wst w)
  by_cases hR : rightB k st p r = true
  · obtain ⟨z1, z2, e1, e2, e3, e4, e5⟩ := there k st p r hR
    have V := fun w => unf_call k st p (filS k st p r) hp (by omega) wst w
    have U := Lib.hid (fun w => unf_call k st p r hp hr wst w)
    have G := fun w => fil_call k st p (unfS k st p r) hp (by omega) wst w
    rw [e1, e4] at V
    rw [e2, e5] at G
    have VV := Lib.hid V
    have GG := Lib.hid G
    clear O h wst wp wr V G e1 e2 e4 e5 hR
    generalize filS k st p r = A at *
    generalize unfS k st p r = B at *
    rw [e3] at F U
    clear e3
    have Z1 := Lib.hid z1
    clear z1
    have za : A.size ≤ 400 := by rw [Z1.out]; exact hr
    have y1 : ((A.size : Int) == r.size) = true := by rw [Z1.out]; simp
    have y2 : (A.size == r.size) = true := by rw [Z1.out]; simp
    go_enter Try.func5, Try.ntmps5
    go_wp2_with fail
    refine (works_any _).mono ?_
    rintro r w1 ⟨rfl, b1⟩
    go_wp2_with fail
    refine (OO.out _).mono ?_
    rintro r w2 ⟨rfl, rfl⟩
    go_wp2_with fail
    refine (F.out _).mono ?_
    rintro r w2 ⟨rfl, b2⟩
    have b2 := b1.trans (b2.mono b1.size)
    clear b1
    go_wp2_with fail
    refine (VV.out _).mono ?_
    rintro r w3 ⟨rfl, b3⟩
    have b3 := b2.trans (b3.mono b2.size)
    clear b2
    go_wp2_with fail
    refine (U.out _).mono ?_
    rintro r w4 ⟨rfl, b4⟩
    have b4 := b3.trans (b4.mono b3.size)
    clear b3
    go_wp2_with fail
    refine (GG.out _).mono ?_
    rintro r w5 ⟨rfl, b5⟩
    have b5 := b4.trans (b5.mono b4.size)
    clear b4
    go_wp2_with fail
    go_ret
    exact ⟨rfl, b5⟩
  · have e1 : filS k st p r = ByteArray.empty := by unfold filS; rw [if_neg hR]
    have e2 : erS k st p r = 1 := by unfold erS; rw [if_neg hR]
    rw [e1, e2] at F
    clear O h wst wp wr e1 e2 hR
    go_enter Try.func5, Try.ntmps5
    go_wp2_with fail
    refine (works_any _).mono ?_
    rintro r w1 ⟨rfl, b1⟩
    go_wp2_with fail
    refine (OO.out _).mono ?_
    rintro r w2 ⟨rfl, rfl⟩
    go_wp2_with fail
    refine (F.out _).mono ?_
    rintro r w2 ⟨rfl, b2⟩
    have b2 := b1.trans (b2.mono b1.size)
    clear b1
    go_wp2_with fail
    go_ret
    exact ⟨rfl, b2⟩

set_option maxRecDepth 100000 in
theorem lifted (os : Os) (started : os.Started) (H : Type) (enc : TypeId × Value → H) :
    ReturnsInHanded {} Try.checked os 5 .any (Rows.filterBackSpec.pre6 enc Try.prog Try.f5 Rows.filterBackRow.domain false) (Rows.filterBackSpec.post enc Try.prog Try.f5 false true false false) := by
  refine returnsInHanded_of_change (C := Try.checked) own started (by kernel_rfl) Try.func5
    (ChangeSpec.witness6 (enc := enc) (C := Try.checked) false ⟨#[], #[.int .i64 0, .int .i64 0, .string ByteArray.empty, .string ByteArray.empty], []⟩ 8 (by kernel_rfl) (by kernel_rfl) (by kernel_rfl) (by kernel_rfl)) ?_
  intro W base args ds gs before hval0 hW hcnd _
  have hval : ∀ (j : Nat) t v, Try.f5.params[j]? = some t → args[j]? = some v → Value.okWide Try.prog W .any base t v := hval0
  have hW' := hW
  obtain ⟨p, q, hA0, hV, rfl, hfz, hnd⟩ := hW
  have hA : DataW.TrodAll enc Try.prog W 0 (fun _ => true) true Try.f5.params.toList args.toList ds p := hA0
  rw [Try.params5] at hA hval
  obtain ⟨v0, vs0, d0, ds0, p0, q0, hargs, rfl, rfl, h0, r0⟩ := trodAll_cons hA
  obtain ⟨v1, vs1, d1, ds1, p1, q1, rfl, rfl, rfl, h1, r1⟩ := trodAll_cons r0
  obtain ⟨v2, vs2, d2, ds2, p2, q2, rfl, rfl, rfl, h2, r2⟩ := trodAll_cons r1
  obtain ⟨v3, vs3, d3, ds3, p3, q3, rfl, rfl, rfl, h3, r3⟩ := trodAll_cons r2
  obtain ⟨rfl, rfl, rfl⟩ := trodAll_nil r3
  obtain rfl : args = #[v0, v1, v2, v3] := by cases args; simp_all
  obtain ⟨rfl, rfl⟩ := trodVars_none hV
  have k0 := h0
  have lt0 : ∀ x ∈ p0, x.block < W.heap.size := by obtain ⟨m, hm⟩ := k0; exact DataW.trod_lt m _ _ _ hm
  obtain ⟨a0, rfl, rfl, rfl, w0⟩ := open_int Try.underlying3 (hval 0 3 v0 rfl rfl) h0
  have k1 := h1
  have lt1 : ∀ x ∈ p1, x.block < W.heap.size := by obtain ⟨m, hm⟩ := k1; exact DataW.trod_lt m _ _ _ hm
  obtain ⟨a1, rfl, rfl, rfl, w1⟩ := open_int Try.underlying3 (hval 1 3 v1 rfl rfl) h1
  have k2 := h2
  have lt2 : ∀ x ∈ p2, x.block < W.heap.size := by obtain ⟨m, hm⟩ := k2; exact DataW.trod_lt m _ _ _ hm
  obtain ⟨a2, rfl, rfl, rfl, w2⟩ := open_string Try.underlying9 (hval 2 9 v2 rfl rfl) h2
  have k3 := h3
  have lt3 : ∀ x ∈ p3, x.block < W.heap.size := by obtain ⟨m, hm⟩ := k3; exact DataW.trod_lt m _ _ _ hm
  obtain ⟨a3, rfl, rfl, rfl, w3⟩ := open_string Try.underlying9 (hval 3 9 v3 rfl rfl) h3
  clear hA0 hval0
  refine (walk a0 a1 a2 a3 w1 w2 w3 W).mono fun e W' ⟨he, bel⟩ => ?_
  subst he
  exact ⟨_, rfl, _, _, _, [], _, [], hW', trodAll_mk1 (shut_bool Try.underlying4 _), (trodAll_cons_mk (Below.trod laidOut (by kernel_rfl) (of_decide_eq_true (by kernel_rfl)) k0 bel lt0) (trodAll_cons_mk (Below.trod laidOut (by kernel_rfl) (of_decide_eq_true (by kernel_rfl)) k1 bel lt1) (trodAll_cons_mk (Below.trod laidOut (by kernel_rfl) (of_decide_eq_true (by kernel_rfl)) k2 bel lt2) (trodAll_cons_mk (Below.trod laidOut (by kernel_rfl) (of_decide_eq_true (by kernel_rfl)) k3 bel lt3) trodAll_mk0)))), rfl, bel.frame _, fun h => by cases h⟩

theorem over : Rows.filterBackRow.holds Try.pinned (OpenSpec.ofChange Rows.filterBackSpec) :=
  OpenClaim.holds_of_wide 5 Try.f5 rfl rfl rfl rfl rfl rfl rfl ⟨rfl, rfl, rfl, rfl, rfl⟩ rfl rfl rfl rfl rfl (by kernel_rfl) Try.func5 (by kernel_rfl)
    (of_decide_eq_true (by kernel_rfl)) (by unfold Func.isWrapper; first | (rw [if_pos (by decide +kernel)]; kernel_rfl) | (rw [if_neg (by decide +kernel)]; exact ⟨rfl, rfl⟩))
    (fun os started H enc _ => lifted os started H enc)

theorem proved : Rows.FilterBackSaid := over
end Go.Proofs.Ytcjloklilabblaa.filterBack
