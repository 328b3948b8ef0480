/-
  Proved: what octets.Cursor reads in two steps is what it reads at once (statement OctetsSplit). Conditions: none.
-/
import Derived.Test.YtfelecomjllphaaRows
import Derived.Test.YtfelecomjllphaaOctWorks
import Derived.WalkKit
import Derived.ProofKit
import Derived.OpenShut
import Derived.ShutString
import Derived.ChangeOld
import Derived.Below
namespace Go.Proofs.Ytfelecomjllphaa.octetsSplit
open Go.Proofs.Ytfelecomjllphaa.Oct
open Go.ChangeShapes Go.WideShapes Go.ChangeAt Go.RowKit
open Go.ChangeMaps (open_string shut_string)
set_option linter.unusedVariables false    
theorem own : ownKnob Try.prog.godebug = none := by kernel_rfl

theorem early (a0 : ByteArray) (a1 a2 : Int) (w : World) (w0 : a0.size ≤ maxLen) (hb : 300 < a0.size ∨ a1 < 0 ∨ a2 < 0 ∨ (a0.size : Int) < a1 ∨ (a0.size : Int) - a1 < a2) :
    Calls Try.prog 7 #[.string a0, .int .i64 a1, .int .i64 a2] w fun e w' => e = .returned (.bool true) ∧ Below w.heap.size w w' := by
  unfold maxLen at w0
  by_cases h1 : 300 < a0.size
  · go_enter Try.func7, Try.ntmps7
    go_wp2_with fail
    refine (works_any _).mono ?_
    rintro r w1 ⟨rfl, b1⟩
    go_wp2_with fail
    all_goals (go_ret; exact ⟨rfl, b1⟩)
  by_cases h2 : a1 < 0
  · go_enter Try.func7, Try.ntmps7
    go_wp2_with fail
    refine (works_any _).mono ?_
    rintro r w1 ⟨rfl, b1⟩
    go_wp2_with fail
    all_goals (go_ret; exact ⟨rfl, b1⟩)
  by_cases h3 : a2 < 0
  · go_enter Try.func7, Try.ntmps7
    go_wp2_with fail
    refine (works_any _).mono ?_
    rintro r w1 ⟨rfl, b1⟩
    go_wp2_with fail
    all_goals (go_ret; exact ⟨rfl, b1⟩)
  by_cases h4 : (a0.size : Int) < a1
  · go_enter Try.func7, Try.ntmps7
    go_wp2_with fail
    refine (works_any _).mono ?_
    rintro r w1 ⟨rfl, b1⟩
    go_wp2_with fail
    all_goals (go_ret; exact ⟨rfl, b1⟩)
  have h5 : (a0.size : Int) - a1 < a2 := by omega
  go_enter Try.func7, Try.ntmps7
  go_wp2_with fail
  refine (works_any _).mono ?_
  rintro r w1 ⟨rfl, b1⟩
  go_wp2_with fail
  all_goals (go_ret; exact ⟨rfl, b1⟩)

theorem by_in {t : ByteArray} {i n : Int} (h0 : 0 ≤ n) (h1 : n ≤ t.size - i) : byE t i 0 n = 0 ∧ byS t i 0 n = t.extract i.toNat (i + n).toNat ∧ byI t i 0 n = i + n := by
  have h : byE t i 0 n = 0 := by simp only [byE, if_true, if_neg (show ¬ n < 0 by omega), if_neg (show ¬ (t.size : Int) - i < n by omega)]
  exact ⟨h, by simp [byS, h], by simp [byI, h]⟩

theorem walk (a0 : ByteArray) (a1 : Int) (a2 : Int) (w0 : a0.size ≤ maxLen) (w1 : (Lit.int .i64 a1).wf = true) (w2 : (Lit.int .i64 a2).wf = true) (w : World) :
    Calls Try.prog 7 #[.string a0, .int .i64 a1, .int .i64 a2] w fun e w' => e = .returned (.bool true) ∧ Below w.heap.size w w' := by
  by_cases hb : 300 < a0.size ∨ a1 < 0 ∨ a2 < 0 ∨ (a0.size : Int) < a1 ∨ (a0.size : Int) - a1 < a2
  · exact early a0 a1 a2 w w0 hb
  clear w0 w1 w2
  obtain ⟨x, rfl⟩ : ∃ x : Nat, a1 = x := ⟨a1.toNat, by omega⟩
  obtain ⟨y, rfl⟩ : ∃ y : Nat, a2 = y := ⟨a2.toNat, by omega⟩
  have q1 : x + y ≤ a0.size := by omega
  have q2 : a0.size ≤ 300 := by omega
  clear hb
  have hA := by_in (t := a0) (i := 0) (n := x) (by omega) (by omega)
  have hB := by_in (t := a0) (i := (0 : Int) + x) (n := y) (by omega) (by omega)
  have hC := by_in (t := a0) (i := 0) (n := (x : Int) + y) (by omega) (by omega)
  have hcat : a0.extract (0 : Int).toNat ((0 : Int) + x).toNat ++ a0.extract ((0 : Int) + x).toNat ((0 : Int) + x + y).toNat = a0.extract (0 : Int).toNat ((0 : Int) + ((x : Int) + y)).toNat := by
    rw [show (0 : Int).toNat = 0 from rfl, show ((0 : Int) + x).toNat = x by omega, show ((0 : Int) + x + y).toNat = x + y by omega, show ((0 : Int) + ((x : Int) + y)).toNat = x + y by omega]
    apply ByteArray.ext
    simp [ByteArray.data_extract]
  rw [← hA.2.1, ← hB.2.1, ← hC.2.1] at hcat
  obtain ⟨sa, hsa⟩ : ∃ s, byS a0 0 0 x = s := ⟨_, rfl⟩
  obtain ⟨sb, hsb⟩ : ∃ s, byS a0 (0 + x) 0 y = s := ⟨_, rfl⟩
  obtain ⟨sc, hsc⟩ : ∃ s, byS a0 0 0 (x + y) = s := ⟨_, rfl⟩
  rw [hsa, hsb, hsc] at hcat
  have za := (intsz a0 0 0 x (by omega) (by omega)).2.2
  have zb := (intsz a0 (0 + x) 0 y (by omega) (by omega)).2.2
  rw [hsa, if_pos hA.1] at za
  rw [hsb, if_pos hB.1] at zb
  have ya : sa.size ≤ 300 := by omega
  have yb : sb.size ≤ 300 := by omega
  have HA := Lib.hid (And.intro hsa (And.intro hA.1 hA.2.2))
  have HB := Lib.hid (And.intro hsb (And.intro hB.1 hB.2.2))
  have HC := Lib.hid (And.intro hsc (And.intro hC.1 hC.2.2))
  have HCAT := Lib.hid hcat
  clear hsa hsb hsc za zb
  clear hA hB hC hcat
  have hd0 : decide (300 < (a0.size : Int)) = false := by simp; omega
  have hd1 : decide (a0.size < x) = false := by simp; omega
  have hd2 : decide ((a0.size : Int) - x < y) = false := by simp; omega
  go_enter Try.func7, Try.ntmps7
  go_wp2_with fail
  refine (works_any _).mono ?_
  rintro r w1 ⟨rfl, b1⟩
  go_wp2_with fail
  refine (new_any _ _).mono ?_
  rintro r w2 ⟨rfl, c2, b2⟩
  go_wp2_with fail
  refine (new_any _ _).mono ?_
  rintro r w3 ⟨rfl, d3, b3⟩
  have c3 := c2.below b3 c2.lt
  have hne : w1.heap.size < w2.heap.size := c2.lt
  go_wp2_with fail
  refine (bytes_any _ _ _ _ _ _ c3 (by omega) (by omega) (by omega)).mono ?_
  rintro r w4 ⟨rfl, c4, g4⟩
  have d4 := d3.kept g4 (by simp; omega)
  rw [HA.out.1]
  rw [HA.out.2.1, HA.out.2.2] at c4
  go_wp2_with fail
  refine (bytes_any _ _ _ _ _ _ c4 (by omega) (by omega) (by omega)).mono ?_
  rintro r w5 ⟨rfl, c5, g5⟩
  have d5 := d4.kept g5 (by simp; omega)
  rw [HB.out.1]
  rw [HB.out.2.1, HB.out.2.2] at c5
  go_wp2_with fail
  refine (bytes_any _ _ _ _ _ _ d5 (by omega) (by omega) (by omega)).mono ?_
  rintro r w6 ⟨rfl, d6, g6⟩
  have c6 := c5.kept g6 (by simp; omega)
  rw [HC.out.1]
  rw [HC.out.2.1, HC.out.2.2, ← Int.add_assoc] at d6
  rw [HCAT.out]
  go_wp2_with fail
  refine (at_any _ _ _ _ _ c6).mono ?_
  rintro r w7 ⟨rfl, rfl⟩
  go_wp2_with fail
  refine (at_any _ _ _ _ _ d6).mono ?_
  rintro r w7 ⟨rfl, rfl⟩
  go_wp2_with fail
  refine (end_any _ _ _ _ _ c6 (by omega) (by omega) (by omega)).mono ?_
  rintro r w7 ⟨rfl, n7, rfl⟩
  go_wp2_with fail
  refine (end_any _ _ _ _ _ (show CurAt _ (w6.drewN n7) _ _ _ _ from d6) (by omega) (by omega) (by omega)).mono ?_
  rintro r w7 ⟨rfl, n8, rfl⟩
  go_wp2_with fail
  go_ret
  have bb := below_next (below_next b1 b2) b3
  have k1 := b1.size
  have k2 := b2.size
  exact ⟨rfl, below_drewN (below_grown (below_grown (below_grown bb g4 (by omega)) g5 (by omega)) g6 (by omega)) _⟩
set_option maxRecDepth 100000 in
theorem lifted (os : Os) (started : os.Started) (H : Type) (enc : TypeId × Value → H) :
    ReturnsInHanded {} Try.checked os 7 .any (Rows.octetsSplitSpec.pre6 enc Try.prog Try.f7 Rows.octetsSplitRow.domain false) (Rows.octetsSplitSpec.post enc Try.prog Try.f7 false true false false) := by
  refine returnsInHanded_of_change (C := Try.checked) own started (by kernel_rfl) Try.func7
    (ChangeSpec.witness6 (enc := enc) (C := Try.checked) false ⟨#[], #[.string ByteArray.empty, .int .i64 0, .int .i64 0], []⟩ 8 (by kernel_rfl) (by kernel_rfl) (by kernel_rfl) (by kernel_rfl)) ?_
  intro W base args ds gs before hval0 hW hcnd _
  have hval : ∀ (j : Nat) t v, Try.f7.params[j]? = some t → args[j]? = some v → Value.okWide Try.prog W .any base t v := hval0
  have hW' := hW
  obtain ⟨p, q, hA0, hV, rfl, hfz, hnd⟩ := hW
  have hA : DataW.TrodAll enc Try.prog W 0 (fun _ => true) true Try.f7.params.toList args.toList ds p := hA0
  rw [Try.params7] at hA hval
  obtain ⟨v0, vs0, d0, ds0, p0, q0, hargs, rfl, rfl, h0, r0⟩ := trodAll_cons hA
  obtain ⟨v1, vs1, d1, ds1, p1, q1, rfl, rfl, rfl, h1, r1⟩ := trodAll_cons r0
  obtain ⟨v2, vs2, d2, ds2, p2, q2, rfl, rfl, rfl, h2, r2⟩ := trodAll_cons r1
  obtain ⟨rfl, rfl, rfl⟩ := trodAll_nil r2
  obtain rfl : args = #[v0, v1, v2] := by cases args; simp_all
  obtain ⟨rfl, rfl⟩ := trodVars_none hV
  obtain ⟨a0, rfl, rfl, rfl, w0⟩ := open_string Try.underlying9 (hval 0 9 v0 rfl rfl) h0
  obtain ⟨a1, rfl, rfl, rfl, w1⟩ := open_int Try.underlying3 (hval 1 3 v1 rfl rfl) h1
  obtain ⟨a2, rfl, rfl, rfl, w2⟩ := open_int Try.underlying3 (hval 2 3 v2 rfl rfl) h2
  clear hA0 hval0
  simp only [List.append_nil] at hW'
  refine (walk a0 a1 a2 w0 w1 w2 W).mono fun e W' ⟨he, hg⟩ => ?_
  subst he
  exact ⟨_, rfl, _, _, _, [], [], [], hW', trodAll_mk1 (shut_bool Try.underlying4 _), (trodAll_cons_mk (shut_string Try.underlying9 w0) (trodAll_cons_mk (shut_int Try.underlying3 w1) (trodAll_cons_mk (shut_int Try.underlying3 w2) trodAll_mk0))), rfl, hg.frame _, fun h => by cases h⟩

theorem over : Rows.octetsSplitRow.holds Try.pinned (OpenSpec.ofChange Rows.octetsSplitSpec) :=
  OpenClaim.holds_of_wide 7 Try.f7 rfl rfl rfl rfl rfl rfl rfl ⟨rfl, rfl, rfl, rfl, rfl⟩ rfl rfl rfl rfl rfl (by kernel_rfl) Try.func7 (by kernel_rfl)
    (of_decide_eq_true (by kernel_rfl)) (by unfold Func.isWrapper; first | (rw [if_pos (by decide +kernel)]; kernel_rfl) | (rw [if_neg (by decide +kernel)]; exact ⟨rfl, rfl⟩))
    (fun os started H enc _ => lifted os started H enc)

theorem proved : Rows.OctetsSplitSaid :=
  over
end Go.Proofs.Ytfelecomjllphaa.octetsSplit
