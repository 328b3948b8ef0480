/-
  DeflateSegments (layer 9): segments side by side, each with what came ahead as its window, make all texts, one behind the other, to the document's reader.
-/
import Derived.Test.YtkpieakgpnnonaaGreatRows
import Derived.Test.YtkpieakgpnnonaaGreatDefWorks
import Derived.Test.YtkpieakgpnnonaaGreatDflWhole
import Derived.WalkKit
import Derived.ProofKit
import Derived.OpenShut
import Derived.ShutString
import Derived.ChangeOld
import Derived.Below
import Derived.Lib.SmallJoins
import Derived.Deep.Slices
namespace Go.Proofs.YtkpieakgpnnonaaGreat.deflateSegments
open Go.Proofs.YtkpieakgpnnonaaGreat.Def
open Go.Proofs.YtkpieakgpnnonaaGreat.Dfl
open Go.ChangeShapes Go.WideShapes Go.ChangeAt Go.RowKit
open Go.ChangeMaps (open_string shut_string)
set_option linter.unusedVariables false

theorem own : ownKnob Tryz.prog.godebug = none := by kernel_rfl
theorem laidOut : laidOutB Tryz.prog = true := by kernel_rfl

set_option maxRecDepth 100000 in
set_option maxHeartbeats 8000000 in
theorem early (D : Says) (a b c : ByteArray) (W : World) (h : 600 < a.size ∨ 600 < b.size ∨ 600 < c.size) (w0 : a.size ≤ maxLen) (w1 : b.size ≤ maxLen) (w2 : c.size ≤ maxLen) :
    Calls Tryz.prog 7 #[.string a, .string b, .string c] W fun e w' => e = .returned (.bool true) ∧ Below W.heap.size W w' := by
  unfold maxLen at w0 w1 w2
  by_cases h1 : 600 < a.size
  · have d1 : decide ((600 : Int) < (a.size : Int)) = true := by simp; omega
    have p1 : (600 : Int) < a.size := by omega
    clear h
    go_enter Tryz.func7, Tryz.ntmps7
    go_wp2_with fail
    refine (works_any D _).mono ?_
    rintro r w1 ⟨rfl, b1⟩
    go_wp2_with fail
    all_goals (go_ret; exact ⟨rfl, b1⟩)
  have d1 : decide ((600 : Int) < (a.size : Int)) = false := by simp; omega
  have p1 : ¬ ((600 : Int) < a.size) := by omega
  by_cases h2 : 600 < b.size
  · have d2 : decide ((600 : Int) < (b.size : Int)) = true := by simp; omega
    have p2 : (600 : Int) < b.size := by omega
    clear h
    go_enter Tryz.func7, Tryz.ntmps7
    go_wp2_with fail
    refine (works_any D _).mono ?_
    rintro r w1 ⟨rfl, b1⟩
    go_wp2_with fail
    all_goals (go_ret; exact ⟨rfl, b1⟩)
  have d2 : decide ((600 : Int) < (b.size : Int)) = false := by simp; omega
  have p2 : ¬ ((600 : Int) < b.size) := by omega
  have d3 : decide ((600 : Int) < (c.size : Int)) = true := by simp; omega
  have p3 : (600 : Int) < c.size := by omega
  clear h
  go_enter Tryz.func7, Tryz.ntmps7
  go_wp2_with fail
  refine (works_any D _).mono ?_
  rintro r w1 ⟨rfl, b1⟩
  go_wp2_with fail
  all_goals (go_ret; exact ⟨rfl, b1⟩)

theorem three {a b c x y z : ByteArray} (h1 : Sg (Bit.tb x) [] 0 [] false a.data.toList) (h2 : Sg (Bit.tb y) a.data.toList 0 [] false b.data.toList) (h3 : Sg (Bit.tb z) (a ++ b).data.toList 0 [] false c.data.toList) :
    Sg (Bit.tb (x ++ y ++ z)) [] 0 [] false (a ++ b ++ c).data.toList := by
  rw [tb_append, tb_append, ByteArray.data_append, Array.toList_append, ByteArray.data_append, Array.toList_append]
  rw [ByteArray.data_append, Array.toList_append] at h3
  have hx : (Bit.tb x).length % 8 = 0 := by rw [Bit.tb_length]; omega
  have hy : (Bit.tb x ++ Bit.tb y).length % 8 = 0 := by rw [List.length_append, Bit.tb_length, Bit.tb_length]; omega
  exact (h1.glue hx h2).glue hy h3

set_option maxRecDepth 100000 in
set_option maxHeartbeats 8000000 in
theorem walk (D : Says) (a b c : ByteArray) (W : World) (w0 : a.size ≤ maxLen) (w1 : b.size ≤ maxLen) (w2 : c.size ≤ maxLen) :
    Calls Tryz.prog 7 #[.string a, .string b, .string c] W fun e w' => e = .returned (.bool true) ∧ Below W.heap.size W w' := by
  by_cases hg : 600 < a.size ∨ 600 < b.size ∨ 600 < c.size
  · exact early D a b c W hg w0 w1 w2
  have d1 : decide ((600 : Int) < (a.size : Int)) = false := by simp; omega
  have p1 : ¬ ((600 : Int) < a.size) := by omega
  have d2 : decide ((600 : Int) < (b.size : Int)) = false := by simp; omega
  have p2 : ¬ ((600 : Int) < b.size) := by omega
  have d3 : decide ((600 : Int) < (c.size : Int)) = false := by simp; omega
  have p3 : ¬ ((600 : Int) < c.size) := by omega
  have ha : a.size ≤ 600 := by omega
  have hb : b.size ≤ 600 := by omega
  have hc : c.size ≤ 600 := by omega
  have HD1 := Lib.hid (fun w => D.segment ⟨#[]⟩ a w (by decide) (by omega))
  have HD2 := Lib.hid (fun w => D.segment a b w (by omega) (by omega))
  have HD3 := Lib.hid (fun w => D.segment (a ++ b) c w (by rw [ByteArray.size_append]; omega) (by omega))
  have HW := Lib.hid (works_any D W)
  clear hg w0 w1 w2 D
  go_enter Tryz.func7, Tryz.ntmps7
  go_wp2_with fail
  refine HW.out.mono ?_
  rintro r w1 ⟨rfl, b1⟩
  have HB1 := Lib.hid b1
  clear b1 HW
  go_wp2_with fail
  refine (HD1.out w1).mono ?_
  rintro r w2 ⟨x, rfl, ⟨x1, x2, _⟩, b2⟩
  have X1 := Lib.hid x1
  have hx : x.size ≤ 700 := by have : x.size ≤ a.size + a.size / 1000 + 20 := x2; omega
  have HB2 := Lib.hid (HB1.out.trans (b2.mono HB1.out.size))
  clear b2 HB1 HD1 x1 x2
  go_wp2_with fail
  refine (HD2.out w2).mono ?_
  rintro r w3 ⟨y, rfl, ⟨x1, x2, _⟩, b3⟩
  have X2 := Lib.hid x1
  have hy : y.size ≤ 700 := by have : y.size ≤ b.size + b.size / 1000 + 20 := x2; omega
  have HB3 := Lib.hid (HB2.out.trans (b3.mono HB2.out.size))
  clear b3 HB2 HD2 x1 x2
  go_wp2_with fail
  refine (HD3.out w3).mono ?_
  rintro r w4 ⟨z, rfl, ⟨x1, x2, _⟩, b4⟩
  have X3 := Lib.hid x1
  have hz : z.size ≤ 700 := by have : z.size ≤ c.size + c.size / 1000 + 20 := x2; omega
  have HB4 := Lib.hid (HB3.out.trans (b4.mono HB3.out.size))
  clear b4 HB3 HD3 x1 x2
  have CS := Lib.hid (fun w => refSegment_any ⟨#[]⟩ (x ++ y ++ z) (a ++ b ++ c) 3000 w (by decide) (by rw [ByteArray.size_append, ByteArray.size_append]; omega) (by rw [ByteArray.size_append, ByteArray.size_append]; omega) (by rw [ByteArray.size_append, ByteArray.size_append]; omega) (by omega) (three X1.out X2.out X3.out))
  clear X1 X2 X3
  go_wp2_with fail
  refine (CS.out w4).mono ?_
  rintro r w5 ⟨rfl, b5⟩
  have HB5 := Lib.hid (HB4.out.trans (b5.mono HB4.out.size))
  clear b5 HB4 CS
  go_wp2_with fail
  go_ret
  exact ⟨rfl, HB5.out⟩

set_option maxRecDepth 100000 in
theorem lifted (os : Os) (started : os.Started) (H : Type) (enc : TypeId × Value → H) :
    ReturnsInHanded {} Tryz.checked os 7 .any (Rows.deflateSegmentsSpec.pre6 enc Tryz.prog Tryz.f7 Rows.deflateSegmentsRow.domain false) (Rows.deflateSegmentsSpec.post enc Tryz.prog Tryz.f7 false true false false) := by
  refine returnsInHanded_of_change (C := Tryz.checked) own started (by kernel_rfl) Tryz.func7
    (ChangeSpec.witness6 (enc := enc) (C := Tryz.checked) false ⟨#[], #[.string ByteArray.empty, .string ByteArray.empty, .string ByteArray.empty], []⟩ 8 (by kernel_rfl) (by kernel_rfl) (by kernel_rfl) (by kernel_rfl)) ?_
  intro W base args ds gs before hval0 hW hcnd _
  have hval : ∀ (j : Nat) t v, Tryz.f7.params[j]? = some t → args[j]? = some v → Value.okWide Tryz.prog W .any base t v := hval0
  have hW' := hW
  obtain ⟨p, q, hA0, hV, rfl, hfz, hnd⟩ := hW
  have hA : DataW.TrodAll enc Tryz.prog W 0 (fun _ => true) true Tryz.f7.params.toList args.toList ds p := hA0
  rw [Tryz.params7] at hA hval
  obtain ⟨v0, vs0, d0, ds0, p0, q0, hargs, rfl, rfl, h0, r0⟩ := trodAll_cons hA
  obtain ⟨v1, vs1, d1, ds1, p1, q1, rfl, rfl, rfl, h1, r1⟩ := trodAll_cons r0
  obtain ⟨v2, vs2, d2, ds2, p2, q2, rfl, rfl, rfl, h2, r2⟩ := trodAll_cons r1
  obtain ⟨rfl, rfl, rfl⟩ := trodAll_nil r2
  obtain rfl : args = #[v0, v1, v2] := by cases args; simp_all
  obtain ⟨rfl, rfl⟩ := trodVars_none hV
  have k0 := h0
  have lt0 : ∀ x ∈ p0, x.block < W.heap.size := by obtain ⟨m, hm⟩ := k0; exact DataW.trod_lt m _ _ _ hm
  obtain ⟨a0, rfl, rfl, rfl, w0⟩ := open_string Tryz.underlying9 (hval 0 9 v0 rfl rfl) h0
  have k1 := h1
  have lt1 : ∀ x ∈ p1, x.block < W.heap.size := by obtain ⟨m, hm⟩ := k1; exact DataW.trod_lt m _ _ _ hm
  obtain ⟨a1, rfl, rfl, rfl, w1⟩ := open_string Tryz.underlying9 (hval 1 9 v1 rfl rfl) h1
  have k2 := h2
  have lt2 : ∀ x ∈ p2, x.block < W.heap.size := by obtain ⟨m, hm⟩ := k2; exact DataW.trod_lt m _ _ _ hm
  obtain ⟨a2, rfl, rfl, rfl, w2⟩ := open_string Tryz.underlying9 (hval 2 9 v2 rfl rfl) h2
  clear hA0 hval0
  refine (walk says a0 a1 a2 W w0 w1 w2).mono fun e W' ⟨he, bel⟩ => ?_
  subst he
  exact ⟨_, rfl, _, _, _, [], _, [], hW', trodAll_mk1 (shut_bool Tryz.underlying4 _), (trodAll_cons_mk (Below.trod laidOut (by kernel_rfl) (of_decide_eq_true (by kernel_rfl)) k0 bel lt0) (trodAll_cons_mk (Below.trod laidOut (by kernel_rfl) (of_decide_eq_true (by kernel_rfl)) k1 bel lt1) (trodAll_cons_mk (Below.trod laidOut (by kernel_rfl) (of_decide_eq_true (by kernel_rfl)) k2 bel lt2) trodAll_mk0))), rfl, bel.frame _, fun h => by cases h⟩

theorem over : Rows.deflateSegmentsRow.holds Tryz.pinned (OpenSpec.ofChange Rows.deflateSegmentsSpec) :=
  OpenClaim.holds_of_wide 7 Tryz.f7 rfl rfl rfl rfl rfl rfl rfl ⟨rfl, rfl, rfl, rfl, rfl⟩ rfl rfl rfl rfl rfl (by kernel_rfl) Tryz.func7 (by kernel_rfl)
    (of_decide_eq_true (by kernel_rfl)) (by unfold Func.isWrapper; first | (rw [if_pos (by decide +kernel)]; kernel_rfl) | (rw [if_neg (by decide +kernel)]; exact ⟨rfl, rfl⟩))
    (fun os started H enc _ => lifted os started H enc)

theorem proved : Rows.DeflateSegmentsSaid := over
end Go.Proofs.YtkpieakgpnnonaaGreat.deflateSegments
