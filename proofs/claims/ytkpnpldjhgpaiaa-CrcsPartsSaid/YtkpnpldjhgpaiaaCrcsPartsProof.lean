/-
  Proved: crcs.Sum of parts is that of the whole, and More behind the parts gives it too (statement CrcsParts). Conditions: none.
-/
import Derived.Test.YtkpnpldjhgpaiaaRows
import Derived.Test.YtkpnpldjhgpaiaaCrcRef
import Derived.WalkKit
import Derived.ProofKit
import Derived.OpenShut
import Derived.ShutString
import Derived.ChangeOld
import Derived.Below
import Derived.Lib.SmallJoins
import Derived.Deep.Slices
namespace Go.Proofs.Ytkpnpldjhgpaiaa.crcsParts
open Go.Proofs.Ytkpnpldjhgpaiaa.Crc
open Go.ChangeShapes Go.WideShapes Go.ChangeAt Go.RowKit
open Go.ChangeMaps (open_string shut_string)
set_option linter.unusedVariables false

theorem own : ownKnob Try.prog.godebug = none := by kernel_rfl
theorem laidOut : laidOutB Try.prog = true := by kernel_rfl

theorem early (a b c : ByteArray) (w : World) (wa : a.size ≤ maxLen) (wb : b.size ≤ maxLen) (wc : c.size ≤ maxLen) (hg : 2000 < a.size ∨ 2000 < b.size ∨ 2000 < c.size) :
    Calls Try.prog 5 #[.string a, .string b, .string c] w fun e w' => e = .returned (.bool true) ∧ Below w.heap.size w w' := by
  unfold maxLen at wa wb wc
  by_cases h1 : 2000 < a.size
  · clear hg
    go_enter Try.func5, Try.ntmps5
    go_wp2_with fail
    refine (works_any _).mono ?_
    rintro r w1 ⟨rfl, b1⟩
    go_wp2_with fail
    all_goals (go_ret; exact ⟨rfl, b1⟩)
  by_cases h2 : 2000 < b.size
  · clear hg
    go_enter Try.func5, Try.ntmps5
    go_wp2_with fail
    refine (works_any _).mono ?_
    rintro r w1 ⟨rfl, b1⟩
    go_wp2_with fail
    all_goals (go_ret; exact ⟨rfl, b1⟩)
  have h3 : 2000 < c.size := by omega
  clear hg
  go_enter Try.func5, Try.ntmps5
  go_wp2_with fail
  refine (works_any _).mono ?_
  rintro r w1 ⟨rfl, b1⟩
  go_wp2_with fail
  all_goals (go_ret; exact ⟨rfl, b1⟩)

theorem xor_back (x : Nat) : x ^^^ 4294967295 ^^^ 4294967295 = x := by rw [Nat.xor_assoc, Nat.xor_self, Nat.xor_zero]

/-- All that the walk asks of the sums. -/
theorem facts (a b c : ByteArray) : ∃ S SA A AB ABC : Nat, S < 4294967296 ∧ A < 4294967296 ∧ AB < 4294967296 ∧ ABC < 4294967296 ∧ sumV [a ++ b ++ c] = S ∧ sumV [a, b, c] = S ∧ sumV [a] = SA ∧
    moreV A b.data.toList = AB ∧ moreV AB c.data.toList = ABC ∧
    bits .xor .i64 (SA : Int) 4294967295 = (A : Int) ∧ bits .xor .i64 (ABC : Int) 4294967295 = (S : Int) := by
  have hA : sumV [a] ^^^ 4294967295 = moreV 4294967295 a.data.toList := by rw [sumV_one, xor_back]
  have e3 : sumV [a, b, c] = moreV (moreV (moreV 4294967295 a.data.toList) b.data.toList) c.data.toList ^^^ 4294967295 := rfl
  have e1 : sumV [a ++ b ++ c] = sumV [a, b, c] := by
    rw [e3, sumV_one, ← moreV_append, ← moreV_append]
    simp
  refine ⟨sumV [a, b, c], sumV [a], moreV 4294967295 a.data.toList, _, _, sumV_lt _, moreV_lt _ _, moreV_lt _ _, moreV_lt _ _, e1, rfl, rfl, rfl, rfl, ?_, ?_⟩
  · rw [← hA]; exact i64_xor _ 4294967295 (sumV_lt _) (by decide)
  · rw [e3]; exact i64_xor _ 4294967295 (moreV_lt _ _) (by decide)

set_option maxRecDepth 10000 in
set_option maxHeartbeats 1000000 in
theorem walk (a b c : ByteArray) (wa : a.size ≤ maxLen) (wb : b.size ≤ maxLen) (wc : c.size ≤ maxLen) (w : World) :
    Calls Try.prog 5 #[.string a, .string b, .string c] w fun e w' => e = .returned (.bool true) ∧ Below w.heap.size w w' := by
  by_cases hg : 2000 < a.size ∨ 2000 < b.size ∨ 2000 < c.size
  · exact early a b c w wa wb wc hg
  have ha : a.size ≤ 2000 := by omega
  have hb : b.size ≤ 2000 := by omega
  have hc : c.size ≤ 2000 := by omega
  have hs : (a ++ b ++ c).size ≤ 6000 := by simp [ByteArray.size_append]; omega
  clear hg wa wb wc
  obtain ⟨S, SA, A, AB, ABC, bS, bA, bAB, bABC, f1, f2, f3, f4, f5, f6, f7⟩ := facts a b c
  have S1 := Lib.hid (fun B T w (h : TabAt w B) (hb : B < w.heap.size) => sum_new B [a ++ b ++ c] 1 T w h hb rfl (by decide) (by simp only [List.mem_singleton]; rintro t rfl; omega) #[.string (a ++ b ++ c)] (by rfl))
  have S2 := Lib.hid (fun B T w (h : TabAt w B) (hb : B < w.heap.size) => sum_new B [a, b, c] 3 T w h hb rfl (by decide) (by simp; omega) #[.string a, .string b, .string c] (by rfl))
  have S3 := Lib.hid (fun B T w (h : TabAt w B) (hb : B < w.heap.size) => sum_new B [a] 1 T w h hb rfl (by decide) (by simp only [List.mem_singleton]; rintro t rfl; omega) #[.string a] (by rfl))
  have M1 := Lib.hid (fun B w (h : TabAt w B) => more_tab B A b w h (by omega))
  have M2 := Lib.hid (fun B w (h : TabAt w B) => more_tab B AB c w h (by omega))
  rw [f1] at S1
  rw [f2] at S2
  rw [f3] at S3
  rw [f4] at M1
  rw [f5] at M2
  clear f1 f2 f3 f4 f5
  have da : decide (2000 < a.size) = false := by simp; omega
  have db : decide (2000 < b.size) = false := by simp; omega
  have dc : decide (2000 < c.size) = false := by simp; omega
  go_enter Try.func5, Try.ntmps5
  go_wp2_with fail
  refine (works_any _).mono ?_
  rintro r w1 ⟨rfl, b1⟩
  go_wp2_with fail
  refine (make_any _).mono ?_
  rintro r w2 ⟨rfl, b2, t2, z2⟩
  have bl2 := below_more b1 (Nat.le_refl _) b2
  clear b1 b2
  generalize w1.heap.size = B at *
  have T2 := Lib.hid t2
  clear t2
  go_wp2_with fail
  refine (S1.out _ _ _ T2.out z2).mono ?_
  rintro r w3 ⟨rfl, rfl⟩
  have bl3 := bl2.alloc bl2.size (Obj.cells #[.string (a ++ b ++ c)] 9)
  have T3 := Lib.hid (T2.out.alloc z2 (Obj.cells #[.string (a ++ b ++ c)] 9))
  have z3 : B < (w2.alloc (Obj.cells #[.string (a ++ b ++ c)] 9)).heap.size := by simp; omega
  clear bl2 T2
  generalize w2.alloc (Obj.cells #[.string (a ++ b ++ c)] 9) = w3 at *
  go_wp2_with fail
  refine (S2.out _ _ _ T3.out z3).mono ?_
  rintro r w4 ⟨rfl, rfl⟩
  have bl4 := bl3.alloc bl3.size (Obj.cells #[.string a, .string b, .string c] 9)
  have T4 := Lib.hid (T3.out.alloc z3 (Obj.cells #[.string a, .string b, .string c] 9))
  have z4 : B < (w3.alloc (Obj.cells #[.string a, .string b, .string c] 9)).heap.size := by simp; omega
  clear bl3 T3
  generalize w3.alloc (Obj.cells #[.string a, .string b, .string c] 9) = w4 at *
  go_wp2_with fail
  refine (S3.out _ _ _ T4.out z4).mono ?_
  rintro r w5 ⟨rfl, rfl⟩
  have bl5 := bl4.alloc bl4.size (Obj.cells #[.string a] 9)
  have T5 := Lib.hid (T4.out.alloc z4 (Obj.cells #[.string a] 9))
  clear bl4 T4
  generalize w4.alloc (Obj.cells #[.string a] 9) = w5 at *
  go_wp2_with fail
  refine (M1.out _ _ T5.out).mono ?_
  rintro r w6 ⟨rfl, rfl⟩
  go_wp2_with fail
  refine (M2.out _ _ T5.out).mono ?_
  rintro r w6 ⟨rfl, rfl⟩
  go_wp2_with fail
  go_ret
  refine ⟨?_, bl5⟩
  have dS : decide ((S : Int) < 4294967296) = true := decide_eq_true (by omega)
  generalize decide ((S : Int) < 4294967296) = q at dS ⊢
  subst dS
  rfl

set_option maxRecDepth 100000 in
theorem lifted (os : Os) (started : os.Started) (H : Type) (enc : TypeId × Value → H) :
    ReturnsInHanded {} Try.checked os 5 .any (Rows.crcsPartsSpec.pre6 enc Try.prog Try.f5 Rows.crcsPartsRow.domain false) (Rows.crcsPartsSpec.post enc Try.prog Try.f5 false true false false) := by
  refine returnsInHanded_of_change (C := Try.checked) own started (by kernel_rfl) Try.func5
    (ChangeSpec.witness6 (enc := enc) (C := Try.checked) false ⟨#[], #[.string ByteArray.empty, .string ByteArray.empty, .string ByteArray.empty], []⟩ 8 (by kernel_rfl) (by kernel_rfl) (by kernel_rfl) (by kernel_rfl)) ?_
  intro W base args ds gs before hval0 hW hcnd _
  have hval : ∀ (j : Nat) t v, Try.f5.params[j]? = some t → args[j]? = some v → Value.okWide Try.prog W .any base t v := hval0
  have hW' := hW
  obtain ⟨p, q, hA0, hV, rfl, hfz, hnd⟩ := hW
  have hA : DataW.TrodAll enc Try.prog W 0 (fun _ => true) true Try.f5.params.toList args.toList ds p := hA0
  rw [Try.params5] at hA hval
  obtain ⟨v0, vs0, d0, ds0, p0, q0, hargs, rfl, rfl, h0, r0⟩ := trodAll_cons hA
  obtain ⟨v1, vs1, d1, ds1, p1, q1, rfl, rfl, rfl, h1, r1⟩ := trodAll_cons r0
  obtain ⟨v2, vs2, d2, ds2, p2, q2, rfl, rfl, rfl, h2, r2⟩ := trodAll_cons r1
  obtain ⟨rfl, rfl, rfl⟩ := trodAll_nil r2
  obtain rfl : args = #[v0, v1, v2] := by cases args; simp_all
  obtain ⟨rfl, rfl⟩ := trodVars_none hV
  have k0 := h0
  have lt0 : ∀ x ∈ p0, x.block < W.heap.size := by obtain ⟨m, hm⟩ := k0; exact DataW.trod_lt m _ _ _ hm
  obtain ⟨a0, rfl, rfl, rfl, w0⟩ := open_string Try.underlying9 (hval 0 9 v0 rfl rfl) h0
  have k1 := h1
  have lt1 : ∀ x ∈ p1, x.block < W.heap.size := by obtain ⟨m, hm⟩ := k1; exact DataW.trod_lt m _ _ _ hm
  obtain ⟨a1, rfl, rfl, rfl, w1⟩ := open_string Try.underlying9 (hval 1 9 v1 rfl rfl) h1
  have k2 := h2
  have lt2 : ∀ x ∈ p2, x.block < W.heap.size := by obtain ⟨m, hm⟩ := k2; exact DataW.trod_lt m _ _ _ hm
  obtain ⟨a2, rfl, rfl, rfl, w2⟩ := open_string Try.underlying9 (hval 2 9 v2 rfl rfl) h2
  clear hA0 hval0
  refine (walk a0 a1 a2 w0 w1 w2 W).mono fun e W' ⟨he, bel⟩ => ?_
  subst he
  exact ⟨_, rfl, _, _, _, [], _, [], hW', trodAll_mk1 (shut_bool Try.underlying4 _), (trodAll_cons_mk (Below.trod laidOut (by kernel_rfl) (of_decide_eq_true (by kernel_rfl)) k0 bel lt0) (trodAll_cons_mk (Below.trod laidOut (by kernel_rfl) (of_decide_eq_true (by kernel_rfl)) k1 bel lt1) (trodAll_cons_mk (Below.trod laidOut (by kernel_rfl) (of_decide_eq_true (by kernel_rfl)) k2 bel lt2) trodAll_mk0))), rfl, bel.frame _, fun h => by cases h⟩

theorem over : Rows.crcsPartsRow.holds Try.pinned (OpenSpec.ofChange Rows.crcsPartsSpec) :=
  OpenClaim.holds_of_wide 5 Try.f5 rfl rfl rfl rfl rfl rfl rfl ⟨rfl, rfl, rfl, rfl, rfl⟩ rfl rfl rfl rfl rfl (by kernel_rfl) Try.func5 (by kernel_rfl)
    (of_decide_eq_true (by kernel_rfl)) (by unfold Func.isWrapper; first | (rw [if_pos (by decide +kernel)]; kernel_rfl) | (rw [if_neg (by decide +kernel)]; exact ⟨rfl, rfl⟩))
    (fun os started H enc _ => lifted os started H enc)

theorem proved : Rows.CrcsPartsSaid := over
end Go.Proofs.Ytkpnpldjhgpaiaa.crcsParts
