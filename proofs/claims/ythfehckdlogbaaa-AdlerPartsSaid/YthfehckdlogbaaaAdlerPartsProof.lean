/-
  Proved: the Adler sum of parts is that of the whole, by Sum, by More and by Join (statement AdlerParts). Conditions: none.
-/
import Derived.Test.YthfehckdlogbaaaRows
import Derived.Test.YthfehckdlogbaaaAdlSum
import Derived.WalkKit
import Derived.ProofKit
import Derived.OpenShut
import Derived.ShutString
import Derived.ChangeOld
import Derived.Below
import Derived.Lib.SmallJoins
import Derived.Deep.Slices
namespace Go.Proofs.Ythfehckdlogbaaa.adlerParts
open Go.Proofs.Ythfehckdlogbaaa.Adl
open Go.ChangeShapes Go.WideShapes Go.ChangeAt Go.RowKit
open Go.ChangeMaps (open_string shut_string)
set_option linter.unusedVariables false

theorem own : ownKnob Try.prog.godebug = none := by kernel_rfl
theorem laidOut : laidOutB Try.prog = true := by kernel_rfl

theorem sumV_one (t : ByteArray) : sumV [t] = moreV 1 t.data.toList := rfl

theorem early (a b c : ByteArray) (w : World) (wa : a.size ≤ maxLen) (wb : b.size ≤ maxLen) (wc : c.size ≤ maxLen) (hg : 3000 < a.size ∨ 3000 < b.size ∨ 3000 < c.size) :
    Calls Try.prog 4 #[.string a, .string b, .string c] w fun e w' => e = .returned (.bool true) ∧ Below w.heap.size w w' := by
  unfold maxLen at wa wb wc
  by_cases h1 : 3000 < a.size
  · clear hg
    go_enter Try.func4, Try.ntmps4
    go_wp2_with fail
    refine (works_any _).mono ?_
    rintro r w1 ⟨rfl, b1⟩
    go_wp2_with fail
    all_goals (go_ret; exact ⟨rfl, b1⟩)
  by_cases h2 : 3000 < b.size
  · clear hg
    go_enter Try.func4, Try.ntmps4
    go_wp2_with fail
    refine (works_any _).mono ?_
    rintro r w1 ⟨rfl, b1⟩
    go_wp2_with fail
    all_goals (go_ret; exact ⟨rfl, b1⟩)
  have h3 : 3000 < c.size := by omega
  clear hg
  go_enter Try.func4, Try.ntmps4
  go_wp2_with fail
  refine (works_any _).mono ?_
  rintro r w1 ⟨rfl, b1⟩
  go_wp2_with fail
  all_goals (go_ret; exact ⟨rfl, b1⟩)

theorem facts (a b c : ByteArray) : sumV [a ++ b ++ c] = moreV (moreV (moreV 1 a.data.toList) b.data.toList) c.data.toList ∧
    sumV [a, b, c] = moreV (moreV (moreV 1 a.data.toList) b.data.toList) c.data.toList ∧
    joinV (moreV 1 a.data.toList) (moreV 1 b.data.toList) b.size = moreV (moreV 1 a.data.toList) b.data.toList ∧
    joinV (moreV (moreV 1 a.data.toList) b.data.toList) (moreV 1 c.data.toList) c.size = moreV (moreV (moreV 1 a.data.toList) b.data.toList) c.data.toList := by
  refine ⟨?_, rfl, ?_, ?_⟩
  · rw [sumV_one, ← moreV_append, ← moreV_append]
    simp
  · rw [← moreV_append, ← join_more]; simp
  · rw [← moreV_append, ← moreV_append]
    have h := join_more (a.data.toList ++ b.data.toList) c.data.toList
    have e : (c.data.toList.length : Int) = c.size := by simp
    rw [e] at h
    exact h

set_option maxHeartbeats 4000000 in
theorem walk (a b c : ByteArray) (wa : a.size ≤ maxLen) (wb : b.size ≤ maxLen) (wc : c.size ≤ maxLen) (w : World) :
    Calls Try.prog 4 #[.string a, .string b, .string c] w fun e w' => e = .returned (.bool true) ∧ Below w.heap.size w w' := by
  by_cases hg : 3000 < a.size ∨ 3000 < b.size ∨ 3000 < c.size
  · exact early a b c w wa wb wc hg
  have ha : a.size ≤ 3000 := by omega
  have hb : b.size ≤ 3000 := by omega
  have hc : c.size ≤ 3000 := by omega
  have hs : (a ++ b ++ c).size ≤ 9000 := by simp [ByteArray.size_append]; omega
  clear hg wa wb wc
  have f := facts a b c
  have ra : sumV [a] = moreV 1 a.data.toList := rfl
  have rb : sumV [b] = moreV 1 b.data.toList := rfl
  have rc : sumV [c] = moreV 1 c.data.toList := rfl
  have mb := more_any (moreV 1 a.data.toList) b
  have mc := more_any (moreV (moreV 1 a.data.toList) b.data.toList) c
  generalize moreV (moreV (moreV 1 a.data.toList) b.data.toList) c.data.toList = ABC at *
  generalize moreV (moreV 1 a.data.toList) b.data.toList = AB at *
  generalize moreV 1 a.data.toList = A at *
  generalize moreV 1 b.data.toList = B at *
  generalize moreV 1 c.data.toList = C at *
  have F := Lib.hid f
  have RA := Lib.hid ra
  have RB := Lib.hid rb
  have RC := Lib.hid rc
  have MB := Lib.hid mb
  have MC := Lib.hid mc
  clear f ra rb rc mb mc
  have da : decide (3000 < a.size) = false := by simp; omega
  have db : decide (3000 < b.size) = false := by simp; omega
  have dc : decide (3000 < c.size) = false := by simp; omega
  go_enter Try.func4, Try.ntmps4
  go_wp2_with fail
  refine (works_any _).mono ?_
  rintro r w1 ⟨rfl, b1⟩
  have z1 := b1.size
  go_wp2_with fail
  refine (sum_new [a ++ b ++ c] 1 _ _ rfl (by decide) (by simp only [List.mem_singleton]; rintro t rfl; omega) _ (by rfl)).mono ?_
  rintro r w2 ⟨rfl, rfl⟩
  rw [F.out.1]
  have b2 := b1.alloc z1 (Obj.cells #[.string (a ++ b ++ c)] 9)
  clear b1
  generalize w1.alloc (Obj.cells #[.string (a ++ b ++ c)] 9) = w2 at *
  go_wp2_with fail
  refine (sum_new [a] 1 _ _ rfl (by decide) (by simp only [List.mem_singleton]; rintro t rfl; omega) _ (by rfl)).mono ?_
  rintro r w3 ⟨rfl, rfl⟩
  rw [RA.out]
  have b3 := b2.alloc b2.size (Obj.cells #[.string a] 9)
  clear b2
  generalize w2.alloc (Obj.cells #[.string a] 9) = w3 at *
  go_wp2_with fail
  refine (sum_new [b] 1 _ _ rfl (by decide) (by simp only [List.mem_singleton]; rintro t rfl; omega) _ (by rfl)).mono ?_
  rintro r w4 ⟨rfl, rfl⟩
  rw [RB.out]
  have b4 := b3.alloc b3.size (Obj.cells #[.string b] 9)
  clear b3
  generalize w3.alloc (Obj.cells #[.string b] 9) = w4 at *
  go_wp2_with fail
  refine (sum_new [a, b, c] 3 _ _ rfl (by decide) (by simp; omega) _ (by rfl)).mono ?_
  rintro r w5 ⟨rfl, rfl⟩
  rw [F.out.2.1]
  have b5 := b4.alloc b4.size (Obj.cells #[.string a, .string b, .string c] 9)
  clear b4
  generalize w4.alloc (Obj.cells #[.string a, .string b, .string c] 9) = w5 at *
  go_wp2_with fail
  refine (MB.out _ (by omega)).mono ?_
  rintro r w6 ⟨rfl, rfl⟩
  go_wp2_with fail
  refine (MC.out _ (by omega)).mono ?_
  rintro r w6 ⟨rfl, rfl⟩
  go_wp2_with fail
  refine (join_any _ _ _ _).mono ?_
  rintro r w6 ⟨rfl, rfl⟩
  rw [F.out.2.2.1]
  go_wp2_with fail
  refine (sum_new [c] 1 _ _ rfl (by decide) (by simp only [List.mem_singleton]; rintro t rfl; omega) _ (by rfl)).mono ?_
  rintro r w6 ⟨rfl, rfl⟩
  rw [RC.out]
  have b6 := b5.alloc b5.size (Obj.cells #[.string c] 9)
  clear b5
  generalize w5.alloc (Obj.cells #[.string c] 9) = w6 at *
  go_wp2_with fail
  refine (join_any _ _ _ _).mono ?_
  rintro r w7 ⟨rfl, rfl⟩
  rw [F.out.2.2.2]
  go_wp2_with fail
  go_ret
  exact ⟨rfl, b6⟩

set_option maxRecDepth 100000 in
theorem lifted (os : Os) (started : os.Started) (H : Type) (enc : TypeId × Value → H) :
    ReturnsInHanded {} Try.checked os 4 .any (Rows.adlerPartsSpec.pre6 enc Try.prog Try.f4 Rows.adlerPartsRow.domain false) (Rows.adlerPartsSpec.post enc Try.prog Try.f4 false true false false) := by
  refine returnsInHanded_of_change (C := Try.checked) own started (by kernel_rfl) Try.func4
    (ChangeSpec.witness6 (enc := enc) (C := Try.checked) false ⟨#[], #[.string ByteArray.empty, .string ByteArray.empty, .string ByteArray.empty], []⟩ 8 (by kernel_rfl) (by kernel_rfl) (by kernel_rfl) (by kernel_rfl)) ?_
  intro W base args ds gs before hval0 hW hcnd _
  have hval : ∀ (j : Nat) t v, Try.f4.params[j]? = some t → args[j]? = some v → Value.okWide Try.prog W .any base t v := hval0
  have hW' := hW
  obtain ⟨p, q, hA0, hV, rfl, hfz, hnd⟩ := hW
  have hA : DataW.TrodAll enc Try.prog W 0 (fun _ => true) true Try.f4.params.toList args.toList ds p := hA0
  rw [Try.params4] at hA hval
  obtain ⟨v0, vs0, d0, ds0, p0, q0, hargs, rfl, rfl, h0, r0⟩ := trodAll_cons hA
  obtain ⟨v1, vs1, d1, ds1, p1, q1, rfl, rfl, rfl, h1, r1⟩ := trodAll_cons r0
  obtain ⟨v2, vs2, d2, ds2, p2, q2, rfl, rfl, rfl, h2, r2⟩ := trodAll_cons r1
  obtain ⟨rfl, rfl, rfl⟩ := trodAll_nil r2
  obtain rfl : args = #[v0, v1, v2] := by cases args; simp_all
  obtain ⟨rfl, rfl⟩ := trodVars_none hV
  have k0 := h0
  have lt0 : ∀ x ∈ p0, x.block < W.heap.size := by obtain ⟨m, hm⟩ := k0; exact DataW.trod_lt m _ _ _ hm
  obtain ⟨a0, rfl, rfl, rfl, w0⟩ := open_string Try.underlying9 (hval 0 9 v0 rfl rfl) h0
  have k1 := h1
  have lt1 : ∀ x ∈ p1, x.block < W.heap.size := by obtain ⟨m, hm⟩ := k1; exact DataW.trod_lt m _ _ _ hm
  obtain ⟨a1, rfl, rfl, rfl, w1⟩ := open_string Try.underlying9 (hval 1 9 v1 rfl rfl) h1
  have k2 := h2
  have lt2 : ∀ x ∈ p2, x.block < W.heap.size := by obtain ⟨m, hm⟩ := k2; exact DataW.trod_lt m _ _ _ hm
  obtain ⟨a2, rfl, rfl, rfl, w2⟩ := open_string Try.underlying9 (hval 2 9 v2 rfl rfl) h2
  clear hA0 hval0
  refine (walk a0 a1 a2 w0 w1 w2 W).mono fun e W' ⟨he, bel⟩ => ?_
  subst he
  exact ⟨_, rfl, _, _, _, [], _, [], hW', trodAll_mk1 (shut_bool Try.underlying4 _), (trodAll_cons_mk (Below.trod laidOut (by kernel_rfl) (of_decide_eq_true (by kernel_rfl)) k0 bel lt0) (trodAll_cons_mk (Below.trod laidOut (by kernel_rfl) (of_decide_eq_true (by kernel_rfl)) k1 bel lt1) (trodAll_cons_mk (Below.trod laidOut (by kernel_rfl) (of_decide_eq_true (by kernel_rfl)) k2 bel lt2) trodAll_mk0))), rfl, bel.frame _, fun h => by cases h⟩

theorem over : Rows.adlerPartsRow.holds Try.pinned (OpenSpec.ofChange Rows.adlerPartsSpec) :=
  OpenClaim.holds_of_wide 4 Try.f4 rfl rfl rfl rfl rfl rfl rfl ⟨rfl, rfl, rfl, rfl, rfl⟩ rfl rfl rfl rfl rfl (by kernel_rfl) Try.func4 (by kernel_rfl)
    (of_decide_eq_true (by kernel_rfl)) (by unfold Func.isWrapper; first | (rw [if_pos (by decide +kernel)]; kernel_rfl) | (rw [if_neg (by decide +kernel)]; exact ⟨rfl, rfl⟩))
    (fun os started H enc _ => lifted os started H enc)

theorem proved : Rows.AdlerPartsSaid := over
end Go.Proofs.Ythfehckdlogbaaa.adlerParts
