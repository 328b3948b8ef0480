/-
  Proved: up to four bytes side by side that are other ones make another sum (statement CrcsHarm). Conditions: none.
-/
import Derived.Test.YtkpnpldjhgpaiaaRows
import Derived.Test.YtkpnpldjhgpaiaaCrcRef
import Derived.WalkKit
import Derived.ProofKit
import Derived.OpenShut
import Derived.ShutString
import Derived.ChangeOld
import Derived.Below
import Derived.Lib.SmallJoins
import Derived.Deep.Slices
namespace Go.Proofs.Ytkpnpldjhgpaiaa.crcsHarm
open Go.Proofs.Ytkpnpldjhgpaiaa.Crc
open Go.ChangeShapes Go.WideShapes Go.ChangeAt Go.RowKit
open Go.ChangeMaps (open_string shut_string)
set_option linter.unusedVariables false

theorem own : ownKnob Try.prog.godebug = none := by kernel_rfl
theorem laidOut : laidOutB Try.prog = true := by kernel_rfl

theorem early (s : ByteArray) (i : Int) (c : ByteArray) (w : World) (ws : s.size ≤ maxLen) (wc : c.size ≤ maxLen) (hg : 2000 < s.size ∨ 4 < c.size ∨ s.size < c.size) :
    Calls Try.prog 6 #[.string s, .int .i64 i, .string c] w fun e w' => e = .returned (.bool true) ∧ Below w.heap.size w w' := by
  unfold maxLen at ws wc
  by_cases h1 : 2000 < s.size
  · clear hg
    go_enter Try.func6, Try.ntmps6
    go_wp2_with fail
    refine (works_any _).mono ?_
    rintro r w1 ⟨rfl, b1⟩
    go_wp2_with fail
    all_goals (go_ret; exact ⟨rfl, b1⟩)
  by_cases h2 : 4 < c.size
  · clear hg
    go_enter Try.func6, Try.ntmps6
    go_wp2_with fail
    refine (works_any _).mono ?_
    rintro r w1 ⟨rfl, b1⟩
    go_wp2_with fail
    all_goals (go_ret; exact ⟨rfl, b1⟩)
  have h3 : s.size < c.size := by omega
  clear hg
  go_enter Try.func6, Try.ntmps6
  go_wp2_with fail
  refine (works_any _).mono ?_
  rintro r w1 ⟨rfl, b1⟩
  go_wp2_with fail
  all_goals (go_ret; exact ⟨rfl, b1⟩)

theorem facts (s c : ByteArray) (k : Nat) (hk : k + c.size ≤ s.size) (h4 : c.size ≤ 4) (t : ByteArray) (ht : s.extract 0 k ++ c ++ s.extract (k + c.size) s.size = t) :
    t.size = s.size ∧ ∃ q : Bool, (((sumV [s] : Nat) : Int) == ((sumV [t] : Nat) : Int)) = q ∧ (s.toList == t.toList) = q := by
  have e1 : s.data.toList = s.data.toList.take k ++ (s.data.toList.drop k).take c.size ++ s.data.toList.drop (k + c.size) := by
    rw [List.append_assoc, ← List.drop_drop, List.take_append_drop, List.take_append_drop]
  have e2 : t.data.toList = s.data.toList.take k ++ c.data.toList ++ s.data.toList.drop (k + c.size) := by
    rw [← ht]
    simp [ByteArray.data_extract]
    apply List.take_of_length_le
    simp
  have hl : c.data.toList.length = c.size := by simp
  have hs : s.data.toList.length = s.size := by simp
  have hm : ((s.data.toList.drop k).take c.size).length = c.data.toList.length := by
    rw [List.length_take, List.length_drop, hl, hs]; omega
  have e3 : t.data.toList.length = s.data.toList.length := by
    rw [e2, List.length_append, List.length_append, List.length_take, List.length_drop, hl, hs]; omega
  refine ⟨by simpa using e3, ?_⟩
  rw [Go.ByteArray.toList_eq, Go.ByteArray.toList_eq]
  by_cases h : s.data.toList = t.data.toList
  · exact ⟨true, by rw [sumV_one, sumV_one, h]; simp, by rw [h]; simp⟩
  · refine ⟨false, ?_, by simpa using h⟩
    rw [beq_eq_false_iff_ne, ne_eq]
    intro hq
    apply h
    have hq2 : sumV [s] = sumV [t] := by omega
    rw [sumV_one, sumV_one] at hq2
    have hq3 := xor_right_inj hq2
    unfold moreV at hq3
    rw [e2]
    rw [e2] at hq3
    generalize (s.data.toList.drop k).take c.size = u at *
    generalize s.data.toList.take k = p at *
    generalize s.data.toList.drop (k + c.size) = r at *
    rw [e1] at hq3 ⊢
    rw [harm _ (low_lt _) p u c.data.toList r hm (by omega) hq3]

set_option maxRecDepth 10000 in
set_option maxHeartbeats 1000000 in
theorem walk (s : ByteArray) (i : Int) (c : ByteArray) (ws : s.size ≤ maxLen) (wc : c.size ≤ maxLen) (w : World) :
    Calls Try.prog 6 #[.string s, .int .i64 i, .string c] w fun e w' => e = .returned (.bool true) ∧ Below w.heap.size w w' := by
  by_cases hg : 2000 < s.size ∨ 4 < c.size ∨ s.size < c.size
  · exact early s i c w ws wc hg
  have hs : s.size ≤ 2000 := by omega
  have hc : c.size ≤ 4 := by omega
  have hcs : c.size ≤ s.size := by omega
  clear hg ws wc
  have d1 : decide (2000 < s.size) = false := decide_eq_false (by omega)
  have d2 : decide (2000 < (s.size : Int)) = false := decide_eq_false (by omega)
  have d3 : decide (4 < c.size) = false := decide_eq_false (by omega)
  have d4 : decide (4 < (c.size : Int)) = false := decide_eq_false (by omega)
  have d5 : decide (s.size < c.size) = false := decide_eq_false (by omega)
  have d6 : decide ((s.size : Int) < (c.size : Int)) = false := decide_eq_false (by omega)
  obtain ⟨x1, hmx⟩ : ∃ x, (if i < 0 then (0 : Int) else i) = x := ⟨_, rfl⟩
  have x0 : 0 ≤ x1 := by rw [← hmx]; split <;> omega
  have HMX := Lib.hid hmx
  clear hmx
  obtain ⟨k, hmn, hk⟩ : ∃ k : Nat, (if (s.size : Int) - c.size < x1 then (s.size : Int) - c.size else x1) = k ∧ k + c.size ≤ s.size := by
    split
    · exact ⟨s.size - c.size, by omega, by omega⟩
    · exact ⟨x1.toNat, by omega, by omega⟩
  go_enter Try.func6, Try.ntmps6
  go_wp2_with fail
  refine (works_any _).mono ?_
  rintro r w1 ⟨rfl, b1⟩
  have hmx := HMX.out
  go_wp2_with fail
  clear hmx x0 hmn
  have k1 : k ≤ s.size := by omega
  go_quiet (fail)
  have bl1 := below_draws b1 nq
  clear b1
  generalize w1.drewN nq = w2 at *
  obtain ⟨t, ht⟩ : ∃ t, s.extract 0 k ++ c ++ s.extract (k + c.size) s.size = t := ⟨_, rfl⟩
  obtain ⟨f1, q, f2, f3⟩ := facts s c k hk hc t ht
  rw [ht]
  have S1 := Lib.hid (fun b T w (h : TabAt w b) (hb : b < w.heap.size) => sum_new b [s] 1 T w h hb rfl (by decide) (by simp only [List.mem_singleton]; rintro t rfl; omega) #[.string s] (by rfl))
  have S2 := Lib.hid (fun b T w (h : TabAt w b) (hb : b < w.heap.size) => sum_new b [t] 1 T w h hb rfl (by decide) (by simp only [List.mem_singleton]; rintro t rfl; omega) #[.string t] (by rfl))
  have bS := sumV_lt [s]
  have bT := sumV_lt [t]
  generalize sumV [s] = S at *
  generalize sumV [t] = T at *
  generalize s.extract 0 k ++ c = u1
  generalize s.extract 0 k = u2
  generalize s.extract (k + c.size) s.size = u3
  clear ht f1 d1 d2 d3 d4 d5 d6 HMX
  go_wp2_with fail
  refine (make_any _).mono ?_
  rintro r w3 ⟨rfl, b3, t3, z3⟩
  have bl3 := below_more bl1 (Nat.le_refl _) b3
  clear bl1 b3
  generalize w2.heap.size = B at *
  have T3 := Lib.hid t3
  clear t3
  go_wp2_with fail
  refine (S1.out _ _ _ T3.out z3).mono ?_
  rintro r w4 ⟨rfl, rfl⟩
  have bl4 := bl3.alloc bl3.size (Obj.cells #[.string s] 9)
  have T4 := Lib.hid (T3.out.alloc z3 (Obj.cells #[.string s] 9))
  have z4 : B < (w3.alloc (Obj.cells #[.string s] 9)).heap.size := by simp; omega
  clear bl3 T3
  generalize w3.alloc (Obj.cells #[.string s] 9) = w4 at *
  go_wp2_with fail
  refine (S2.out _ _ _ T4.out z4).mono ?_
  rintro r w5 ⟨rfl, rfl⟩
  have bl5 := bl4.alloc bl4.size (Obj.cells #[.string t] 9)
  clear bl4 T4
  generalize w4.alloc (Obj.cells #[.string t] 9) = w5 at *
  go_wp2_with fail
  go_ret
  exact ⟨rfl, bl5⟩

set_option maxRecDepth 100000 in
theorem lifted (os : Os) (started : os.Started) (H : Type) (enc : TypeId × Value → H) :
    ReturnsInHanded {} Try.checked os 6 .any (Rows.crcsHarmSpec.pre6 enc Try.prog Try.f6 Rows.crcsHarmRow.domain false) (Rows.crcsHarmSpec.post enc Try.prog Try.f6 false true false false) := by
  refine returnsInHanded_of_change (C := Try.checked) own started (by kernel_rfl) Try.func6
    (ChangeSpec.witness6 (enc := enc) (C := Try.checked) false ⟨#[], #[.string ByteArray.empty, .int .i64 0, .string ByteArray.empty], []⟩ 8 (by kernel_rfl) (by kernel_rfl) (by kernel_rfl) (by kernel_rfl)) ?_
  intro W base args ds gs before hval0 hW hcnd _
  have hval : ∀ (j : Nat) t v, Try.f6.params[j]? = some t → args[j]? = some v → Value.okWide Try.prog W .any base t v := hval0
  have hW' := hW
  obtain ⟨p, q, hA0, hV, rfl, hfz, hnd⟩ := hW
  have hA : DataW.TrodAll enc Try.prog W 0 (fun _ => true) true Try.f6.params.toList args.toList ds p := hA0
  rw [Try.params6] at hA hval
  obtain ⟨v0, vs0, d0, ds0, p0, q0, hargs, rfl, rfl, h0, r0⟩ := trodAll_cons hA
  obtain ⟨v1, vs1, d1, ds1, p1, q1, rfl, rfl, rfl, h1, r1⟩ := trodAll_cons r0
  obtain ⟨v2, vs2, d2, ds2, p2, q2, rfl, rfl, rfl, h2, r2⟩ := trodAll_cons r1
  obtain ⟨rfl, rfl, rfl⟩ := trodAll_nil r2
  obtain rfl : args = #[v0, v1, v2] := by cases args; simp_all
  obtain ⟨rfl, rfl⟩ := trodVars_none hV
  have k0 := h0
  have lt0 : ∀ x ∈ p0, x.block < W.heap.size := by obtain ⟨m, hm⟩ := k0; exact DataW.trod_lt m _ _ _ hm
  obtain ⟨a0, rfl, rfl, rfl, w0⟩ := open_string Try.underlying9 (hval 0 9 v0 rfl rfl) h0
  have k1 := h1
  have lt1 : ∀ x ∈ p1, x.block < W.heap.size := by obtain ⟨m, hm⟩ := k1; exact DataW.trod_lt m _ _ _ hm
  obtain ⟨a1, rfl, rfl, rfl, w1⟩ := open_int Try.underlying3 (hval 1 3 v1 rfl rfl) h1
  have k2 := h2
  have lt2 : ∀ x ∈ p2, x.block < W.heap.size := by obtain ⟨m, hm⟩ := k2; exact DataW.trod_lt m _ _ _ hm
  obtain ⟨a2, rfl, rfl, rfl, w2⟩ := open_string Try.underlying9 (hval 2 9 v2 rfl rfl) h2
  clear hA0 hval0
  refine (walk a0 a1 a2 w0 w2 W).mono fun e W' ⟨he, bel⟩ => ?_
  subst he
  exact ⟨_, rfl, _, _, _, [], _, [], hW', trodAll_mk1 (shut_bool Try.underlying4 _), (trodAll_cons_mk (Below.trod laidOut (by kernel_rfl) (of_decide_eq_true (by kernel_rfl)) k0 bel lt0) (trodAll_cons_mk (Below.trod laidOut (by kernel_rfl) (of_decide_eq_true (by kernel_rfl)) k1 bel lt1) (trodAll_cons_mk (Below.trod laidOut (by kernel_rfl) (of_decide_eq_true (by kernel_rfl)) k2 bel lt2) trodAll_mk0))), rfl, bel.frame _, fun h => by cases h⟩

theorem over : Rows.crcsHarmRow.holds Try.pinned (OpenSpec.ofChange Rows.crcsHarmSpec) :=
  OpenClaim.holds_of_wide 6 Try.f6 rfl rfl rfl rfl rfl rfl rfl ⟨rfl, rfl, rfl, rfl, rfl⟩ rfl rfl rfl rfl rfl (by kernel_rfl) Try.func6 (by kernel_rfl)
    (of_decide_eq_true (by kernel_rfl)) (by unfold Func.isWrapper; first | (rw [if_pos (by decide +kernel)]; kernel_rfl) | (rw [if_neg (by decide +kernel)]; exact ⟨rfl, rfl⟩))
    (fun os started H enc _ => lifted os started H enc)

theorem proved : Rows.CrcsHarmSaid := over
end Go.Proofs.Ytkpnpldjhgpaiaa.crcsHarm
