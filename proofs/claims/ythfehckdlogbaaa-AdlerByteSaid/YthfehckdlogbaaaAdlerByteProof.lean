/-
  Proved: one byte that is another one makes another Adler sum, and a sum is a number of 32 bits (statement AdlerByte). Conditions: none.
-/
import Derived.Test.YthfehckdlogbaaaRows
import Derived.Test.YthfehckdlogbaaaAdlSum
import Derived.Test.YthfehckdlogbaaaOctMath
import Derived.WalkKit
import Derived.ProofKit
import Derived.OpenShut
import Derived.ShutString
import Derived.ChangeOld
import Derived.Below
import Derived.Lib.SmallJoins
import Derived.Deep.Slices
namespace Go.Proofs.Ythfehckdlogbaaa.adlerByte
open Go.Proofs.Ythfehckdlogbaaa.Adl
open Go.Proofs.Ythfehckdlogbaaa.Oct
open Go.ChangeShapes Go.WideShapes Go.ChangeAt Go.RowKit
open Go.ChangeMaps (open_string shut_string)
set_option linter.unusedVariables false

theorem own : ownKnob Try.prog.godebug = none := by kernel_rfl
theorem laidOut : laidOutB Try.prog = true := by kernel_rfl

theorem sumV_one (t : ByteArray) : sumV [t] = moreV 1 t.data.toList := rfl

theorem early (s : ByteArray) (i c : Int) (w : World) (ws : s.size ≤ maxLen) (hg : s.size < 1 ∨ 3000 < s.size) :
    Calls Try.prog 5 #[.string s, .int .i64 i, .int .u8 c] w fun e w' => e = .returned (.bool true) ∧ Below w.heap.size w w' := by
  unfold maxLen at ws
  by_cases h1 : s.size < 1
  · clear hg
    go_enter Try.func5, Try.ntmps5
    go_wp2_with fail
    refine (works_any _).mono ?_
    rintro r w1 ⟨rfl, b1⟩
    go_wp2_with fail
    all_goals (go_ret; exact ⟨rfl, b1⟩)
  have h3 : 3000 < s.size := by omega
  clear hg
  go_enter Try.func5, Try.ntmps5
  go_wp2_with fail
  refine (works_any _).mono ?_
  rintro r w1 ⟨rfl, b1⟩
  go_wp2_with fail
  all_goals (go_ret; exact ⟨rfl, b1⟩)

theorem facts (s : ByteArray) (k : Nat) (b : UInt8) (hk : k < s.size) (t : ByteArray) (ht : s.extract 0 k ++ ⟨#[b]⟩ ++ s.extract (k + 1) s.size = t) :
    t.size = s.size ∧ ∃ q : Bool, (moreV 1 s.data.toList == moreV 1 t.data.toList) = q ∧ (s.toList == t.toList) = q := by
  have hk' : k < s.data.toList.length := by simpa using hk
  have e1 : s.data.toList = s.data.toList.take k ++ s.data.toList[k] :: s.data.toList.drop (k + 1) := by
    rw [← List.drop_eq_getElem_cons hk', List.take_append_drop]
  have e2 : t.data.toList = s.data.toList.take k ++ b :: s.data.toList.drop (k + 1) := by
    rw [← ht]
    simp [ByteArray.data_extract]
    apply List.take_of_length_le
    simp
  have e3 : t.data.toList.length = s.data.toList.length := by
    rw [e2]; simp; omega
  refine ⟨by simpa using e3, ?_⟩
  rw [Go.ByteArray.toList_eq, Go.ByteArray.toList_eq]
  by_cases h : s.data.toList = t.data.toList
  · exact ⟨true, by rw [h]; simp, by rw [h]; simp⟩
  · refine ⟨false, ?_, by simpa using h⟩
    simp only [beq_eq_false_iff_ne, ne_eq]
    intro hm
    apply h
    rw [e2]
    rw [e2] at hm
    generalize s.data.toList[k] = d at *
    generalize s.data.toList.take k = p at *
    generalize s.data.toList.drop (k + 1) = r at *
    rw [e1] at hm ⊢
    rw [sumL_set _ _ _ _ hm]

set_option maxHeartbeats 1000000 in
theorem walk (s : ByteArray) (i c : Int) (ws : s.size ≤ maxLen) (wc : (Lit.int .u8 c).wf = true) (w : World) :
    Calls Try.prog 5 #[.string s, .int .i64 i, .int .u8 c] w fun e w' => e = .returned (.bool true) ∧ Below w.heap.size w w' := by
  by_cases hg : s.size < 1 ∨ 3000 < s.size
  · exact early s i c w ws hg
  have hs0 : 1 ≤ s.size := by omega
  have hs : s.size ≤ 3000 := by omega
  clear hg ws
  have c0 : 0 ≤ c ∧ c < 256 := by
    have e0 : IntKind.u8.min = 0 := rfl
    have e1 : IntKind.u8.max = 255 := rfl
    simp [Lit.wf] at wc; omega
  obtain ⟨b, rfl⟩ : ∃ b : UInt8, c = b.toNat := ⟨UInt8.ofNat c.toNat, by rw [UInt8.toNat_ofNat']; omega⟩
  clear c0 wc
  obtain ⟨x1, hmx⟩ : ∃ x, (if i < 0 then (0 : Int) else i) = x := ⟨_, rfl⟩
  have x0 : 0 ≤ x1 := by rw [← hmx]; split <;> omega
  have HMX := Lib.hid hmx
  clear hmx
  obtain ⟨k, hmn, hk⟩ : ∃ k : Nat, (if (s.size : Int) - 1 < x1 then (s.size : Int) - 1 else x1) = k ∧ k < s.size := by
    split
    · exact ⟨s.size - 1, by omega, by omega⟩
    · exact ⟨x1.toNat, by omega, by omega⟩
  have d1 : decide (s.size < 1) = false := decide_eq_false (by omega)
  have d2 : decide (3000 < s.size) = false := decide_eq_false (by omega)
  go_enter Try.func5, Try.ntmps5
  go_wp2_with fail
  refine (works_any _).mono ?_
  rintro r w1 ⟨rfl, b1⟩
  have z1 := b1.size
  have hcv : (convert 28 9 (.slice (some ⟨w1.heap.size, 0, none⟩) 1 1)).run Try.prog (w1.alloc (.cells #[.int .u8 b.toNat] 5)).drew = .ok (.string ⟨#[b]⟩) (w1.alloc (.cells #[.int .u8 b.toNat] 5)).drew :=
    Oct.run_string_of _ _ _ 5 _ _ [b] 1 rfl (by kernel_rfl) (by kernel_rfl) (by kernel_rfl) (fun j hj => by
      obtain rfl : j = 0 := by omega
      rw [Oct.addr_add]
      show (w1.alloc (.cells #[.int .u8 b.toNat] 5)).cell? _ = _
      simp)
  have hmx := HMX.out
  go_wp2_with fail
  clear hmx x0 hmn
  have k1 : k ≤ s.size := by omega
  have k2 : k + 1 ≤ s.size := by omega
  go_region
  obtain ⟨t, ht⟩ : ∃ t, s.extract 0 k ++ ⟨#[b]⟩ ++ s.extract (k + 1) s.size = t := ⟨_, rfl⟩
  obtain ⟨f1, q, f2, f3⟩ := facts s k b hk t ht
  rw [ht]
  have bS := moreV_bd 1 s.data.toList
  have rs : sumV [s] = moreV 1 s.data.toList := rfl
  have rt : sumV [t] = moreV 1 t.data.toList := rfl
  generalize moreV 1 s.data.toList = S1 at *
  generalize moreV 1 t.data.toList = T1 at *
  obtain ⟨bS0, bS1⟩ := bS
  have RS := Lib.hid rs
  have RT := Lib.hid rt
  have htz : t.size ≤ 3000 := by omega
  have b2 : Below w.heap.size w (w1.alloc (.cells #[.int .u8 b.toNat] 5)).drew := (b1.alloc z1 _).drew
  clear rs rt b1 hcv
  generalize (w1.alloc (.cells #[.int .u8 b.toNat] 5)).drew = w2 at *
  generalize s.extract 0 k ++ ⟨#[b]⟩ = u1
  generalize s.extract 0 k = u2
  generalize s.extract (k + 1) s.size = u3
  clear ht f1
  go_wp2_with fail
  refine (sum_new [s] 1 _ _ rfl (by decide) (by simp only [List.mem_singleton]; rintro t rfl; omega) _ (by rfl)).mono ?_
  rintro r w3 ⟨rfl, rfl⟩
  rw [RS.out]
  have b3 := b2.alloc b2.size (Obj.cells #[.string s] 9)
  clear b2
  generalize w2.alloc (Obj.cells #[.string s] 9) = w3 at *
  go_wp2_with fail
  refine (sum_new [t] 1 _ _ rfl (by decide) (by simp only [List.mem_singleton]; rintro t rfl; omega) _ (by rfl)).mono ?_
  rintro r w4 ⟨rfl, rfl⟩
  rw [RT.out]
  have b4 := b3.alloc b3.size (Obj.cells #[.string t] 9)
  clear b3
  generalize w3.alloc (Obj.cells #[.string t] 9) = w4 at *
  go_wp2_with fail
  refine (sum_new [s] 1 _ _ rfl (by decide) (by simp only [List.mem_singleton]; rintro t rfl; omega) _ (by rfl)).mono ?_
  rintro r w5 ⟨rfl, rfl⟩
  rw [RS.out]
  have b5 := b4.alloc b4.size (Obj.cells #[.string s] 9)
  clear b4
  generalize w4.alloc (Obj.cells #[.string s] 9) = w5 at *
  go_wp2_with fail
  refine (sum_new [s] 1 _ _ rfl (by decide) (by simp only [List.mem_singleton]; rintro t rfl; omega) _ (by rfl)).mono ?_
  rintro r w6 ⟨rfl, rfl⟩
  rw [RS.out]
  have b6 := b5.alloc b5.size (Obj.cells #[.string s] 9)
  clear b5
  generalize w5.alloc (Obj.cells #[.string s] 9) = w6 at *
  go_wp2_with fail
  go_ret
  exact ⟨rfl, b6⟩

set_option maxRecDepth 100000 in
theorem lifted (os : Os) (started : os.Started) (H : Type) (enc : TypeId × Value → H) :
    ReturnsInHanded {} Try.checked os 5 .any (Rows.adlerByteSpec.pre6 enc Try.prog Try.f5 Rows.adlerByteRow.domain false) (Rows.adlerByteSpec.post enc Try.prog Try.f5 false true false false) := by
  refine returnsInHanded_of_change (C := Try.checked) own started (by kernel_rfl) Try.func5
    (ChangeSpec.witness6 (enc := enc) (C := Try.checked) false ⟨#[], #[.string ByteArray.empty, .int .i64 0, .int .u8 0], []⟩ 8 (by kernel_rfl) (by kernel_rfl) (by kernel_rfl) (by kernel_rfl)) ?_
  intro W base args ds gs before hval0 hW hcnd _
  have hval : ∀ (j : Nat) t v, Try.f5.params[j]? = some t → args[j]? = some v → Value.okWide Try.prog W .any base t v := hval0
  have hW' := hW
  obtain ⟨p, q, hA0, hV, rfl, hfz, hnd⟩ := hW
  have hA : DataW.TrodAll enc Try.prog W 0 (fun _ => true) true Try.f5.params.toList args.toList ds p := hA0
  rw [Try.params5] at hA hval
  obtain ⟨v0, vs0, d0, ds0, p0, q0, hargs, rfl, rfl, h0, r0⟩ := trodAll_cons hA
  obtain ⟨v1, vs1, d1, ds1, p1, q1, rfl, rfl, rfl, h1, r1⟩ := trodAll_cons r0
  obtain ⟨v2, vs2, d2, ds2, p2, q2, rfl, rfl, rfl, h2, r2⟩ := trodAll_cons r1
  obtain ⟨rfl, rfl, rfl⟩ := trodAll_nil r2
  obtain rfl : args = #[v0, v1, v2] := by cases args; simp_all
  obtain ⟨rfl, rfl⟩ := trodVars_none hV
  have k0 := h0
  have lt0 : ∀ x ∈ p0, x.block < W.heap.size := by obtain ⟨m, hm⟩ := k0; exact DataW.trod_lt m _ _ _ hm
  obtain ⟨a0, rfl, rfl, rfl, w0⟩ := open_string Try.underlying9 (hval 0 9 v0 rfl rfl) h0
  have k1 := h1
  have lt1 : ∀ x ∈ p1, x.block < W.heap.size := by obtain ⟨m, hm⟩ := k1; exact DataW.trod_lt m _ _ _ hm
  obtain ⟨a1, rfl, rfl, rfl, w1⟩ := open_int Try.underlying3 (hval 1 3 v1 rfl rfl) h1
  have k2 := h2
  have lt2 : ∀ x ∈ p2, x.block < W.heap.size := by obtain ⟨m, hm⟩ := k2; exact DataW.trod_lt m _ _ _ hm
  obtain ⟨a2, rfl, rfl, rfl, w2⟩ := open_int Try.underlying5 (hval 2 5 v2 rfl rfl) h2
  clear hA0 hval0
  refine (walk a0 a1 a2 w0 w2 W).mono fun e W' ⟨he, bel⟩ => ?_
  subst he
  exact ⟨_, rfl, _, _, _, [], _, [], hW', trodAll_mk1 (shut_bool Try.underlying4 _), (trodAll_cons_mk (Below.trod laidOut (by kernel_rfl) (of_decide_eq_true (by kernel_rfl)) k0 bel lt0) (trodAll_cons_mk (Below.trod laidOut (by kernel_rfl) (of_decide_eq_true (by kernel_rfl)) k1 bel lt1) (trodAll_cons_mk (Below.trod laidOut (by kernel_rfl) (of_decide_eq_true (by kernel_rfl)) k2 bel lt2) trodAll_mk0))), rfl, bel.frame _, fun h => by cases h⟩

theorem over : Rows.adlerByteRow.holds Try.pinned (OpenSpec.ofChange Rows.adlerByteSpec) :=
  OpenClaim.holds_of_wide 5 Try.f5 rfl rfl rfl rfl rfl rfl rfl ⟨rfl, rfl, rfl, rfl, rfl⟩ rfl rfl rfl rfl rfl (by kernel_rfl) Try.func5 (by kernel_rfl)
    (of_decide_eq_true (by kernel_rfl)) (by unfold Func.isWrapper; first | (rw [if_pos (by decide +kernel)]; kernel_rfl) | (rw [if_neg (by decide +kernel)]; exact ⟨rfl, rfl⟩))
    (fun os started H enc _ => lifted os started H enc)

theorem proved : Rows.AdlerByteSaid := over
end Go.Proofs.Ythfehckdlogbaaa.adlerByte
