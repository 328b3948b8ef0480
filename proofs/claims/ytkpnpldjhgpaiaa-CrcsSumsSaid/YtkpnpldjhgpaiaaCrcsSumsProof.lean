/-
  Proved: crcs.More and Sum of any bytes, from any number on, by Make's table and by one that is none, are just what the reference says (statement CrcsSums). Conditions: none.
-/
import Derived.Test.YtkpnpldjhgpaiaaRows
import Derived.Test.YtkpnpldjhgpaiaaCrcRef
import Derived.WalkKit
import Derived.ProofKit
import Derived.OpenShut
import Derived.ShutString
import Derived.ChangeOld
import Derived.Below
import Derived.Lib.SmallJoins
import Derived.Deep.Slices
namespace Go.Proofs.Ytkpnpldjhgpaiaa.crcsSums
open Go.Proofs.Ytkpnpldjhgpaiaa.Crc
open Go.ChangeShapes Go.WideShapes Go.ChangeAt Go.RowKit
open Go.ChangeMaps (open_string shut_string)
set_option linter.unusedVariables false

theorem own : ownKnob Try.prog.godebug = none := by kernel_rfl
theorem laidOut : laidOutB Try.prog = true := by kernel_rfl

theorem ints_view {H : Type} {enc : TypeId × Value → H} {W : World} {a : Option Addr} {len cap : Nat} {d : DataW H} {p : List MemPlace} (h : DataW.Trod enc Try.prog W 0 (fun _ => true) true 23 (.slice a len cap) d p) :
    ∃ A : Unit, len ≤ maxLen := by
  obtain ⟨fuel, hf⟩ := h
  rcases Go.Deep.open_slice Try.underlying23 hf with ⟨hcs, _⟩ | ⟨x, l, c, m, n, D, Pl, hcs, _, hl, hm, hmm, _, hx⟩
  · simp [Value.cells] at hcs
    obtain ⟨rfl, rfl, rfl⟩ := hcs
    exact ⟨(), by simp⟩
  · simp [Value.cells] at hcs
    obtain ⟨rfl, rfl, rfl⟩ := hcs
    exact ⟨(), by omega⟩

theorem early (c : Int) (s : ByteArray) (a : Option Addr) (n cap : Nat) (w : World) (ws : s.size ≤ maxLen) (wn : n ≤ maxLen) (hg : 2000 < s.size ∨ 100 < n) :
    Calls Try.prog 4 #[.int .i64 c, .string s, .slice a n cap] w fun e w' => e = .returned (.bool true) ∧ Below w.heap.size w w' := by
  unfold maxLen at ws wn
  by_cases h1 : 2000 < s.size
  · clear hg
    go_enter Try.func4, Try.ntmps4
    go_wp2_with fail
    refine (works_any _).mono ?_
    rintro r w1 ⟨rfl, b1⟩
    go_wp2_with fail
    all_goals (go_ret; exact ⟨rfl, b1⟩)
  have h3 : 100 < n := by omega
  clear hg
  go_enter Try.func4, Try.ntmps4
  go_wp2_with fail
  refine (works_any _).mono ?_
  rintro r w1 ⟨rfl, b1⟩
  go_wp2_with fail
  all_goals (go_ret; exact ⟨rfl, b1⟩)

set_option maxRecDepth 10000 in
set_option maxHeartbeats 1000000 in
theorem walk (c : Int) (s : ByteArray) (a : Option Addr) (n cap : Nat) (ws : s.size ≤ maxLen) (wn : n ≤ maxLen) (w : World) :
    Calls Try.prog 4 #[.int .i64 c, .string s, .slice a n cap] w fun e w' => e = .returned (.bool true) ∧ Below w.heap.size w w' := by
  by_cases hg : 2000 < s.size ∨ 100 < n
  · exact early c s a n cap w ws wn hg
  have hs : s.size ≤ 2000 := by omega
  have hn : n ≤ 100 := by omega
  clear hg ws wn
  have d1 : decide (2000 < s.size) = false := decide_eq_false (by omega)
  have d2 : decide (2000 < (s.size : Int)) = false := decide_eq_false (by omega)
  have d3 : decide (100 < n) = false := decide_eq_false (by omega)
  have d4 : decide (100 < (n : Int)) = false := decide_eq_false (by omega)
  have bM := moreV_lt c s.data.toList
  have bS := sumV_lt [s]
  have M1 := Lib.hid (fun b w (h : TabAt w b) => more_tab b c s w h (by omega))
  have M2 := Lib.hid (fun w => more_none a n cap c s w hn (by omega))
  have M3 := Lib.hid (fun w => refMore_any c s w (by omega))
  have S1 := Lib.hid (fun b T w (h : TabAt w b) (hb : b < w.heap.size) => sum_new b [s] 1 T w h hb rfl (by decide) (by simp only [List.mem_singleton]; rintro t rfl; omega) #[.string s] (by rfl))
  have S2 := Lib.hid (fun T w => sum_new_none a n cap hn [s] 1 T w _ rfl (by decide) (by simp only [List.mem_singleton]; rintro t rfl; omega) #[.string s] (by rfl) rfl)
  have S3 := Lib.hid (fun w => refSum_any s w (by omega))
  generalize moreV c s.data.toList = M at *
  generalize sumV [s] = S at *
  go_enter Try.func4, Try.ntmps4
  go_wp2_with fail
  refine (works_any _).mono ?_
  rintro r w1 ⟨rfl, b1⟩
  go_wp2_with fail
  refine (make_any _).mono ?_
  rintro r w2 ⟨rfl, b2, t2, z2⟩
  have bl2 := below_more b1 (Nat.le_refl _) b2
  clear b1 b2
  generalize w1.heap.size = B at *
  have T2 := Lib.hid t2
  clear t2
  go_wp2_with fail
  refine (M3.out _).mono ?_
  rintro r w3 ⟨rfl, rfl⟩
  go_wp2_with fail
  refine (M1.out _ _ T2.out).mono ?_
  rintro r w3 ⟨rfl, rfl⟩
  go_wp2_with fail
  refine (M2.out _).mono ?_
  rintro r w3 ⟨rfl, b3, _, _⟩
  have T3 := Lib.hid (T2.out.below b3 z2)
  have z3 : B < w3.heap.size := Nat.lt_of_lt_of_le z2 b3.size
  have bl3 := below_more bl2 (Nat.le_refl _) b3
  clear T2 b3 z2 bl2
  go_wp2_with fail
  refine (S1.out _ _ _ T3.out z3).mono ?_
  rintro r w4 ⟨rfl, rfl⟩
  have bl4 := bl3.alloc bl3.size (Obj.cells #[.string s] 9)
  have T4 := Lib.hid (T3.out.alloc z3 (Obj.cells #[.string s] 9))
  have z4 : B < (w3.alloc (Obj.cells #[.string s] 9)).heap.size := by simp; omega
  clear bl3 T3
  generalize w3.alloc (Obj.cells #[.string s] 9) = w4 at *
  go_wp2_with fail
  refine (S3.out _).mono ?_
  rintro r w5 ⟨rfl, rfl⟩
  go_wp2_with fail
  refine (S2.out _ _).mono ?_
  rintro r w6 ⟨rfl, b6⟩
  have T5 := T4.out.alloc z4 (Obj.cells #[.string s] 9)
  have z5 : B < (w4.alloc (Obj.cells #[.string s] 9)).heap.size := by simp; omega
  have bl5 := bl4.alloc bl4.size (Obj.cells #[.string s] 9)
  have T6 := Lib.hid (T5.below b6 z5)
  have z6 : B < w6.heap.size := Nat.lt_of_lt_of_le z5 b6.size
  have bl6 := below_more bl5 (Nat.le_refl _) b6
  clear T4 T5 bl4 bl5 b6 z5 z4
  go_wp2_with fail
  refine (S1.out _ _ _ T6.out z6).mono ?_
  rintro r w7 ⟨rfl, rfl⟩
  have bl7 := bl6.alloc bl6.size (Obj.cells #[.string s] 9)
  clear bl6 T6
  generalize w6.alloc (Obj.cells #[.string s] 9) = w7 at *
  go_wp2_with fail
  go_ret
  exact ⟨rfl, bl7⟩

set_option maxRecDepth 100000 in
theorem lifted (os : Os) (started : os.Started) (H : Type) (enc : TypeId × Value → H) :
    ReturnsInHanded {} Try.checked os 4 .any (Rows.crcsSumsSpec.pre6 enc Try.prog Try.f4 Rows.crcsSumsRow.domain false) (Rows.crcsSumsSpec.post enc Try.prog Try.f4 false true false false) := by
  refine returnsInHanded_of_change (C := Try.checked) own started (by kernel_rfl) Try.func4
    (ChangeSpec.witness6 (enc := enc) (C := Try.checked) false ⟨#[], #[.int .i64 0, .string ByteArray.empty, .slice none 0 0], []⟩ 8 (by kernel_rfl) (by kernel_rfl) (by kernel_rfl) (by kernel_rfl)) ?_
  intro W base args ds gs before hval0 hW hcnd _
  have hval : ∀ (j : Nat) t v, Try.f4.params[j]? = some t → args[j]? = some v → Value.okWide Try.prog W .any base t v := hval0
  have hW' := hW
  obtain ⟨p, q, hA0, hV, rfl, hfz, hnd⟩ := hW
  have hA : DataW.TrodAll enc Try.prog W 0 (fun _ => true) true Try.f4.params.toList args.toList ds p := hA0
  rw [Try.params4] at hA hval
  obtain ⟨v0, vs0, d0, ds0, p0, q0, hargs, rfl, rfl, h0, r0⟩ := trodAll_cons hA
  obtain ⟨v1, vs1, d1, ds1, p1, q1, rfl, rfl, rfl, h1, r1⟩ := trodAll_cons r0
  obtain ⟨v2, vs2, d2, ds2, p2, q2, rfl, rfl, rfl, h2, r2⟩ := trodAll_cons r1
  obtain ⟨rfl, rfl, rfl⟩ := trodAll_nil r2
  obtain rfl : args = #[v0, v1, v2] := by cases args; simp_all
  obtain ⟨rfl, rfl⟩ := trodVars_none hV
  have k0 := h0
  have lt0 : ∀ x ∈ p0, x.block < W.heap.size := by obtain ⟨m, hm⟩ := k0; exact DataW.trod_lt m _ _ _ hm
  obtain ⟨a0, rfl, rfl, rfl, w0⟩ := open_int Try.underlying3 (hval 0 3 v0 rfl rfl) h0
  have k1 := h1
  have lt1 : ∀ x ∈ p1, x.block < W.heap.size := by obtain ⟨m, hm⟩ := k1; exact DataW.trod_lt m _ _ _ hm
  obtain ⟨a1, rfl, rfl, rfl, w1⟩ := open_string Try.underlying9 (hval 1 9 v1 rfl rfl) h1
  have k2 := h2
  have lt2 : ∀ x ∈ p2, x.block < W.heap.size := by obtain ⟨m, hm⟩ := k2; exact DataW.trod_lt m _ _ _ hm
  obtain ⟨a2, len2, cap2, rfl⟩ := okWide_slice Try.underlying23 (hval 2 23 v2 rfl rfl)
  obtain ⟨A2, w2⟩ := ints_view h2
  clear hA0 hval0
  refine (walk a0 a1 a2 len2 cap2 w1 w2 W).mono fun e W' ⟨he, bel⟩ => ?_
  subst he
  exact ⟨_, rfl, _, _, _, [], _, [], hW', trodAll_mk1 (shut_bool Try.underlying4 _), (trodAll_cons_mk (Below.trod laidOut (by kernel_rfl) (of_decide_eq_true (by kernel_rfl)) k0 bel lt0) (trodAll_cons_mk (Below.trod laidOut (by kernel_rfl) (of_decide_eq_true (by kernel_rfl)) k1 bel lt1) (trodAll_cons_mk (Below.trod laidOut (by kernel_rfl) (of_decide_eq_true (by kernel_rfl)) k2 bel lt2) trodAll_mk0))), rfl, bel.frame _, fun h => by cases h⟩

theorem over : Rows.crcsSumsRow.holds Try.pinned (OpenSpec.ofChange Rows.crcsSumsSpec) :=
  OpenClaim.holds_of_wide 4 Try.f4 rfl rfl rfl rfl rfl rfl rfl ⟨rfl, rfl, rfl, rfl, rfl⟩ rfl rfl rfl rfl rfl (by kernel_rfl) Try.func4 (by kernel_rfl)
    (of_decide_eq_true (by kernel_rfl)) (by unfold Func.isWrapper; first | (rw [if_pos (by decide +kernel)]; kernel_rfl) | (rw [if_neg (by decide +kernel)]; exact ⟨rfl, rfl⟩))
    (fun os started H enc _ => lifted os started H enc)

theorem proved : Rows.CrcsSumsSaid := over
end Go.Proofs.Ytkpnpldjhgpaiaa.crcsSums
