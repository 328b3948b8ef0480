/-
  LzBack (layer 6): what is packed is expanded again, with the same window, by tokens that are valid, not more than there are bytes.
-/
import Derived.Test.YtlafenookbdhoaaRows
import Derived.Test.YtlafenookbdhoaaLzBackI
import Derived.WalkKit
import Derived.ProofKit
import Derived.OpenShut
import Derived.ShutString
import Derived.ChangeOld
import Derived.Below
import Derived.Lib.SmallJoins
import Derived.Deep.Slices
namespace Go.Proofs.Ytlafenookbdhoaa.lzBack
open Go.Proofs.Ytlafenookbdhoaa.Lz
open Go.ChangeShapes Go.WideShapes Go.ChangeAt Go.RowKit
open Go.ChangeMaps (open_string shut_string)
set_option linter.unusedVariables false

theorem own : ownKnob Try.prog.godebug = none := by kernel_rfl
theorem laidOut : laidOutB Try.prog = true := by kernel_rfl

theorem early (win s : ByteArray) (w : World) (ws : win.size ≤ maxLen) (hn : s.size ≤ maxLen) (hg : 100000 < win.size ∨ 2000 < s.size) :
    Calls Try.prog 5 #[.string win, .string s] w fun e w' => e = .returned (.bool true) ∧ Below w.heap.size w w' := by
  unfold maxLen at ws hn
  by_cases h1 : 100000 < win.size
  · clear hg
    go_enter Try.func5, Try.ntmps5
    go_wp2_with fail
    refine (works_any _).mono ?_
    rintro r w1 ⟨rfl, b1⟩
    go_wp2_with fail
    all_goals (go_ret; exact ⟨rfl, b1⟩)
  have h3 : 2000 < s.size := by omega
  clear hg
  go_enter Try.func5, Try.ntmps5
  go_wp2_with fail
  refine (works_any _).mono ?_
  rintro r w1 ⟨rfl, b1⟩
  go_wp2_with fail
  all_goals (go_ret; exact ⟨rfl, b1⟩)

set_option maxRecDepth 10000 in
set_option maxHeartbeats 2000000 in
theorem walk (win s : ByteArray) (w : World) (ws : win.size ≤ maxLen) (hm : s.size ≤ maxLen) :
    Calls Try.prog 5 #[.string win, .string s] w fun e w' => e = .returned (.bool true) ∧ Below w.heap.size w w' := by
  by_cases hg : 100000 < win.size ∨ 2000 < s.size
  · exact early win s w ws hm hg
  have h1 : win.size ≤ 100000 := by omega
  have h2 : s.size ≤ 2000 := by omega
  have d1 : decide (100000 < win.size) = false := decide_eq_false (by omega)
  have d2 : decide (2000 < s.size) = false := decide_eq_false (by omega)
  have d3 : decide ((100000 : Int) < win.size) = false := decide_eq_false (by omega)
  have d4 : decide ((2000 : Int) < s.size) = false := decide_eq_false (by omega)
  have CP := fun w' => Lib.hid (pack_any win s w' ws (by omega))
  have CX := fun w' a l cap (h : IsToks w' a l) (hl : l.length ≤ 1000000) => Lib.hid (refExpand_any win a l l.length cap w' rfl h ws (by omega))
  clear hg ws hm
  go_enter Try.func5, Try.ntmps5
  go_wp2_with fail
  refine (works_any _).mono ?_
  rintro r w1 ⟨rfl, b1⟩
  go_wp2_with fail
  refine (CP _).out.mono ?_
  rintro r w2 ⟨a, cap, l, rfl, ht, b2, hl, hch⟩
  obtain ⟨e1, e2, e3⟩ := hch.back
  have C3 := CX w2 a l cap ht hl
  rw [e1, e2, show (⟨s.data.toList.toArray⟩ : ByteArray) = s from by cases s; simp] at C3
  have B2 := Lib.hid (b1.trans (b2.mono b1.size))
  have e4 : l.length ≤ s.size := by simpa using e3
  clear b1 b2 ht CP CX hch e1 e2 e3
  obtain ⟨N, hN⟩ : ∃ N, l.length = N := ⟨_, rfl⟩
  rw [hN] at C3 e4 hl ⊢
  have e5 : decide ((N : Int) ≤ s.size) = true := decide_eq_true (by omega)
  have e6 : decide (N ≤ s.size) = true := decide_eq_true e4
  clear hN
  go_wp2_with fail
  refine C3.out.mono ?_
  rintro r w3 ⟨rfl, b3⟩
  have B3 := Lib.hid (B2.out.trans (b3.mono B2.out.size))
  clear B2 b3 C3
  go_wp2_with fail
  go_ret
  exact ⟨rfl, B3.out⟩

set_option maxRecDepth 100000 in
theorem lifted (os : Os) (started : os.Started) (H : Type) (enc : TypeId × Value → H) :
    ReturnsInHanded {} Try.checked os 5 .any (Rows.lzBackSpec.pre6 enc Try.prog Try.f5 Rows.lzBackRow.domain false) (Rows.lzBackSpec.post enc Try.prog Try.f5 false true false false) := by
  refine returnsInHanded_of_change (C := Try.checked) own started (by kernel_rfl) Try.func5
    (ChangeSpec.witness6 (enc := enc) (C := Try.checked) false ⟨#[], #[.string ByteArray.empty, .string ByteArray.empty], []⟩ 8 (by kernel_rfl) (by kernel_rfl) (by kernel_rfl) (by kernel_rfl)) ?_
  intro W base args ds gs before hval0 hW hcnd _
  have hval : ∀ (j : Nat) t v, Try.f5.params[j]? = some t → args[j]? = some v → Value.okWide Try.prog W .any base t v := hval0
  have hW' := hW
  obtain ⟨p, q, hA0, hV, rfl, hfz, hnd⟩ := hW
  have hA : DataW.TrodAll enc Try.prog W 0 (fun _ => true) true Try.f5.params.toList args.toList ds p := hA0
  rw [Try.params5] at hA hval
  obtain ⟨v0, vs0, d0, ds0, p0, q0, hargs, rfl, rfl, h0, r0⟩ := trodAll_cons hA
  obtain ⟨v1, vs1, d1, ds1, p1, q1, rfl, rfl, rfl, h1, r1⟩ := trodAll_cons r0
  obtain ⟨rfl, rfl, rfl⟩ := trodAll_nil r1
  obtain rfl : args = #[v0, v1] := by cases args; simp_all
  obtain ⟨rfl, rfl⟩ := trodVars_none hV
  have k0 := h0
  have lt0 : ∀ x ∈ p0, x.block < W.heap.size := by obtain ⟨m, hm⟩ := k0; exact DataW.trod_lt m _ _ _ hm
  obtain ⟨a0, rfl, rfl, rfl, w0⟩ := open_string Try.underlying9 (hval 0 9 v0 rfl rfl) h0
  have k1 := h1
  have lt1 : ∀ x ∈ p1, x.block < W.heap.size := by obtain ⟨m, hm⟩ := k1; exact DataW.trod_lt m _ _ _ hm
  obtain ⟨a1, rfl, rfl, rfl, w1⟩ := open_string Try.underlying9 (hval 1 9 v1 rfl rfl) h1
  clear hA0 hval0
  refine (walk a0 a1 W w0 w1).mono fun e W' ⟨he, bel⟩ => ?_
  subst he
  exact ⟨_, rfl, _, _, _, [], _, [], hW', trodAll_mk1 (shut_bool Try.underlying4 _), (trodAll_cons_mk (Below.trod laidOut (by kernel_rfl) (of_decide_eq_true (by kernel_rfl)) k0 bel lt0) (trodAll_cons_mk (Below.trod laidOut (by kernel_rfl) (of_decide_eq_true (by kernel_rfl)) k1 bel lt1) trodAll_mk0)), rfl, bel.frame _, fun h => by cases h⟩

theorem over : Rows.lzBackRow.holds Try.pinned (OpenSpec.ofChange Rows.lzBackSpec) :=
  OpenClaim.holds_of_wide 5 Try.f5 rfl rfl rfl rfl rfl rfl rfl ⟨rfl, rfl, rfl, rfl, rfl⟩ rfl rfl rfl rfl rfl (by kernel_rfl) Try.func5 (by kernel_rfl)
    (of_decide_eq_true (by kernel_rfl)) (by unfold Func.isWrapper; first | (rw [if_pos (by decide +kernel)]; kernel_rfl) | (rw [if_neg (by decide +kernel)]; exact ⟨rfl, rfl⟩))
    (fun os started H enc _ => lifted os started H enc)

theorem proved : Rows.LzBackSaid := over
end Go.Proofs.Ytlafenookbdhoaa.lzBack
