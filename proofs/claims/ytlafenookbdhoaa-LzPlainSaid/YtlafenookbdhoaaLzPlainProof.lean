/-
  LzPlain (layer 6): plain tokens are the bytes, one by one, and make the text.
-/
import Derived.Test.YtlafenookbdhoaaRows
import Derived.Test.YtlafenookbdhoaaLzView
import Derived.WalkKit
import Derived.ProofKit
import Derived.OpenShut
import Derived.ShutString
import Derived.ChangeOld
import Derived.Below
import Derived.Lib.SmallJoins
import Derived.Deep.Slices
namespace Go.Proofs.Ytlafenookbdhoaa.lzPlain
open Go.Proofs.Ytlafenookbdhoaa.Lz
open Go.ChangeShapes Go.WideShapes Go.ChangeAt Go.RowKit
open Go.ChangeMaps (open_string shut_string)
set_option linter.unusedVariables false

theorem own : ownKnob Try.prog.godebug = none := by kernel_rfl
theorem laidOut : laidOutB Try.prog = true := by kernel_rfl

theorem early (win s : ByteArray) (w : World) (ws : win.size ≤ maxLen) (hn : s.size ≤ maxLen) (hg : 100000 < win.size ∨ 2000 < s.size) :
    Calls Try.prog 4 #[.string win, .string s] w fun e w' => e = .returned (.bool true) ∧ Below w.heap.size w w' := by
  unfold maxLen at ws hn
  by_cases h1 : 100000 < win.size
  · clear hg
    go_enter Try.func4, Try.ntmps4
    go_wp2_with fail
    refine (works_any _).mono ?_
    rintro r w1 ⟨rfl, b1⟩
    go_wp2_with fail
    all_goals (go_ret; exact ⟨rfl, b1⟩)
  have h3 : 2000 < s.size := by omega
  clear hg
  go_enter Try.func4, Try.ntmps4
  go_wp2_with fail
  refine (works_any _).mono ?_
  rintro r w1 ⟨rfl, b1⟩
  go_wp2_with fail
  all_goals (go_ret; exact ⟨rfl, b1⟩)

set_option maxRecDepth 10000 in
set_option maxHeartbeats 2000000 in
theorem walk (win s : ByteArray) (w : World) (ws : win.size ≤ maxLen) (hm : s.size ≤ maxLen) :
    Calls Try.prog 4 #[.string win, .string s] w fun e w' => e = .returned (.bool true) ∧ Below w.heap.size w w' := by
  by_cases hg : 100000 < win.size ∨ 2000 < s.size
  · exact early win s w ws hm hg
  have h1 : win.size ≤ 100000 := by omega
  have h2 : s.size ≤ 2000 := by omega
  have d1 : decide (100000 < win.size) = false := decide_eq_false (by omega)
  have d2 : decide (2000 < s.size) = false := decide_eq_false (by omega)
  have CP := fun w' => Lib.hid (plain_any s w' (by omega))
  have CX := fun w' a (h : IsToks w' a (s.data.toList.map byteT)) => Lib.hid (expand_any win a (s.data.toList.map byteT) s.size s.size w' (by simp) h ws (by omega))
  obtain ⟨e1, e2⟩ := exp_plain win.data.toList s.data.toList
  rw [e1, e2, show (⟨s.data.toList.toArray⟩ : ByteArray) = s from by cases s; simp] at CX
  have d3 : decide ((100000 : Int) < win.size) = false := decide_eq_false (by omega)
  have d4 : decide ((2000 : Int) < s.size) = false := decide_eq_false (by omega)
  clear hg ws hm e1 e2
  go_enter Try.func4, Try.ntmps4
  go_wp2_with fail
  refine (works_any _).mono ?_
  rintro r w1 ⟨rfl, b1⟩
  go_wp2_with fail
  refine (CP _).out.mono ?_
  rintro r w2 ⟨rfl, ht, b2⟩
  have B2 := Lib.hid (b1.trans (b2.mono b1.size))
  have HT := Lib.hid ht
  clear b1 b2 ht CP
  generalize w1.heap.size = P at *
  go_wp2_with fail
  go_loopw [7] (fun i wr => ∃ k : Nat, k ≤ s.size ∧ i = .int .i64 k ∧ Below w2.heap.size w2 wr) (fun i _ => s.size - (intOf i).toNat)
  case atStart => exact ⟨0, Nat.zero_le _, rfl, Below.refl _ _⟩
  case round =>
    obtain ⟨k, hk, rfl, hb⟩ := hrel
    have HB := Lib.hid hb
    clear hb
    by_cases hlt : k < s.size
    · obtain ⟨g, off, e, hgb, hc⟩ := HT.out (by simp; omega)
      simp only [Option.some.injEq, Addr.mk.injEq] at e
      obtain ⟨rfl, rfl, _⟩ := e
      obtain ⟨c1, c2, c3⟩ := hc k (by simpa using hlt)
      have es : (s.data.toList.map byteT)[k]'(by simpa using hlt) = byteT s[k] := by simp; rfl
      rw [es, Nat.zero_add] at c1 c2 c3
      simp only [byteT] at c1 c2 c3
      have c1 := (HB.out.cell (p := ⟨P, k * 3, none⟩) hgb).trans c1
      have c2 := (HB.out.cell (p := ⟨P, k * 3 + 1, none⟩) hgb).trans c2
      have c3 := (HB.out.cell (p := ⟨P, k * 3 + 2, none⟩) hgb).trans c3
      have hx2 := s[k].toNat_lt
      clear hc hgb HT CX es
      go_wp2_with fail
      go_quiet (fail)
      have HB2 : Hid (Below w2.heap.size w2 (wr.drewN nq)) := Lib.hid ⟨HB.out.os, HB.out.tape, HB.out.output, HB.out.size, HB.out.block⟩
      clear HB c1 c2 c3
      go_wp2_with fail
      exact ⟨⟨k + 1, by omega, by go_num, HB2.out⟩, by simp [intOf]; omega⟩
    · obtain rfl : k = s.size := by omega
      have CX2 := CX wr _ (HT.out.below HB.out (Nat.le_refl _))
      clear CX HT
      go_wp2_with fail
      refine CX2.out.mono ?_
      rintro r w5 ⟨rfl, b5⟩
      have B3 := B2.out.trans (HB.out.mono B2.out.size)
      have B5 := Lib.hid (B3.trans (b5.mono B3.size))
      clear B2 B3 HB b5 CX2
      go_wp2_with fail
      go_ret
      exact ⟨rfl, B5.out⟩

set_option maxRecDepth 100000 in
theorem lifted (os : Os) (started : os.Started) (H : Type) (enc : TypeId × Value → H) :
    ReturnsInHanded {} Try.checked os 4 .any (Rows.lzPlainSpec.pre6 enc Try.prog Try.f4 Rows.lzPlainRow.domain false) (Rows.lzPlainSpec.post enc Try.prog Try.f4 false true false false) := by
  refine returnsInHanded_of_change (C := Try.checked) own started (by kernel_rfl) Try.func4
    (ChangeSpec.witness6 (enc := enc) (C := Try.checked) false ⟨#[], #[.string ByteArray.empty, .string ByteArray.empty], []⟩ 8 (by kernel_rfl) (by kernel_rfl) (by kernel_rfl) (by kernel_rfl)) ?_
  intro W base args ds gs before hval0 hW hcnd _
  have hval : ∀ (j : Nat) t v, Try.f4.params[j]? = some t → args[j]? = some v → Value.okWide Try.prog W .any base t v := hval0
  have hW' := hW
  obtain ⟨p, q, hA0, hV, rfl, hfz, hnd⟩ := hW
  have hA : DataW.TrodAll enc Try.prog W 0 (fun _ => true) true Try.f4.params.toList args.toList ds p := hA0
  rw [Try.params4] at hA hval
  obtain ⟨v0, vs0, d0, ds0, p0, q0, hargs, rfl, rfl, h0, r0⟩ := trodAll_cons hA
  obtain ⟨v1, vs1, d1, ds1, p1, q1, rfl, rfl, rfl, h1, r1⟩ := trodAll_cons r0
  obtain ⟨rfl, rfl, rfl⟩ := trodAll_nil r1
  obtain rfl : args = #[v0, v1] := by cases args; simp_all
  obtain ⟨rfl, rfl⟩ := trodVars_none hV
  have k0 := h0
  have lt0 : ∀ x ∈ p0, x.block < W.heap.size := by obtain ⟨m, hm⟩ := k0; exact DataW.trod_lt m _ _ _ hm
  obtain ⟨a0, rfl, rfl, rfl, w0⟩ := open_string Try.underlying9 (hval 0 9 v0 rfl rfl) h0
  have k1 := h1
  have lt1 : ∀ x ∈ p1, x.block < W.heap.size := by obtain ⟨m, hm⟩ := k1; exact DataW.trod_lt m _ _ _ hm
  obtain ⟨a1, rfl, rfl, rfl, w1⟩ := open_string Try.underlying9 (hval 1 9 v1 rfl rfl) h1
  clear hA0 hval0
  refine (walk a0 a1 W w0 w1).mono fun e W' ⟨he, bel⟩ => ?_
  subst he
  exact ⟨_, rfl, _, _, _, [], _, [], hW', trodAll_mk1 (shut_bool Try.underlying4 _), (trodAll_cons_mk (Below.trod laidOut (by kernel_rfl) (of_decide_eq_true (by kernel_rfl)) k0 bel lt0) (trodAll_cons_mk (Below.trod laidOut (by kernel_rfl) (of_decide_eq_true (by kernel_rfl)) k1 bel lt1) trodAll_mk0)), rfl, bel.frame _, fun h => by cases h⟩

theorem over : Rows.lzPlainRow.holds Try.pinned (OpenSpec.ofChange Rows.lzPlainSpec) :=
  OpenClaim.holds_of_wide 4 Try.f4 rfl rfl rfl rfl rfl rfl rfl ⟨rfl, rfl, rfl, rfl, rfl⟩ rfl rfl rfl rfl rfl (by kernel_rfl) Try.func4 (by kernel_rfl)
    (of_decide_eq_true (by kernel_rfl)) (by unfold Func.isWrapper; first | (rw [if_pos (by decide +kernel)]; kernel_rfl) | (rw [if_neg (by decide +kernel)]; exact ⟨rfl, rfl⟩))
    (fun os started H enc _ => lifted os started H enc)

theorem proved : Rows.LzPlainSaid := over
end Go.Proofs.Ytlafenookbdhoaa.lzPlain
