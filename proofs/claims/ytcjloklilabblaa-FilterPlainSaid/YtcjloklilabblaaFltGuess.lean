/-
  Contracts of package filter (layer 11) and of its reference: what a byte is guessed to be.
-/
import Derived.Test.YtcjloklilabblaaRows
import Derived.WalkKit
import Derived.ProofKit
import Derived.OpenShut
import Derived.ShutString
import Derived.ChangeOld
import Derived.Below
import Derived.WalkSpells
import Derived.WalkLawsBesides
import Derived.Deep.QuietTactic
import Derived.BigQuiet
import Derived.BigGuardPart
import Derived.StillTailTactics
import Derived.Deep.RegionHeld3
import Derived.Deep.RegionWith
import Derived.Outline
import Derived.IntWalk
import Derived.Lib.Hide
import Derived.Deep.DeepCutAuto
import Derived.Test.YtcjloklilabblaaFltMath
namespace Go.Proofs.Ytcjloklilabblaa.Flt
open Go.ChangeShapes Go.WideShapes Go.ChangeAt Go.RowKit
set_option linter.unusedVariables false

theorem ret_num {k : IntKind} {a b : Int} (h : a = b) : Ending.returned (Value.int k a) = Ending.returned (.int k b) := by rw [h]
theorem val_num {k : IntKind} {a b : Int} (h : a = b) : Value.int k a = Value.int k b := by rw [h]
theorem below_drewN {B : Nat} {w w' : World} (n : Nat) (h : Below B w w') : Below B w (w'.drewN n) := ⟨h.os, h.tape, h.output, h.size, h.block⟩
/-- How far two bytes are apart. -/
def apI (a b : Int) : Int := if a < b then b - a else a - b

theorem apart_any (m n : Int) (hm : 0 ≤ m ∧ m < 256) (hn : 0 ≤ n ∧ n < 256) (w : World) :
    Calls Try.prog 29 #[.int .i64 m, .int .i64 n] w fun e w' => e = .returned (.int .u64 (apI m n)) ∧ w = w' := by
  go_enter Try.func29, Try.ntmps29
  go_wp2_with fail
  all_goals (go_ret; refine ⟨ret_num ?_, rfl⟩; unfold apI; split <;> omega)

theorem half_any (a b : Int) (ha : 0 ≤ a ∧ a < 256) (hb : 0 ≤ b ∧ b < 256) (w : World) :
    Calls Try.prog 19 #[.int .i64 a, .int .i64 b] w fun e w' => e = .returned (.int .i64 ((a + b) / 2)) ∧ w = w' := by
  have d1 : decide (a < 0) = false := by simp; omega
  have d2 : decide (b < 0) = false := by simp; omega
  go_enter Try.func19, Try.ntmps19
  go_wp2_with fail
  go_ret
  exact ⟨ret_num (by omega), rfl⟩

/-- How far the third one is. -/
def thI (a b c : Int) : Int := if (a < c) = (b < c) then (if apI b c < apI a c then apI a c else apI b c) else (if apI b c < apI a c then apI a c - apI b c else apI b c - apI a c)

set_option maxHeartbeats 1000000 in
theorem nearest_any (a b c : Int) (ha : 0 ≤ a ∧ a < 256) (hb : 0 ≤ b ∧ b < 256) (hc : 0 ≤ c ∧ c < 256) (w : World) :
    Calls Try.prog 20 #[.int .i64 a, .int .i64 b, .int .i64 c] w fun e w' => e = .returned (.int .i64 (guessI 4 a b c)) ∧ Below w.heap.size w w' := by
  have C1 := Lib.hid (apart_any b c hb hc w)
  have C2 := Lib.hid (apart_any a c ha hc w)
  have x0 : 0 ≤ apI b c ∧ apI b c < 256 := by unfold apI; split <;> omega
  have y0 : 0 ≤ apI a c ∧ apI a c < 256 := by unfold apI; split <;> omega
  obtain ⟨x, hx⟩ : ∃ x, apI b c = x := ⟨_, rfl⟩
  obtain ⟨y, hy⟩ : ∃ y, apI a c = y := ⟨_, rfl⟩
  obtain ⟨m, hm⟩ : ∃ m, (if x < y then y else x) = m := ⟨_, rfl⟩
  obtain ⟨n, hn⟩ : ∃ n, (if y < x then y else x) = n := ⟨_, rfl⟩
  rw [hx] at x0 C1
  rw [hy] at y0 C2
  have HX := Lib.hid hx
  have HY := Lib.hid hy
  have HM := Lib.hid hm
  have HN := Lib.hid hn
  have m0 : x ≤ m ∧ y ≤ m ∧ m < 256 := by rw [← hm]; split <;> omega
  have n0 : n ≤ x ∧ n ≤ y ∧ 0 ≤ n := by rw [← hn]; split <;> omega
  clear hx hy
  go_enter Try.func20, Try.ntmps20
  go_wp2_with fail
  refine C1.out.mono ?_
  rintro r w' ⟨rfl, rfl⟩
  go_wp2_with fail
  refine C2.out.mono ?_
  rintro r w' ⟨rfl, rfl⟩
  clear C1 C2
  have i0 : ∀ t w, (Instr.index 44 (.agg #[.int .i64 b, .int .u64 y, .int .i64 c, .int .u64 t]) (.int .i64 0)).run Try.prog w = .ok (.agg #[.int .i64 b, .int .u64 y]) w := fun _ _ => by kernel_rfl
  have i1 : ∀ t w, (Instr.index 44 (.agg #[.int .i64 b, .int .u64 y, .int .i64 c, .int .u64 t]) (.int .i64 1)).run Try.prog w = .ok (.agg #[.int .i64 c, .int .u64 t]) w := fun _ _ => by kernel_rfl
  have fin : ∀ t, 0 ≤ t → t < 256 → (a < c → b < c → t = m) → (c ≤ a → c ≤ b → t = m) → (a < c → c ≤ b → t = m - n) → (c ≤ a → b < c → t = m - n) →
      ∀ r, ((y < x ∧ ((t < y ∧ r = c) ∨ (¬ t < y ∧ r = b))) ∨ (¬ y < x ∧ ((t < x ∧ r = c) ∨ (¬ t < x ∧ r = a)))) → r = guessI 4 a b c := by
    have e1 := HX.out
    have e2 := HY.out
    clear i0 i1
    intro t t0 t1 f1 f2 f3 f4 r hr
    unfold apI at e1 e2
    unfold guessI farI
    simp only [show ¬ (4 : Int) = 1 by decide, show ¬ (4 : Int) = 2 by decide, show ¬ (4 : Int) = 3 by decide, show ¬ (4 : Int) ≠ 4 by decide, if_false]
    repeat' split
    all_goals (split at e1 <;> split at e2 <;> split at hm <;> split at hn <;> omega)
  go_upto_if 28 with fail
  go_cut [9] (fun v wx => w = wx ∧ ∃ t, v = .int .u64 t ∧ 0 ≤ t ∧ t < 256 ∧ ((a < c → b < c → t = m) ∧ (c ≤ a → c ≤ b → t = m) ∧ (a < c → c ≤ b → t = m - n) ∧ (c ≤ a → b < c → t = m - n)))
  case first =>
    cases hq : (!decide (a < c) == decide (b < c)) with
    | true =>
      have hq2 : (a < c ∧ c ≤ b) ∨ (c ≤ a ∧ b < c) := by
        by_cases h1 : a < c <;> by_cases h2 : b < c <;> simp [h1, h2] at hq <;> omega
      have HQ := Lib.hid hq2
      clear hq2
      go_wp2_with fail
      go_meet
      have hq2 := HQ.out
      exact ⟨rfl, _, rfl, by omega, by omega, by omega, by omega, by omega, by omega⟩
    | false =>
      have hq2 : (a < c ∧ b < c) ∨ (c ≤ a ∧ c ≤ b) := by
        by_cases h1 : a < c <;> by_cases h2 : b < c <;> simp [h1, h2] at hq <;> omega
      have HQ := Lib.hid hq2
      clear hq2
      go_wp2_with fail
      go_meet
      have hq2 := HQ.out
      exact ⟨rfl, _, rfl, by omega, by omega, by omega, by omega, by omega, by omega⟩
  case rest =>
  obtain ⟨rfl, t, rfl, t0, t1, tf⟩ := hcut
  have FIN := Lib.hid (fin t t0 t1 tf.1 tf.2.1 tf.2.2.1 tf.2.2.2)
  clear fin tf hm hn m0 n0 HM HN HX HY
  go_wp2_with fail
  go_loopw [7, 10, 42] (fun l r k wr => Below w.heap.size w wr ∧ ∃ j : Nat, k = .int .i64 j ∧ ((j = 0 ∧ l = .int .u64 x ∧ r = .int .i64 a) ∨ (j = 1 ∧ ((y < x ∧ l = .int .u64 y ∧ r = .int .i64 b) ∨ (x ≤ y ∧ l = .int .u64 x ∧ r = .int .i64 a))) ∨ (j = 2 ∧ r = .int .i64 (guessI 4 a b c)))) (fun _ _ k _ => 2 - (intOf k).toNat)
  case atStart => exact ⟨Below.refl _ _, 0, rfl, .inl ⟨rfl, rfl, rfl⟩⟩
  case round =>
    obtain ⟨bel, j, rfl, hj⟩ := hrel
    have z := bel.size
    rcases hj with ⟨rfl, rfl, rfl⟩ | ⟨rfl, ⟨h, rfl, rfl⟩ | ⟨h, rfl, rfl⟩⟩ | ⟨rfl, rfl⟩
    · by_cases h : y < x
      · have d3 : decide (y < x) = true := by simp; omega
        go_wp2_with fail
        go_quiet (fail)
        go_wp2_with fail
        exact ⟨⟨below_drewN _ (bel.alloc z _), 1, rfl, .inr (.inl ⟨rfl, .inl ⟨h, rfl, rfl⟩⟩)⟩, by simp [intOf]⟩
      · have d3 : decide (y < x) = false := by simp; omega
        go_wp2_with fail
        exact ⟨⟨bel.alloc z _, 1, rfl, .inr (.inl ⟨rfl, .inr ⟨by omega, rfl, rfl⟩⟩)⟩, by simp [intOf]⟩
    · by_cases h4 : t < y
      · have d4 : decide (t < y) = true := by simp; omega
        have f := Lib.hid (FIN.out c (.inl ⟨h, .inl ⟨h4, rfl⟩⟩))
        clear FIN
        go_wp2_with fail
        go_quiet (fail)
        go_wp2_with fail
        exact ⟨⟨below_drewN _ (bel.alloc z _), 2, rfl, .inr (.inr ⟨rfl, val_num f.out⟩)⟩, by simp [intOf]⟩
      · have d4 : decide (t < y) = false := by simp; omega
        have f := Lib.hid (FIN.out b (.inl ⟨h, .inr ⟨by omega, rfl⟩⟩))
        clear FIN
        go_wp2_with fail
        exact ⟨⟨bel.alloc z _, 2, rfl, .inr (.inr ⟨rfl, val_num f.out⟩)⟩, by simp [intOf]⟩
    · by_cases h4 : t < x
      · have d4 : decide (t < x) = true := by simp; omega
        have f := Lib.hid (FIN.out c (.inr ⟨h, .inl ⟨h4, rfl⟩⟩))
        clear FIN
        go_wp2_with fail
        go_quiet (fail)
        go_wp2_with fail
        exact ⟨⟨below_drewN _ (bel.alloc z _), 2, rfl, .inr (.inr ⟨rfl, val_num f.out⟩)⟩, by simp [intOf]⟩
      · have d4 : decide (t < x) = false := by simp; omega
        have f := Lib.hid (FIN.out a (.inr ⟨h, .inr ⟨by omega, rfl⟩⟩))
        clear FIN
        go_wp2_with fail
        exact ⟨⟨bel.alloc z _, 2, rfl, .inr (.inr ⟨rfl, val_num f.out⟩)⟩, by simp [intOf]⟩
    · go_wp2_with fail
      go_ret
      exact ⟨rfl, bel⟩

theorem guess_any (k a b c : Int) (ha : 0 ≤ a ∧ a < 256) (hb : 0 ≤ b ∧ b < 256) (hc : 0 ≤ c ∧ c < 256) (w : World) :
    Calls Try.prog 9 #[.int .i64 k, .int .i64 a, .int .i64 b, .int .i64 c] w fun e w' => e = .returned (.int .i64 (guessI k a b c)) ∧ Below w.heap.size w w' := by
  have C3 := Lib.hid (half_any a b ha hb w)
  have C4 := Lib.hid (nearest_any a b c ha hb hc w)
  have g0 : Hid (∀ r, guessI k a b c = r ↔ r = guessI k a b c) := Lib.hid fun r => ⟨Eq.symm, Eq.symm⟩
  by_cases h1 : k = 1
  · subst h1
    go_enter Try.func9, Try.ntmps9
    go_wp2_with fail
    go_ret
    exact ⟨ret_num (guess_sub a b c).symm, Below.refl _ _⟩
  by_cases h2 : k = 2
  · subst h2
    go_enter Try.func9, Try.ntmps9
    go_wp2_with fail
    go_ret
    exact ⟨ret_num (guess_up a b c).symm, Below.refl _ _⟩
  by_cases h3 : k = 3
  · subst h3
    go_enter Try.func9, Try.ntmps9
    go_wp2_with fail
    refine C3.out.mono ?_
    rintro r w' ⟨rfl, rfl⟩
    go_wp2_with fail
    go_ret
    exact ⟨ret_num (by unfold guessI; simp), Below.refl _ _⟩
  by_cases h4 : k = 4
  · subst h4
    go_enter Try.func9, Try.ntmps9
    go_wp2_with fail
    refine C4.out.mono ?_
    rintro r w' ⟨rfl, bel⟩
    go_wp2_with fail
    go_ret
    exact ⟨rfl, bel⟩
  have d1 : (k == 1) = false := by simp; omega
  have d2 : (k == 2) = false := by simp; omega
  have d3 : (k == 3) = false := by simp; omega
  have d4 : (k == 4) = false := by simp; omega
  go_enter Try.func9, Try.ntmps9
  go_wp2_with fail
  go_ret
  exact ⟨ret_num (by unfold guessI; rw [if_neg h1, if_neg h2, if_neg h3, if_pos h4]), Below.refl _ _⟩
end Go.Proofs.Ytcjloklilabblaa.Flt
