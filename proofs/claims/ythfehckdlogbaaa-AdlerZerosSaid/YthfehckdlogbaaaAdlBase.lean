/-
  Contracts of package adler (layer 3) and of its reference, over this seat's translation.
-/
import Derived.Test.YthfehckdlogbaaaRows
import Derived.WalkKit
import Derived.ProofKit
import Derived.OpenShut
import Derived.ShutString
import Derived.ChangeOld
import Derived.Below
import Derived.WalkSpells
import Derived.WalkLawsBesides
import Derived.Deep.QuietTactic
import Derived.BigQuiet
import Derived.BigGuardPart
import Derived.StillTailTactics
import Derived.Deep.RegionHeld3
import Derived.Deep.RegionWith
import Derived.Outline
import Derived.IntWalk
import Derived.Lib.Hide
import Derived.Test.YthfehckdlogbaaaAdlMath
import Derived.Test.YthfehckdlogbaaaBitMath
namespace Go.Proofs.Ythfehckdlogbaaa.Adl
open Go.ChangeShapes Go.WideShapes Go.ChangeAt Go.RowKit
set_option linter.unusedVariables false

theorem mask16 (x : Int) : bits .and .i64 x 65535 = x % 65536 := Bit.i64_mask x 16 (by decide)

theorem or16 (a b : Int) (h0 : 0 ≤ a) (h1 : a < 65536) (h2 : 0 ≤ b) (h3 : b < 65536) : bits .or .i64 (b * 65536) a = b * 65536 + a := by
  obtain ⟨x, rfl⟩ : ∃ x : Nat, a = x := ⟨a.toNat, by omega⟩
  obtain ⟨y, rfl⟩ : ∃ y : Nat, b = y := ⟨b.toNat, by omega⟩
  have := Bit.i64_or x (y * 65536) 16 (by omega) (by omega) (by omega) (by decide)
  have e : bits .or .i64 (((y * 65536 : Nat)) : Int) (x : Int) = bits .or .i64 (x : Int) (((y * 65536 : Nat)) : Int) := by simp [bits, BitVec.or_comm]
  rw [← e] at this
  rw [show ((y : Int) * 65536) = ((y * 65536 : Nat) : Int) by omega, this]
  omega

theorem ret_int {k : IntKind} {a b : Int} (h : a = b) : Ending.returned (Value.int k a) = Ending.returned (.int k b) := by rw [h]

theorem hi_mask (s : Int) : bits .and .i64 (s / 65536) 65535 = hi s := mask16 _

theorem halves_any (s : Int) (w : World) :
    Calls Try.prog 13 #[.int .i64 s] w fun e w' => e = .returned (.tuple #[.int .i64 (lo s), .int .i64 (hi s)]) ∧ w = w' := by
  go_enter Try.func13, Try.ntmps13
  go_wp2
  go_ret2
  refine ⟨?_, rfl⟩
  rw [← hi_mask, ← show bits .and .i64 s 65535 = lo s from mask16 s]
  rfl

theorem whole_any (a b : Int) (w : World) (h0 : 0 ≤ a) (h1 : a < 65536) (h2 : 0 ≤ b) (h3 : b < 65536) :
    Calls Try.prog 14 #[.int .i64 a, .int .i64 b] w fun e w' => e = .returned (.int .i64 (b * 65536 + a)) ∧ w = w' := by
  go_enter Try.func14, Try.ntmps14
  go_wp2
  go_ret
  exact ⟨ret_int (or16 a b h0 h1 h2 h3), rfl⟩

theorem low_any (s : Int) (w : World) :
    Calls Try.prog 15 #[.int .i64 s] w fun e w' => e = .returned (.int .i64 (lo s)) ∧ w = w' := by
  go_enter Try.func15, Try.ntmps15
  go_wp2
  go_ret
  exact ⟨ret_int (mask16 _), rfl⟩

theorem high_any (s : Int) (w : World) :
    Calls Try.prog 16 #[.int .i64 s] w fun e w' => e = .returned (.int .i64 (hi s)) ∧ w = w' := by
  go_enter Try.func16, Try.ntmps16
  go_wp2
  go_ret
  exact ⟨ret_int (hi_mask _), rfl⟩

theorem adA_step (a : Int) (l : List UInt8) (k : Nat) (h : k < l.length) (c : UInt8) (hc : l[k] = c) : adA a (l.take (k + 1)) = (adA a (l.take k) + c.toNat) % 65521 := by
  rw [List.take_succ_eq_append_getElem h, adA_append, hc]; rfl
theorem adB_step (a b : Int) (l : List UInt8) (k : Nat) (h : k < l.length) : adB a b (l.take (k + 1)) = (adB a b (l.take k) + adA a (l.take (k + 1))) % 65521 := by
  rw [List.take_succ_eq_append_getElem h, adA_append, adB_append]; rfl

theorem stepA (A : Int) (c : UInt8) (h0 : 0 ≤ A) (h1 : A < 65536) : (wrap64 (A + wrap64 c.toNat)).tmod 65521 = (A + c.toNat) % 65521 := by
  have := c.toNat_lt
  rw [IntWalk.wrap64_in (c.toNat : Int) (by omega), IntWalk.wrap64_in _ (by omega), Int.tmod_eq_emod_of_nonneg (by omega)]
theorem stepB (A B : Int) (h0 : 0 ≤ A) (h1 : A < 65536) (h2 : 0 ≤ B) (h3 : B < 65536) : (wrap64 (B + A)).tmod 65521 = (B + A) % 65521 := by
  rw [IntWalk.wrap64_in _ (by omega), Int.tmod_eq_emod_of_nonneg (by omega)]
theorem val_int {k : IntKind} {a b : Int} (h : a = b) : Value.int k a = .int k b := by rw [h]

set_option maxHeartbeats 1000000 in
theorem more_any (s : Int) (t : ByteArray) (w : World) (ht : t.size ≤ 1000000) :
    Calls Try.prog 8 #[.int .i64 s, .string t] w fun e w' => e = .returned (.int .i64 (moreV s t.data.toList)) ∧ w = w' := by
  unfold moreV
  have l0 := lo_bd s
  have h0 := hi_bd s
  have hh := halves_any s w
  generalize lo s = a at *
  generalize hi s = b at *
  have HH := Lib.hid hh
  clear hh
  go_enter Try.func8, Try.ntmps8
  go_wp2_with fail
  refine HH.out.mono ?_
  rintro r w' ⟨rfl, rfl⟩
  go_wp2_with fail
  go_loop [5, 6, 15] (fun x y i => ∃ k : Nat, k ≤ t.size ∧ i = .int .i64 k ∧ x = .int .i64 (adA a (t.data.toList.take k)) ∧ y = .int .i64 (adB a b (t.data.toList.take k))) (fun _ _ i => t.size - (intOf i).toNat)
  case atStart => exact ⟨0, Nat.zero_le _, rfl, rfl, rfl⟩
  case round =>
    obtain ⟨k, hk, rfl, rfl, rfl⟩ := hrel
    have ba := adA_bd (t.data.toList.take k) a l0.1 l0.2
    have bb := adB_bd (t.data.toList.take k) a b h0.1 h0.2
    by_cases hlt : k < t.size
    · have e1 := Lib.hid (adA_step a t.data.toList k (by simpa using hlt) t[k] (by simp; rfl))
      have e2 := Lib.hid (adB_step a b t.data.toList k (by simpa using hlt))
      generalize adA a (t.data.toList.take k) = A at *
      generalize adB a b (t.data.toList.take k) = B at *
      go_wp2_with fail
      refine ⟨⟨k + 1, by omega, by go_num, ?_, ?_⟩, ?_⟩
      · rw [e1.out, ← stepA A t[k] ba.1 ba.2]
      · rw [e2.out, e1.out, ← stepB _ B (Int.emod_nonneg _ (by decide)) (by omega) bb.1 bb.2, ← stepA A t[k] ba.1 ba.2]
      · simp [intOf]; omega
    · obtain rfl : k = t.size := by omega
      have e : t.data.toList.take t.size = t.data.toList := List.take_of_length_le (by simp)
      rw [e] at ba bb ⊢
      go_wp2_with fail
      refine (whole_any _ _ _ ba.1 ba.2 bb.1 bb.2).mono ?_
      rintro r w' ⟨rfl, rfl⟩
      go_wp2_with fail
      go_ret
      exact ⟨rfl, rfl⟩

end Go.Proofs.Ythfehckdlogbaaa.Adl
