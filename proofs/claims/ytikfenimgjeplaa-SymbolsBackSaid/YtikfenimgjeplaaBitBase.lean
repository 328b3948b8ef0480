/-
  Contracts of the small functions of package bitio (layer 2) and of its reference, over this seat's translation.
-/
import Derived.Test.YtikfenimgjeplaaRows
import Derived.WalkKit
import Derived.ProofKit
import Derived.OpenShut
import Derived.ShutString
import Derived.ChangeOld
import Derived.Below
import Derived.WalkSpells
import Derived.WalkLawsBesides
import Derived.Deep.QuietTactic
import Derived.BigQuiet
import Derived.BigGuardPart
import Derived.StillTailTactics
import Derived.Deep.RegionHeld3
import Derived.Deep.RegionWith
import Derived.Outline
import Derived.IntWalk
import Derived.Lib.Hide
import Derived.Test.YtikfenimgjeplaaBitMath
namespace Go.Proofs.Ytikfenimgjeplaa.Bit
open Go.ChangeShapes Go.WideShapes Go.ChangeAt Go.RowKit
set_option linter.unusedVariables false

theorem cnt_int (n : Int) : ((cnt n : Nat) : Int) = min (max n 0) 32 := by unfold cnt; omega

theorem ret_int {k : IntKind} {a b : Int} (h : a = b) : Ending.returned (Value.int k a) = Ending.returned (.int k b) := by rw [h]

theorem within_any (n : Int) (w : World) :
    Calls Try.prog 45 #[.int .i64 n] w fun e w' => e = .returned (.int .i64 (cnt n)) ∧ w = w' := by
  rw [cnt_int]
  go_enter Try.func45, Try.ntmps45
  go_wp2
  all_goals (go_ret; exact ⟨ret_int (by omega), rfl⟩)

theorem bit_any (v : Int) (i : Nat) (hi : i < 64) (w : World) :
    Calls Try.prog 47 #[.int .i64 v, .int .i64 i] w fun e w' => e = .returned (.int .i64 (ibit v i).toNat) ∧ w = w' := by
  rw [ibit_int]
  go_enter Try.func47, Try.ntmps47
  go_wp2
  go_ret
  exact ⟨ret_int (i64_and1 _), rfl⟩

theorem count_any (n : Int) (w : World) :
    Calls Try.prog 48 #[.int .i64 n] w fun e w' => e = .returned (.int .i64 (cnt n)) ∧ w = w' := by
  rw [cnt_int]
  go_enter Try.func48, Try.ntmps48
  go_wp2
  all_goals (go_ret; exact ⟨ret_int (by omega), rfl⟩)

/-- A code's bits the other way round. -/
def revV (bits len : Int) : Nat := num (bitsOf (cnt len) bits).reverse

theorem rev_bits (n : Nat) (v : Int) : (bitsOf n v).reverse = (List.range n).map fun i => ibit v (n - 1 - i) := by
  apply List.ext_getElem?
  intro j
  by_cases hj : j < n
  · rw [List.getElem?_reverse (by rw [bitsOf_length]; exact hj), bitsOf_length]
    simp [bitsOf, hj, show n - 1 - j < n by omega]
  · rw [List.getElem?_eq_none (by simp [bitsOf]; omega), List.getElem?_eq_none (by simp; omega)]

theorem range_num_succ (f : Nat → Bool) (k : Nat) : num ((List.range (k + 1)).map f) = num ((List.range k).map f) + 2 ^ k * (f k).toNat := by
  rw [List.range_succ, List.map_append, List.map_singleton, num_snoc]
  simp

theorem range_num_lt (f : Nat → Bool) (k : Nat) : num ((List.range k).map f) < 2 ^ k := by
  have := num_lt ((List.range k).map f)
  simpa using this

/-- One step of 'v |= bit << i'. -/
theorem or_step (f : Nat → Bool) (k : Nat) (hk : k < 32) :
    bits .or .i64 ((num ((List.range k).map f) : Nat) : Int) (((f k).toNat : Int) * 2 ^ k) = ((num ((List.range (k + 1)).map f) : Nat) : Int) := by
  have h1 := range_num_lt f k
  have hb : (f k).toNat ≤ 1 := by cases f k <;> simp
  have hp : (2 : Nat) ^ k ≤ 2 ^ 32 := Nat.pow_le_pow_right (by decide) (by omega)
  have h2 : 2 ^ k * (f k).toNat ≤ 2 ^ k * 1 := Nat.mul_le_mul_left _ hb
  have e : (((f k).toNat : Int) * 2 ^ k) = ((2 ^ k * (f k).toNat : Nat) : Int) := by
    rw [Int.natCast_mul, Int.natCast_pow, Int.mul_comm]; rfl
  rw [e, i64_or _ _ k h1 (by simp) (by omega) (by omega), range_num_succ]

theorem shl_in (b : Bool) (k : Nat) (hk : k < 62) : wrap64 ((b.toNat : Int) * 2 ^ k) = (b.toNat : Int) * 2 ^ k := by
  have hp : (2 : Nat) ^ k ≤ 2 ^ 62 := Nat.pow_le_pow_right (by decide) (by omega)
  have hp2 : (2 : Int) ^ k ≤ 2 ^ 62 := by exact_mod_cast hp
  have hp3 : (0 : Int) < 2 ^ k := Int.pow_pos (by decide)
  exact IntWalk.wrap64_in _ (by cases b <;> simp <;> omega)

set_option maxHeartbeats 1000000 in
theorem reverse_any (bt len : Int) (w : World) :
    Calls Try.prog 68 #[.agg #[.int .i64 bt, .int .i64 len]] w fun e w' => e = .returned (.int .i64 (revV bt len)) ∧ Below w.heap.size w w' := by
  unfold revV
  rw [rev_bits]
  have hle := cnt_le len
  generalize hn : cnt len = n at *
  have HN := Lib.hid hn
  clear hn
  go_enter Try.func68, Try.ntmps68
  go_wp2_with fail
  refine (within_any _ _).mono ?_
  rintro r w' ⟨rfl, rfl⟩
  rw [HN.out]
  go_wp2_with fail
  go_loop [4, 10] (fun v i => ∃ k : Nat, k ≤ n ∧ i = .int .i64 k ∧ v = .int .i64 (num ((List.range k).map fun i => ibit bt (n - 1 - i)) : Nat)) (fun _ i => n - (intOf i).toNat)
  case atStart => exact ⟨0, Nat.zero_le _, rfl, rfl⟩
  case round =>
    obtain ⟨k, hk, rfl, rfl⟩ := hrel
    by_cases hlt : k < n
    · have HS := Lib.hid (or_step (fun i => ibit bt (n - 1 - i)) k (by omega))
      have e1 : (n : Int) - 1 - k = ((n - 1 - k : Nat) : Int) := by omega
      generalize num ((List.range k).map fun i => ibit bt (n - 1 - i)) = m at *
      go_wp2_with fail
      refine (bit_any _ _ (by omega) _).mono ?_
      rintro r w' ⟨rfl, rfl⟩
      clear e1
      generalize ibit bt (n - 1 - k) = bb at *
      have b0 : (0 : Int) ≤ (bb.toNat : Int) := by omega
      have b1 : (bb.toNat : Int) ≤ 1 := by cases bb <;> simp
      go_wp2_with fail
      refine ⟨⟨k + 1, by omega, by go_num, ?_⟩, by simp [intOf]; omega⟩
      rw [← HS.out, shl_in _ _ (by omega)]
    · obtain rfl : k = n := by omega
      go_wp2_with fail
      go_ret
      exact ⟨rfl, (Below.refl _ _).alloc (Nat.le_refl _) _⟩
end Go.Proofs.Ytikfenimgjeplaa.Bit
