/-
  Contracts of the reference's cursor.
-/
import Derived.Test.YtbdlmcpdplmdnaaOctRead
namespace Go.Proofs.Ytbdlmcpdplmdnaa.Oct
open Go.ChangeShapes Go.WideShapes Go.ChangeAt Go.RowKit
set_option linter.unusedVariables false
set_option maxRecDepth 100000

def valB (l : List UInt8) : Int := l.foldl (fun n b => n * 256 + b.toNat) 0

theorem foldl_val (l : List UInt8) : ∀ n : Int, l.foldl (fun n b => n * 256 + (b.toNat : Int)) n = n * 2 ^ (8 * l.length) + valL l.reverse := by
  induction l with
  | nil => intro n; simp [valL]
  | cons b r ih =>
    intro n
    have e : (2 : Int) ^ (8 * (r.length + 1)) = 256 * 2 ^ (8 * r.length) := by rw [show 8 * (r.length + 1) = 8 + 8 * r.length by omega, Int.pow_add]; rfl
    simp only [List.foldl_cons, List.reverse_cons, List.length_cons]
    rw [ih, valL_snoc, e, List.length_reverse, Int.add_mul, Int.mul_assoc]
    omega

theorem valB_eq (l : List UInt8) : valB l = valL l.reverse := by unfold valB; rw [foldl_val]; simp

theorem valB_snoc (l : List UInt8) (b : UInt8) : valB (l ++ [b]) = valB l * 256 + b.toNat := by simp [valB]

set_option maxHeartbeats 1000000 in
theorem refInt_any (t : ByteArray) (w : World) (ht : t.size ≤ 4) :
    Calls Try.prog 48 #[.string t] w fun e w' => e = .returned (.int .i64 (valL t.data.toList.reverse)) ∧ w = w' := by
  go_enter Try.func48, Try.ntmps48
  go_wp2
  go_loop [3, 4] (fun n i => ∃ k : Nat, k ≤ t.size ∧ i = .int .i64 k ∧ n = .int .i64 (valB (t.data.toList.take k))) (fun _ i => t.size - (intOf i).toNat)
  case atStart => exact ⟨0, Nat.zero_le _, rfl, by simp [valB]⟩
  case round =>
    obtain ⟨k, hk, rfl, rfl⟩ := hrel
    by_cases hlt : k < t.size
    · have hl : (t.data.toList.take k).length = k := by simp; omega
      have hv : 0 ≤ valB (t.data.toList.take k) ∧ valB (t.data.toList.take k) ≤ 16777215 := by
        rw [valB_eq]
        have hv := valL_bd (t.data.toList.take k).reverse
        rw [List.length_reverse, hl] at hv
        refine ⟨hv.1, ?_⟩
        have : (2 : Int) ^ (8 * k) ≤ 2 ^ 24 := by
          have := Nat.pow_le_pow_right (n := 2) (by decide) (show 8 * k ≤ 24 by omega)
          exact_mod_cast this
        have h24 : (2 : Int) ^ 24 = 16777216 := by decide
        omega
      have hs : valB (t.data.toList.take (k + 1)) = valB (t.data.toList.take k) * 256 + t[k].toNat := by
        rw [List.take_succ_eq_append_getElem (by simpa using hlt), valB_snoc]; rfl
      have hb := t[k].toNat_lt
      have HS := Lib.hid hs
      clear hs hl
      obtain ⟨v0, v1⟩ := hv
      go_wp2
      refine ⟨⟨k + 1, by omega, by go_num, ?_⟩, ?_⟩
      · rw [HS.out]
      · simp [intOf]; omega
    · obtain rfl : k = t.size := by omega
      go_wp2
      go_ret
      exact ⟨by rw [List.take_of_length_le (by simp), valB_eq]; rfl, rfl⟩

theorem byE_keep (t : ByteArray) (i e n : Int) : byE t i (keepE e 1) n = keepE e 1 ∧ ¬ keepE e 1 = 0 := by
  have h : ¬ keepE e 1 = 0 := by unfold keepE; split <;> omega
  exact ⟨byE_err h, h⟩

theorem revS_data (t : ByteArray) : (revS t).data.toList = t.data.toList.reverse := by simp [revS]
theorem revS_size (t : ByteArray) : (revS t).size = t.size := by show (t.data.toList.reverse.toArray).size = _; simp

end Go.Proofs.Ytbdlmcpdplmdnaa.Oct
