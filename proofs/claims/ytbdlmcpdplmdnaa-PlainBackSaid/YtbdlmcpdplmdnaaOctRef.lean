/-
  Contracts of the reference's Size, most, Put, Turned, Signed, Int, Minus, and of octets.Signed.
-/
import Derived.Test.YtbdlmcpdplmdnaaOctPut
namespace Go.Proofs.Ytbdlmcpdplmdnaa.Oct
open Go.ChangeShapes Go.WideShapes Go.ChangeAt Go.RowKit
set_option linter.unusedVariables false
set_option maxRecDepth 100000

theorem refSize_any (n : Int) (w : World) :
    Calls Try.prog 66 #[.int .i64 n] w fun e w' => e = .returned (.bool (sizeB n)) ∧ w = w' := by
  by_cases h1 : n = 1
  · subst h1
    go_enter Try.func66, Try.ntmps66
    go_wp2
    go_ret
    exact ⟨rfl, rfl⟩
  by_cases h2 : n = 2
  · subst h2
    go_enter Try.func66, Try.ntmps66
    go_wp2
    go_ret
    exact ⟨rfl, rfl⟩
  by_cases h4 : n = 4
  · subst h4
    go_enter Try.func66, Try.ntmps66
    go_wp2
    go_ret
    exact ⟨rfl, rfl⟩
  have e : sizeB n = false := by simp [sizeB, h1, h2, h4]
  have e1 : (n == 1) = false := by simp [h1]
  have e2 : (n == 2) = false := by simp [h2]
  have e4 : (n == 4) = false := by simp [h4]
  clear h1 h2 h4
  go_enter Try.func66, Try.ntmps66
  go_wp2
  go_ret
  exact ⟨by rw [e]; rfl, rfl⟩

def mostI (s : Int) : Int := if s = 1 then 255 else if s = 2 then 65535 else 4294967295

theorem most_any (s : Int) (w : World) :
    Calls Try.prog 67 #[.int .i64 s] w fun e w' => e = .returned (.int .i64 (mostI s)) ∧ w = w' := by
  by_cases h1 : s = 1
  · subst h1
    go_enter Try.func67, Try.ntmps67
    go_wp2
    go_ret
    exact ⟨rfl, rfl⟩
  by_cases h2 : s = 2
  · subst h2
    go_enter Try.func67, Try.ntmps67
    go_wp2
    go_ret
    exact ⟨rfl, rfl⟩
  have e : mostI s = 4294967295 := by simp [mostI, h1, h2]
  have e1 : (s == 1) = false := by simp [h1]
  have e2 : (s == 2) = false := by simp [h2]
  rw [e]
  clear h1 h2 e
  go_enter Try.func67, Try.ntmps67
  go_wp2
  go_ret
  exact ⟨rfl, rfl⟩

theorem fits_most {s n : Int} (hs : sizeB s = true) (hn : 0 ≤ n) : fitsB s n = true ↔ n ≤ mostI s := by
  rcases sizeB_cases hs with rfl | rfl | rfl <;> simp [fitsB, mostI] <;> omega

theorem most_lt {s : Int} (hs : sizeB s = true) : 0 ≤ mostI s ∧ mostI s ≤ 4294967295 := by
  rcases sizeB_cases hs with rfl | rfl | rfl <;> simp [mostI]

theorem beL_succ (k : Nat) (n : Int) : beL (k + 1) n = byt n k :: beL k n := by
  simp [beL, leL, List.range_succ]

theorem beL_cons_arr (k : Nat) (n : Int) : (⟨#[byt n k]⟩ : ByteArray) ++ ⟨(beL k n).toArray⟩ = ⟨(beL (k + 1) n).toArray⟩ := by
  rw [beL_succ, ByteArray.mk_append_mk]
  simp

theorem div_step (n : Int) (k : Nat) : n / 2 ^ (8 * k) / 256 = n / 2 ^ (8 * (k + 1)) := by
  rw [Int.ediv_ediv_of_nonneg (Int.le_of_lt (Int.pow_pos (by decide))), show (8 * (k + 1)) = 8 * k + 8 by omega, Int.pow_add]
  rfl

set_option maxHeartbeats 1000000 in
theorem refPut_yes (s : Nat) (n : Int) (w : World) (h0 : 1 ≤ s) (h4 : s ≤ 4) (hs : sizeB s = true) (hn : 0 ≤ n) (hm : n ≤ mostI s) :
    Calls Try.prog 43 #[.int .i64 s, .int .i64 n] w fun e w' => e = .returned (.tuple #[.string ⟨(beL s n).toArray⟩, .int .i64 0]) ∧ Below w.heap.size w w' := by
  have hmb := most_lt hs
  have hd : decide (mostI s < n) = false := by simp; omega
  go_enter Try.func43, Try.ntmps43
  go_wp2_with (first
    | (go_at_call 66; refine (refSize_any _ _).mono ?_; rintro e w' ⟨rfl, rfl⟩)
    | (go_at_call 67; refine (most_any _ _).mono ?_; rintro e w' ⟨rfl, rfl⟩))
  go_loopw [1, 6, 7] (fun m t i wr => ∃ k : Nat, k ≤ s ∧ i = .int .i64 k ∧ m = .int .i64 (n / 2 ^ (8 * k)) ∧ t = .string ⟨(beL k n).toArray⟩ ∧ Below w.heap.size w wr) (fun _ _ i _ => s - (intOf i).toNat)
  case atStart => exact ⟨0, Nat.zero_le _, rfl, by simp, rfl, Below.refl _ _⟩
  case round =>
    obtain ⟨k, hk, rfl, rfl, rfl, hbel⟩ := hrel
    have q0 : 0 ≤ n / 2 ^ (8 * k) := Int.ediv_nonneg hn (Int.le_of_lt (Int.pow_pos (by decide)))
    have q1 : n / 2 ^ (8 * k) ≤ n := Int.ediv_le_self _ hn
    by_cases hlt : k < s
    · have hadd : ∀ W : World, (Op.stringOp .add ⟨#[byt n k]⟩ ⟨(beL k n).toArray⟩).run Try.prog W = .ok (.string ⟨(beL (k + 1) n).toArray⟩) W := fun W => by
        rw [run_string_add_sum W _ _ (by
          have h1 : (ByteArray.mk #[byt n k]).size = 1 := rfl
          have h2 : (ByteArray.mk (beL k n).toArray).size = k := by show (beL k n).toArray.size = _; simp [beL_length]
          rw [h1, h2]; omega), beL_cons_arr]
      have hby := byt_toNat n k
      have hconv : (convert 57 9 (.slice (some ⟨wr.heap.size, 0, none⟩) 1 1)).run Try.prog (wr.alloc (.cells #[.int .u8 (n / 2 ^ (8 * k) % 256)] 5)) = .ok (.string ⟨#[byt n k]⟩) (wr.alloc (.cells #[.int .u8 (n / 2 ^ (8 * k) % 256)] 5)) :=
        run_string_of _ 57 9 5 ⟨wr.heap.size, 0, none⟩ 1 [byt n k] 1 rfl Try.underlying57 Try.underlying5 Try.underlying9 (by
          intro j hj
          obtain rfl : j = 0 := by omega
          rw [addr_add]
          simp [hby])
      have HBEL := Lib.hid hbel
      have HD := Lib.hid (div_step n k)
      clear hbel hby
      generalize hq : n / 2 ^ (8 * k) = q at *
      clear hq
      go_wp2
      refine ⟨⟨k + 1, by omega, by go_num, by rw [HD.out], rfl, HBEL.out.alloc (by have := HBEL.out.size; omega) _⟩, ?_⟩
      simp [intOf]; omega
    · obtain rfl : k = s := by omega
      have HBEL := Lib.hid hbel
      clear hbel
      go_wp2
      go_ret2
      exact ⟨rfl, HBEL.out⟩

theorem refPut_no (s n : Int) (w : World) (h : okB s n = false) :
    Calls Try.prog 43 #[.int .i64 s, .int .i64 n] w fun e w' => e = .returned (.tuple #[.string ⟨#[]⟩, .int .i64 1]) ∧ w = w' := by
  by_cases hs : sizeB s = true
  · by_cases hn : 0 ≤ n
    · have hf : fitsB s n = false := by simpa [okB, hs, hn] using h
      have hd : decide (mostI s < n) = true := by
        have := fits_most hs hn
        simp [hf] at this
        simpa using this
      clear h hf
      go_enter Try.func43, Try.ntmps43
      go_wp2_with (first
        | (go_at_call 66; refine (refSize_any _ _).mono ?_; rintro e w' ⟨rfl, rfl⟩)
        | (go_at_call 67; refine (most_any _ _).mono ?_; rintro e w' ⟨rfl, rfl⟩))
      go_ret2
      exact ⟨rfl, rfl⟩
    · have hn' : n < 0 := by omega
      clear h hn
      go_enter Try.func43, Try.ntmps43
      go_wp2_with (go_at_call 66; refine (refSize_any _ _).mono ?_; rintro e w' ⟨rfl, rfl⟩)
      go_ret2
      exact ⟨rfl, rfl⟩
  · have hs' : sizeB s = false := by simpa using hs
    clear hs h
    go_enter Try.func43, Try.ntmps43
    go_wp2_with (go_at_call 66; refine (refSize_any _ _).mono ?_; rintro e w' ⟨rfl, rfl⟩)
    go_ret2
    exact ⟨rfl, rfl⟩

theorem refPut_any (s n : Int) (w : World) :
    Calls Try.prog 43 #[.int .i64 s, .int .i64 n] w fun e w' => e = .returned (.tuple #[.string (putS s n), .int .i64 (putE s n)]) ∧ Below w.heap.size w w' := by
  by_cases h : okB s n = true
  · obtain ⟨h1, h2, h3⟩ := okB_parts h
    have hb' := sizeB_cases h1
    obtain ⟨k, rfl⟩ : ∃ k : Nat, s = k := ⟨s.toNat, by omega⟩
    refine (refPut_yes k n w (by omega) (by omega) h1 h2 ((fits_most h1 h2).1 h3)).mono ?_
    rintro e w' ⟨rfl, hbel⟩
    exact ⟨by simp [putS, putE, h], hbel⟩
  · refine (refPut_no s n w (by simpa using h)).mono ?_
    rintro e w' ⟨rfl, rfl⟩
    exact ⟨by simp [putS, putE, h], Below.refl _ _⟩

theorem extract_one (t : ByteArray) (k : Nat) (h : k < t.data.toList.length) : t.extract k (k + 1) = ⟨#[t.data.toList[k]]⟩ := by
  apply ByteArray.ext
  rw [ByteArray.data_extract]
  apply Array.ext'
  rw [Array.toList_extract, List.extract_eq_take_drop]
  rw [List.drop_eq_getElem_cons h]
  simp

theorem rev_step (t : ByteArray) (k : Nat) (h : k < t.size) : t.extract k (k + 1) ++ ⟨(t.data.toList.take k).reverse.toArray⟩ = ⟨(t.data.toList.take (k + 1)).reverse.toArray⟩ := by
  have h' : k < t.data.toList.length := by simpa using h
  rw [extract_one t k h', ByteArray.mk_append_mk, List.take_succ_eq_append_getElem h']
  simp

/-- A text the other way round. -/
theorem refTurned_any (t : ByteArray) (w : World) (ht : t.size ≤ 1000000) :
    Calls Try.prog 70 #[.string t] w fun e w' => e = .returned (.string (revS t)) ∧ w = w' := by
  go_enter Try.func70, Try.ntmps70
  go_wp2
  go_loop [3, 4] (fun o i => ∃ k : Nat, k ≤ t.size ∧ i = .int .i64 k ∧ o = .string ⟨(t.data.toList.take k).reverse.toArray⟩) (fun _ i => t.size - (intOf i).toNat)
  case atStart => exact ⟨0, Nat.zero_le _, rfl, by simp⟩
  case round =>
    obtain ⟨k, hk, rfl, rfl⟩ := hrel
    by_cases hlt : k < t.size
    · go_wp2
      refine ⟨⟨k + 1, by omega, by go_num, by rw [rev_step t k hlt]⟩, ?_⟩
      simp [intOf]; omega
    · obtain rfl : k = t.size := by omega
      go_wp2
      go_ret
      exact ⟨by simp [revS, List.take_of_length_le], rfl⟩

def sgnI (n : Int) : Int := if n < 0 then n + 4294967296 else n
def sgnS (n : Int) : ByteArray := if n < -2147483648 ∨ 2147483647 < n then ⟨#[]⟩ else putS 4 (sgnI n)

end Go.Proofs.Ytbdlmcpdplmdnaa.Oct
