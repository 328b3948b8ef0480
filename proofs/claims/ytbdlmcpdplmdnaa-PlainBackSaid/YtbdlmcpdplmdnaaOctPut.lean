/-
  Contracts of octets.Put, Little, Signed, and of the reference's Put, Turned, Signed.
-/
import Derived.Test.YtbdlmcpdplmdnaaOctWrite
namespace Go.Proofs.Ytbdlmcpdplmdnaa.Oct
open Go.ChangeShapes Go.WideShapes Go.ChangeAt Go.RowKit
set_option linter.unusedVariables false
set_option maxRecDepth 100000

/-- May n be written in s bytes? -/
def okB (s n : Int) : Bool := sizeB s && decide (0 ≤ n) && fitsB s n
def putS (s n : Int) : ByteArray := ⟨(if okB s n then beL s.toNat n else []).toArray⟩
def litS (s n : Int) : ByteArray := ⟨(if okB s n then leL s.toNat n else []).toArray⟩
def putE (s n : Int) : Int := if okB s n then 0 else 1
def revS (s : ByteArray) : ByteArray := ⟨s.data.toList.reverse.toArray⟩

theorem revS_putS (s n : Int) : revS (putS s n) = litS s n := by
  unfold revS putS litS beL
  by_cases h : okB s n <;> simp [h]

theorem sizeB_cases {s : Int} (h : sizeB s = true) : s = 1 ∨ s = 2 ∨ s = 4 := by simpa [sizeB] using h

theorem write_no (s n : Int) (pl : Value) (w : World) (h : okB s n = false) :
    Calls Try.prog 64 #[.int .i64 s, .int .i64 n, pl] w fun e w' => e = .returned (.tuple #[.string ⟨#[]⟩, .int .i64 1]) ∧ w = w' := by
  by_cases hs : sizeB s = true
  · have hb := sizeB_cases hs
    have b0 : 0 ≤ s := by omega
    have b4 : s ≤ 4 := by omega
    by_cases hn : 0 ≤ n
    · have hf : fitsB s n = false := by simpa [okB, hs, hn] using h
      clear h hb
      go_enter Try.func64, Try.ntmps64
      go_wp2_with (first
        | (go_at_call 77; refine (isSize_any _ _).mono ?_; rintro e w' ⟨rfl, rfl⟩)
        | (go_at_call 78; refine (fits_any _ _ _ (by omega) (by omega)).mono ?_; rintro e w' ⟨rfl, rfl⟩))
      go_ret2
      exact ⟨rfl, rfl⟩
    · have hn' : n < 0 := by omega
      clear h hb hn
      go_enter Try.func64, Try.ntmps64
      go_wp2_with (go_at_call 77; refine (isSize_any _ _).mono ?_; rintro e w' ⟨rfl, rfl⟩)
      go_ret2
      exact ⟨rfl, rfl⟩
  · have hs' : sizeB s = false := by simpa using hs
    clear hs h
    go_enter Try.func64, Try.ntmps64
    go_wp2_with (go_at_call 77; refine (isSize_any _ _).mono ?_; rintro e w' ⟨rfl, rfl⟩)
    go_ret2
    exact ⟨rfl, rfl⟩

theorem okB_parts {s n : Int} (h : okB s n = true) : sizeB s = true ∧ 0 ≤ n ∧ fitsB s n = true := by
  simp [okB] at h
  exact ⟨h.1.1, h.1.2, h.2⟩

theorem write_t (s n : Int) (c : Addr) (w : World) (hc : w.cell? c = some (.int .i64 s)) (hb : c.block < w.heap.size) :
    Calls Try.prog 64 #[.int .i64 s, .int .i64 n, .func (.func 79) #[] #[.pointer (some c)]] w fun e w' => e = .returned (.tuple #[.string (putS s n), .int .i64 (putE s n)]) ∧ Below w.heap.size w w' := by
  by_cases h : okB s n = true
  · obtain ⟨h1, h2, h3⟩ := okB_parts h
    have hb' := sizeB_cases h1
    obtain ⟨k, rfl⟩ : ∃ k : Nat, s = k := ⟨s.toNat, by omega⟩
    refine (write_turned k n c w (by omega) (by omega) h1 h2 h3 hc hb).mono ?_
    rintro e w' ⟨rfl, hbel⟩
    exact ⟨by simp [putS, putE, h], hbel⟩
  · refine (write_no s n _ w (by simpa using h)).mono ?_
    rintro e w' ⟨rfl, rfl⟩
    exact ⟨by simp [putS, putE, h], Below.refl _ _⟩

theorem write_s (s n : Int) (w : World) :
    Calls Try.prog 64 #[.int .i64 s, .int .i64 n, .func (.func 86) #[] #[]] w fun e w' => e = .returned (.tuple #[.string (litS s n), .int .i64 (putE s n)]) ∧ Below w.heap.size w w' := by
  by_cases h : okB s n = true
  · obtain ⟨h1, h2, h3⟩ := okB_parts h
    have hb' := sizeB_cases h1
    obtain ⟨k, rfl⟩ : ∃ k : Nat, s = k := ⟨s.toNat, by omega⟩
    refine (write_straight k n w (by omega) (by omega) h1 h2 h3).mono ?_
    rintro e w' ⟨rfl, hbel⟩
    exact ⟨by simp [litS, putE, h], hbel⟩
  · refine (write_no s n _ w (by simpa using h)).mono ?_
    rintro e w' ⟨rfl, rfl⟩
    exact ⟨by simp [litS, putE, h], Below.refl _ _⟩

theorem put_any (s n : Int) (w : World) :
    Calls Try.prog 42 #[.int .i64 s, .int .i64 n] w fun e w' => e = .returned (.tuple #[.string (putS s n), .int .i64 (putE s n)]) ∧ Below w.heap.size w w' := by
  go_enter Try.func42, Try.ntmps42
  go_wp2_with (first
    | (go_at_call 65; refine (turned_any _ _).mono ?_; rintro e w' ⟨rfl, rfl⟩)
    | (go_at_call 64; refine (write_t _ _ _ _ (by simp) (by simp)).mono ?_; rintro e w' ⟨rfl, hbel⟩))
  go_ret2
  exact ⟨rfl, ((Below.refl _ _).alloc (Nat.le_refl _) _).trans (hbel.mono (by simp))⟩

theorem little_any (s n : Int) (w : World) :
    Calls Try.prog 76 #[.int .i64 s, .int .i64 n] w fun e w' => e = .returned (.tuple #[.string (litS s n), .int .i64 (putE s n)]) ∧ Below w.heap.size w w' := by
  go_enter Try.func76, Try.ntmps76
  go_wp2_with (first
    | (go_at_call 84; refine (straight_any _).mono ?_; rintro e w' ⟨rfl, rfl⟩)
    | (go_at_call 64; refine (write_s _ _ _).mono ?_; rintro e w' ⟨rfl, hbel⟩))
  go_ret2
  exact ⟨rfl, hbel⟩

end Go.Proofs.Ytbdlmcpdplmdnaa.Oct
