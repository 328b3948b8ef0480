/-
  Contracts of the reference of layer 13 (format): a format's bytes.
-/
import Derived.Test.YtbdlmcpdplmdnaaFmtRefQ
import Derived.Test.YtbdlmcpdplmdnaaOctRef
namespace Go.Proofs.Ytbdlmcpdplmdnaa.Fmt
open Go.ChangeShapes Go.WideShapes Go.ChangeAt Go.RowKit RegVal Oct
set_option linter.unusedVariables false
set_option maxRecDepth 100000

def flagI (b : Bool) : Int := if b then 1 else 0
/-- A format's numbers in their order, and how many bytes each has. -/
def sizeI (i : Nat) : Int := if 4 ≤ i ∧ i ≤ 6 then 2 else 1
def Fm.nums (f : Fm) : List Int := [f.B, f.D, flagI f.big, flagI f.tr, f.rm, f.gm, f.bm, f.rs, f.gs, f.bs]
def Fm.num (f : Fm) (i : Nat) : Int := f.nums.getD i 0
def Fm.cat (f : Fm) : Nat → ByteArray
  | 0 => ⟨#[]⟩
  | n + 1 => f.cat n ++ putS (sizeI n) (f.num n)
def Fm.fits (f : Fm) : Nat → Bool
  | 0 => true
  | n + 1 => f.fits n && okB (sizeI n) (f.num n)
/-- Sixteen bytes. -/
def Fm.bytes (f : Fm) : ByteArray := if f.fits 10 then f.cat 10 ++ ⟨#[0, 0, 0]⟩ else ⟨#[]⟩
theorem fits_less {f : Fm} {n m : Nat} (h : f.fits m = true) (hn : n ≤ m) : f.fits n = true := by
  induction m with
  | zero =>
    have : n = 0 := by omega
    rw [this]; rfl
  | succ m ih =>
    unfold Fm.fits at h
    rw [Bool.and_eq_true] at h
    rcases Nat.lt_or_ge n (m + 1) with h1 | h1
    · exact ih h.1 (by omega)
    · rw [show n = m + 1 by omega]
      unfold Fm.fits
      rw [Bool.and_eq_true]
      exact h
theorem putS_size4 (s n : Int) : (putS s n).size ≤ 4 := by
  show (if okB s n then beL s.toNat n else []).toArray.size ≤ 4
  by_cases h : okB s n = true
  · have := sizeB_cases (okB_parts h).1
    rw [if_pos h, List.size_toArray, beL_length]; omega
  · rw [if_neg h]; simp
theorem cat_size (f : Fm) (n : Nat) : (f.cat n).size ≤ 4 * n := by
  induction n with
  | zero => exact Nat.le_refl _
  | succ n ih =>
    have := putS_size4 (sizeI n) (f.num n)
    unfold Fm.cat
    rw [ByteArray.size_append]
    omega

/-- What the operations of the first region leave. -/
def byV (f : Fm) (b s : Nat) : Nat → Value
  | 0 => .pointer (some ⟨b, 0, none⟩)
  | 1 => .int .i64 f.B
  | 2 => .pointer (some ⟨b, 1, none⟩)
  | 3 => .int .i64 f.D
  | 4 => .pointer (some ⟨b, 2, none⟩)
  | 5 => .bool f.big
  | 6 => .int .i64 (flagI f.big)
  | 7 => .pointer (some ⟨b, 3, none⟩)
  | 8 => .bool f.tr
  | 9 => .int .i64 (flagI f.tr)
  | 10 => .pointer (some ⟨b, 4, none⟩)
  | 11 => .int .i64 f.rm
  | 12 => .pointer (some ⟨b, 5, none⟩)
  | 13 => .int .i64 f.gm
  | 14 => .pointer (some ⟨b, 6, none⟩)
  | 15 => .int .i64 f.bm
  | 16 => .pointer (some ⟨b, 7, none⟩)
  | 17 => .int .i64 f.rs
  | 18 => .pointer (some ⟨b, 8, none⟩)
  | 19 => .int .i64 f.gs
  | 20 => .pointer (some ⟨b, 9, none⟩)
  | 21 => .int .i64 f.bs
  | 22 => .slice (some ⟨s, 0, none⟩) 10 10
  | 23 => .slice (some ⟨s, 0, none⟩) 10 10
  | _ => undef
end Go.Proofs.Ytbdlmcpdplmdnaa.Fmt
