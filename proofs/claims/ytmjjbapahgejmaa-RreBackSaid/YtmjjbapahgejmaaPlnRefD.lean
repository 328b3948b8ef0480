/-
  Contracts of the reference of layer 16 (plain): colours as bytes.
-/
import Derived.Test.YtmjjbapahgejmaaPlnRefC
namespace Go.Proofs.Ytmjjbapahgejmaa.Pln
open Go.ChangeShapes Go.WideShapes Go.ChangeAt Go.RowKit Lz RowG RegVal Fmt Oct
set_option linter.unusedVariables false
set_option maxRecDepth 100000

theorem val_lt {f : Fm} (h : f.ok = true) (c : Int) : f.val c < 4294967296 := by
  obtain ⟨k, j, l, s, t, u, n, H⟩ := f.is h
  rw [H.val_eq]
  have h1 := sum_lt H.three (a := downN (colZ c / 65536 % 256) (top k)) (b := downN (colZ c / 256 % 256) (top j)) (c := downN (colZ c % 256) (top l)) (down_le (by omega)) (down_le (by omega)) (down_le (by omega))
  have h2 : (2 : Nat) ^ n ≤ 2 ^ 32 := Nat.pow_le_pow_right (by decide) H.three.hn
  exact Nat.lt_of_lt_of_le h1 h2
/-- The bytes of colours. -/
def pixL (f : Fm) (c : Int) : List UInt8 := ordL f.big (Fm.sz f) ((f.val c : Nat) : Int)
def rawL (f : Fm) (l : List Int) : List UInt8 := l.flatMap (pixL f)
theorem ordL_length (b : Bool) (s : Nat) (n : Int) : (ordL b s n).length = s := by
  unfold ordL
  split
  · exact beL_length s n
  · exact leL_length s n
theorem pixL_length (f : Fm) (c : Int) : (pixL f c).length = Fm.sz f := ordL_length _ _ _
theorem rawL_length (f : Fm) (l : List Int) : (rawL f l).length = l.length * Fm.sz f := by
  unfold rawL
  induction l with
  | nil => simp
  | cons c l ih => rw [List.flatMap_cons, List.length_append, ih, pixL_length, List.length_cons, Nat.succ_mul]; omega
theorem rawL_snoc (f : Fm) (l : List Int) (c : Int) : rawL f (l ++ [c]) = rawL f l ++ pixL f c := by
  unfold rawL
  simp
def rwV (F vp p so sn st : Value) (k c z : Int) : Nat → Option Value
  | 0 => some so
  | 1 => some F
  | 2 => some F
  | 3 => some vp
  | 4 => some (.int .i64 k)
  | 5 => some p
  | 6 => some (.int .i64 c)
  | 7 => some (.int .i64 z)
  | 8 => some sn
  | _ => some st
end Go.Proofs.Ytmjjbapahgejmaa.Pln
