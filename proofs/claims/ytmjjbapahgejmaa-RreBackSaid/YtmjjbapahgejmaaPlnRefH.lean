/-
  Contracts of the reference of layer 16 (plain): the colours of bytes.
-/
import Derived.Test.YtmjjbapahgejmaaPlnRefG
namespace Go.Proofs.Ytmjjbapahgejmaa.Pln
open Go.ChangeShapes Go.WideShapes Go.ChangeAt Go.RowKit Lz RowG RegVal Fmt Oct
set_option linter.unusedVariables false
set_option linter.unusedSimpArgs false
set_option maxRecDepth 100000

/-- The colour of the bytes of one place; what RawOf answers. -/
def pxAt (f : Fm) (t : ByteArray) (j : Nat) : Int := ((f.col (getL f.big ((t.data.toList.drop (j * f.size)).take f.size)) : Nat) : Int)
def rawE (f : Fm) (x y : Int) (t : ByteArray) : Int := if fitsB f x y then if t.size < (x * y).toNat * f.size then 2 else 0 else 1
def rawN (f : Fm) (x y : Int) (t : ByteArray) : Int := if rawE f x y t = 0 then (((x * y).toNat * f.size : Nat) : Int) else 0
def rawP (f : Fm) (x y : Int) (t : ByteArray) : List Int := if rawE f x y t = 0 then gen (x * y).toNat (pxAt f t) else []
theorem get_rest {f : Fm} (hf : f.ok = true) (t : ByteArray) (j : Nat) (h : (j + 1) * f.size ≤ t.size) :
    f.get (t.extract (j * f.size) t.size) = getL f.big ((t.data.toList.drop (j * f.size)).take f.size) := by
  have e : (t.extract (j * f.size) t.size).data.toList = t.data.toList.drop (j * f.size) := by
    simp
    exact List.take_of_length_le (by rw [List.length_drop]; exact Nat.le_refl _)
  have hs : ¬ (t.extract (j * f.size) t.size).size < f.size := by
    rw [Nat.succ_mul] at h
    simp
    omega
  unfold Fm.get
  rw [if_pos hf, if_neg hs, e]
def gvV (F s r : Value) (k : Nat) (x e : Int) : Nat → Value
  | 0 => F
  | 1 => s
  | 2 => .int .i64 (k : Nat)
  | 3 => r
  | 4 => .tuple #[.int .i64 x, .int .i64 e]
  | 5 => .tuple #[.int .i64 x, .int .i64 e]
  | 6 => .int .i64 x
  | 7 => .int .i64 e
  | 8 => .int .i64 x
  | _ => .int .i64 e
end Go.Proofs.Ytmjjbapahgejmaa.Pln
