/-
  Contracts of the reference of layer 16 (plain): from where a rectangle is copied.
-/
import Derived.Test.YtmjjbapahgejmaaPlnRefD
import Derived.Deep.RegionWith
namespace Go.Proofs.Ytmjjbapahgejmaa.Pln
open Go.ChangeShapes Go.WideShapes Go.ChangeAt Go.RowKit Lz RowG RegVal Fmt Oct
set_option linter.unusedVariables false
set_option maxRecDepth 100000

def cpB (x y : Int) : Bool := okB 2 x && okB 2 y
def cpS (x y : Int) : ByteArray := ⟨(if cpB x y then beL 2 x ++ beL 2 y else []).toArray⟩
def cpE (x y : Int) : Int := if cpB x y then 0 else 1
theorem putS_size (s n : Int) (h : s = 2) : (putS s n).size ≤ 2 := by
  subst h
  unfold putS
  show ((if okB 2 n then beL (2 : Int).toNat n else []).toArray).size ≤ 2
  split <;> simp [beL_length]
end Go.Proofs.Ytmjjbapahgejmaa.Pln
