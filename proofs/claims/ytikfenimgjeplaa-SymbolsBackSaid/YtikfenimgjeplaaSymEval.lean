/-
  The document's examples, computed.
-/
import Derived.Test.YtikfenimgjeplaaSymReadB
import Derived.Test.YtikfenimgjeplaaSymWrite
import Derived.Test.YtikfenimgjeplaaSymFix
namespace Go.Proofs.Ytikfenimgjeplaa.Sym
open Go.Proofs.Ytikfenimgjeplaa.Huf (fine nats)
open Go.Proofs.Ytikfenimgjeplaa.Lz (Tok okT)
open Go.Proofs.Ytikfenimgjeplaa.Bit (pack tb)
set_option linter.unusedVariables false
set_option maxRecDepth 100000

theorem nats_ints (l : List Nat) : nats (ints l) = l := by
  unfold nats ints
  rw [List.map_map]
  conv => rhs; rw [← List.map_id l]
  apply List.map_congr_left
  intro x _
  simp
def exT : List Tok := [⟨97, 0, 0⟩, ⟨0, 3, 1⟩]
theorem ex_wr : wrE (ints fxL) (ints fxD) exT = 0 := by decide +kernel
def exB : ByteArray := ⟨(pack (wrBits fxL fxD exT)).toArray⟩
theorem ex_size : exB.size ≤ 1000 := by decide +kernel
theorem ex_rd : (rdG (ints fxL) (ints fxD) (tb exB) 0 9).2.1 = 0 ∧ (rdG (ints fxL) (ints fxD) (tb exB) 0 9).1.length = 2 ∧ ((rdG (ints fxL) (ints fxD) (tb exB) 0 9).1.getD 1 default).L = 3 := by decide +kernel
end Go.Proofs.Ytikfenimgjeplaa.Sym
