/-
  What is asked of the program's calls of layer 13 (format), and the document's examples.
-/
import Derived.Test.YtbdlmcpdplmdnaaFmtBack
import Derived.Test.YtbdlmcpdplmdnaaFmtView
namespace Go.Proofs.Ytbdlmcpdplmdnaa.Fmt
open Go.ChangeShapes Go.WideShapes Go.ChangeAt Go.RowKit RegVal Oct
set_option linter.unusedVariables false
set_option maxRecDepth 100000

def Fm.valI (f : Fm) (c : Int) : Int := if f.ok then (f.val c : Nat) else 0
def Fm.colI (f : Fm) (c : Int) : Int := if f.ok then (f.col c : Nat) else 0
def Fm.leftI (f : Fm) (c : Int) : Int := if f.ok then (f.left c : Nat) else 0
def high : Fm := ⟨16, 16, false, true, 31, 63, 31, 11, 5, 0⟩
theorem high_wf : high.Wf := ⟨by decide, by decide, by decide, by decide, by decide, by decide, by decide, by decide⟩
theorem std_wf : Fm.std.Wf := ⟨by decide, by decide, by decide, by decide, by decide, by decide, by decide, by decide⟩
theorem high_ok : high.ok = true := by decide +kernel
theorem std_ok : Fm.std.ok = true := by decide +kernel
theorem high_val : high.valI 16744448 = 64512 := by decide +kernel
theorem high_left : high.leftI 16744448 = 16744960 := by decide +kernel
theorem std_left : Fm.std.leftI 1193046 = 1193046 := by decide +kernel
theorem high_back : parF high.bytes = high ∧ parE high.bytes = 0 ∧ high.bytes.size = 16 := by
  have := parse_bytes high_ok ⟨#[]⟩
  rwa [show high.bytes ++ (⟨#[]⟩ : ByteArray) = high.bytes from by apply ByteArray.ext; simp] at this
theorem below_n {w a b : World} (h : Below w.heap.size w a) (k : Below a.heap.size a b) : Below w.heap.size w b := h.trans (k.mono h.size)
end Go.Proofs.Ytbdlmcpdplmdnaa.Fmt
