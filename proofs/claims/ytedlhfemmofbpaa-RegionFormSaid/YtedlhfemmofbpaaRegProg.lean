/-
  All that the laws of layer 15 ask of the program's calls.
-/
import Derived.Test.YtedlhfemmofbpaaRegPrgV
import Derived.Test.YtedlhfemmofbpaaRegPrgZa
namespace Go.Proofs.Ytedlhfemmofbpaa.Reg

theorem says : Says := says_of rects_any
end Go.Proofs.Ytedlhfemmofbpaa.Reg
