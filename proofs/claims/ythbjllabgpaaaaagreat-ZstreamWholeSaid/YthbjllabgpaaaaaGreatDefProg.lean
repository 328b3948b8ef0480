/-
  What is asked of deflate's calls: their contracts as one structure.
-/
import Derived.Test.YthbjllabgpaaaaaGreatDefOut
namespace Go.Proofs.YthbjllabgpaaaaaGreat.Def
open Go.ChangeShapes Go.WideShapes Go.ChangeAt Go.RowKit
open Go.Proofs.YthbjllabgpaaaaaGreat.Huf (IsInts nats)
open Go.Proofs.YthbjllabgpaaaaaGreat.Bit (WrAt But Near)
open Go.Proofs.YthbjllabgpaaaaaGreat.Lz (Tok okT IsToks)
open Go.Proofs.YthbjllabgpaaaaaGreat.Sym
set_option linter.unusedVariables false

end Go.Proofs.YthbjllabgpaaaaaGreat.Def
