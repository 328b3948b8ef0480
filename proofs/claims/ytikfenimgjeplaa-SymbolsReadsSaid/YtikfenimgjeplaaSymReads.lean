/-
  All that the walk of SymbolsReads stands on.
-/
import Derived.Test.YtikfenimgjeplaaSymRefR
import Derived.Test.YtikfenimgjeplaaSymSameT
import Derived.Test.YtikfenimgjeplaaHufViewS
namespace Go.Proofs.Ytikfenimgjeplaa.Sym
end Go.Proofs.Ytikfenimgjeplaa.Sym
