/-
  All that the walk of SymbolsWrites stands on.
-/
import Derived.Test.YtikfenimgjeplaaSymRefW
import Derived.Test.YtikfenimgjeplaaSymWorks
import Derived.Test.YtikfenimgjeplaaHufViewS
namespace Go.Proofs.Ytikfenimgjeplaa.Sym
end Go.Proofs.Ytikfenimgjeplaa.Sym
