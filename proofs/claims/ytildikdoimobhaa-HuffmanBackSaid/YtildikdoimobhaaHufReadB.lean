/-
  All that HuffmanReads stands on.
-/
import Derived.Test.YtildikdoimobhaaHufRead
import Derived.Test.YtildikdoimobhaaHufView
import Derived.Test.YtildikdoimobhaaBitAll
namespace Go.Proofs.Ytildikdoimobhaa.Huf
end Go.Proofs.Ytildikdoimobhaa.Huf
