/-
  The program of layer 17 (rre): its calls.
-/
import Derived.Test.YtmjjbapahgejmaaRrePrgK
import Derived.Test.YtmjjbapahgejmaaRrePrgM
namespace Go.Proofs.Ytmjjbapahgejmaa.Rre
open Go.ChangeShapes Go.WideShapes Go.ChangeAt Go.RowKit Lz RowG RegVal Pln
set_option linter.unusedVariables false

theorem says : Says where
  ground vals vv hw hl w hv := ground_any vals vv w hv (by omega) hw
  pieces a b vals vv g ha hb hg hw hl w hv := by
    refine (pieces_any a b vals vv g w hv (by omega) ha hb).mono ?_
    rintro e w' ⟨u, rfl, h1, h2⟩
    exact ⟨u, rfl, PcsAt.sp h1, h2⟩
  encode f hf a b L vp ha hb hw hl w hv := encode_any f hf a b vp L w hv (by omega) hw ha hb
  decode f hf a b s ha hb hab hs w := decode_any f hf a b s (fun h => by have := hab h; omega) hs w ha hb
end Go.Proofs.Ytmjjbapahgejmaa.Rre
