/-
  Codes that fit tokens, and the plainest header.
-/
import Derived.Test.YtkpieakgpnnonaaGreatDefBest
import Derived.Test.YtkpieakgpnnonaaGreatAllDef
namespace Go.Proofs.YtkpieakgpnnonaaGreat.Def
open Go.Proofs.YtkpieakgpnnonaaGreat.Huf (used fine nats)
open Go.Proofs.YtkpieakgpnnonaaGreat.Lz (Tok okT)
open Go.Proofs.YtkpieakgpnnonaaGreat.Sym
set_option linter.unusedVariables false

theorem fit_of {l : List Tok} {N M : List Nat} (hv : l.all okT = true) (n1 : N.length ≤ 320) (n2 : ∀ x ∈ N, x ≤ 15) (n3 : used N 15 ≤ 32768) (m1 : M.length ≤ 320) (m2 : ∀ x ∈ M, x ≤ 15) (m3 : used M 15 ≤ 32768)
    (hN : ∀ s, s < 286 → litC l s ≠ 0 → N.getD s 0 ≠ 0) (hM : ∀ s, s < 30 → dstC l s ≠ 0 → M.getD s 0 ≠ 0) : Fit N M l := by
  refine ⟨hv, ?_, ?_⟩
  · unfold cvB
    rw [Def.fine_ints n1 n2 n3, Bool.true_and, covB_iff, ints_nats]
    exact hN
  · unfold cvB
    rw [Def.fine_ints m1 m2 m3, Bool.true_and, covB_iff, ints_nats]
    exact hM
theorem fix_fit {l : List Tok} (hv : l.all okT = true) : Fit fxL fxD l := ⟨hv, (fix_cov l).1, (fix_cov l).2⟩
/-- Each length by a symbol of its own. -/
theorem hdr_plain {L M O : List Nat} (hL : 257 ≤ L.length ∧ L.length ≤ 286) (hM : 1 ≤ M.length ∧ M.length ≤ 30) (h15 : ∀ x ∈ L ++ M, x ≤ 15) (hO : O.length = 19) (h7 : ∀ x ∈ O, x ≤ 7) (hU : used O 15 ≤ 32768) (hc : ∀ x ∈ L ++ M, O.getD x 0 ≠ 0) :
    IsHdr L M 19 O ((L ++ M).map fun x => (x, 0)) := by
  refine ⟨hL, hM, by omega, hO, h7, fun i h1 h2 => by omega, hU, ?_⟩
  have := Rows.plain (O := O) (L ++ M) [] fun x hx => ⟨by have := h15 x hx; omega, hc x hx⟩
  rwa [List.nil_append] at this
end Go.Proofs.YtkpieakgpnnonaaGreat.Def
