/-
  What is told of a slice of tokens that is handed in.
-/
import Derived.Test.YtlafenookbdhoaaLzWorks
import Derived.ProofKit
import Derived.Lib.SmallJoins
import Derived.Deep.Slices
namespace Go.Proofs.Ytlafenookbdhoaa.Lz
open Go.ChangeShapes Go.WideShapes Go.ChangeAt Go.RowKit
set_option linter.unusedVariables false

theorem toks_see {H : Type} {enc : TypeId × Value → H} {W : World} {a : Option Addr} {len cap : Nat} {d : DataW H} {p : List MemPlace} (h : DataW.Trod enc Try.prog W 0 (fun _ => true) true 22 (.slice a len cap) d p) :
    ∃ l : List Tok, l.length = len ∧ len ≤ maxLen ∧ IsToks W a l ∧ (a = none → len = 0 ∧ cap = 0) := by
  obtain ⟨fuel, hf⟩ := h
  rcases Go.Deep.open_slice Try.underlying22 hf with ⟨hcs, _⟩ | ⟨x, l, c, m, n, D, Pl, hcs, _, hl, hm, hmm, _, hx⟩
  · simp [Value.cells] at hcs
    obtain ⟨rfl, rfl, rfl⟩ := hcs
    exact ⟨[], rfl, by simp, fun h => by simp at h, fun _ => ⟨rfl, rfl⟩⟩
  · simp [Value.cells] at hcs
    obtain ⟨rfl, rfl, rfl⟩ := hcs
    have h3 : Try.prog.cellsOf 30 = 3 := by kernel_rfl
    rw [h3] at hx
    have key : ∀ i, i < len → ∃ c : Tok, (∀ j : Nat, (h : j < 3) → W.cell? ((x.add (i * 3)).add j) = [Value.int .i64 c.B, .int .i64 c.L, .int .i64 c.D][j]?) := by
      intro i hi
      have him : i < m := by rw [hmm]; simp; omega
      obtain ⟨cs', h1, h2⟩ := hx i him
      obtain ⟨_, hlen, hcell⟩ := World.cells?_some h1
      obtain ⟨y0, y1, y2, n', _, _, g0, g1, g2⟩ := Go.Deep.trod_struct3 Try.underlying30 h2
      obtain ⟨k0, e0, _, w0⟩ := DataW.trod_int Try.underlying3 g0
      obtain ⟨k1, e1, _, w1⟩ := DataW.trod_int Try.underlying3 g1
      obtain ⟨k2, e2, _, w2⟩ := DataW.trod_int Try.underlying3 g2
      have c1 : Try.prog.cellsOf 3 = 1 := by kernel_rfl
      match cs', hlen with
      | [z0, z1, z2], _ =>
        simp [c1] at e0 e1 e2
        subst e0 e1 e2
        exact ⟨⟨k0, k1, k2⟩, fun j hj => hcell j hj⟩
    obtain ⟨A, hA⟩ := Go.Deep.choose_lt (α := Tok) (p := fun i c => (∀ j : Nat, (h : j < 3) → W.cell? ((x.add (i * 3)).add j) = [Value.int .i64 c.B, .int .i64 c.L, .int .i64 c.D][j]?)) key
    refine ⟨(List.range len).map A, by simp, by omega, fun h0 => ?_, fun h => by simp at h⟩
    have h0' : 0 < len := by simpa using h0
    obtain ⟨b, off, spot⟩ := x
    have hspot : spot = none := by
      have := hA 0 h0' 0 (by decide)
      simp at this
      simpa [Addr.add] using World.cell?_spot this
    subst hspot
    have hc : ∀ i, i < len → TokAt W b (off + i * 3) (A i) := fun i hi => by
      have hh := hA i hi
      have e : ∀ j, ((⟨b, off, none⟩ : Addr).add (i * 3)).add j = ⟨b, off + i * 3 + j, none⟩ := fun j => by rw [Go.WideShapes.add_plain, Go.WideShapes.add_plain]
      refine ⟨?_, ?_, ?_⟩
      · have := hh 0 (by decide); rw [e] at this; simpa using this
      · have := hh 1 (by decide); rw [e] at this; simpa using this
      · have := hh 2 (by decide); rw [e] at this; simpa using this
    exact ⟨b, off, rfl, World.block_lt_of_cell? W _ (hc 0 h0').1, fun i hi => by
      have hi' : i < len := by simpa using hi
      simpa using hc i hi'⟩

end Go.Proofs.Ytlafenookbdhoaa.Lz
