/-
  What is told of a []int that is handed in.
-/
import Derived.Test.YtikfenimgjeplaaHufRef2S
import Derived.ProofKit
import Derived.Lib.SmallJoins
import Derived.Deep.Slices
namespace Go.Proofs.Ytikfenimgjeplaa.Huf
open Go.ChangeShapes Go.WideShapes Go.ChangeAt Go.RowKit
set_option linter.unusedVariables false

theorem row0 {w : World} {base size n : Nat} {e : TypeId} {v : Value} {xs : List Value} (h : w.ownsRow base e size v n xs) : w.ownsRow 0 e size v n xs := by
  refine ⟨h.1, ?_⟩
  rcases h.2 with h0 | ⟨g, cap, cur, h1, _, h3⟩
  · exact .inl h0
  · exact .inr ⟨g, cap, cur, h1, Nat.zero_le _, h3⟩

theorem ints_see {H : Type} {enc : TypeId × Value → H} {W : World} {a : Option Addr} {len cap : Nat} {d : DataW H} {p : List MemPlace} (h : DataW.Trod enc Try.prog W 0 (fun _ => true) true 25 (.slice a len cap) d p) :
    ∃ L : List Int, L.length = len ∧ len ≤ maxLen ∧ IsInts W a L ∧ ∀ x ∈ L, (Lit.int .i64 x).wf = true := by
  obtain ⟨fuel, hf⟩ := h
  rcases Go.Deep.open_slice Try.underlying25 hf with ⟨hcs, _⟩ | ⟨x, l, c, m, n, D, Pl, hcs, _, hl, hm, hmm, _, hx⟩
  · simp [Value.cells] at hcs
    obtain ⟨rfl, rfl, rfl⟩ := hcs
    exact ⟨[], rfl, by simp, fun h => by simp at h, fun x h => by simp at h⟩
  · simp [Value.cells] at hcs
    obtain ⟨rfl, rfl, rfl⟩ := hcs
    have h1 : Try.prog.cellsOf 3 = 1 := by kernel_rfl
    rw [h1] at hx
    have key : ∀ i, i < len → ∃ k : Int, W.cell? (x.add i) = some (.int .i64 k) ∧ (Lit.int .i64 k).wf = true := by
      intro i hi
      have him : i < m := by rw [hmm]; simp; omega
      obtain ⟨cs', h1, h2⟩ := hx i him
      obtain ⟨_, hlen, hcell⟩ := World.cells?_some h1
      obtain ⟨k0, e0, _, w0⟩ := DataW.trod_int Try.underlying3 h2
      have h3 := hcell 0 (by decide)
      subst e0
      have e : (x.add (i * 1)).add 0 = x.add i := by
        rw [Nat.mul_one]
        obtain ⟨b, off, spot⟩ := x
        cases spot <;> simp [Addr.add]
      rw [e] at h3
      exact ⟨k0, by simpa using h3, w0⟩
    obtain ⟨A, hA⟩ := Go.Deep.choose_lt (α := Int) (p := fun i k => W.cell? (x.add i) = some (.int .i64 k) ∧ (Lit.int .i64 k).wf = true) key
    refine ⟨(List.range len).map A, by simp, by omega, fun h0 => ?_, fun y hy => ?_⟩
    · have h0' : 0 < len := by simpa using h0
      obtain ⟨b, off, spot⟩ := x
      have hspot : spot = none := by
        have := (hA 0 h0').1
        simpa [Addr.add] using World.cell?_spot this
      subst hspot
      have hc : ∀ i, i < len → W.cell? ⟨b, off + i, none⟩ = some (.int .i64 (A i)) := fun i hi => by
        have := (hA i hi).1
        rwa [Go.WideShapes.add_plain] at this
      exact ⟨b, off, rfl, World.block_lt_of_cell? W _ (hc 0 h0'), fun i hi => by
        have hi' : i < len := by simpa using hi
        rw [hc i hi']; simp⟩
    · obtain ⟨i, hi, rfl⟩ := List.mem_map.1 hy
      exact (hA i (List.mem_range.1 hi)).2

end Go.Proofs.Ytikfenimgjeplaa.Huf
