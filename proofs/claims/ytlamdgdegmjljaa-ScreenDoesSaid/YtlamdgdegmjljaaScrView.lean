/-
  Rectangles and rows of numbers that are handed in.
-/
import Derived.Test.YtlamdgdegmjljaaScrMem
import Derived.Laws.MakeOwn
import Derived.Lib.SmallJoins
import Derived.Deep.Slices
namespace Go.Proofs.Ytlamdgdegmjljaa.Scr
open Go.ChangeShapes Go.WideShapes Go.ChangeAt Go.RowKit Lz RowG RegVal Reg
set_option linter.unusedVariables false
set_option maxRecDepth 100000

theorem arr4 {cs : Array Value} (h : cs.size = 4) : ∃ z0 z1 z2 z3, cs = #[z0, z1, z2, z3] := by
  obtain ⟨l⟩ := cs
  match l, h with
  | [z0, z1, z2, z3], _ => exact ⟨z0, z1, z2, z3, rfl⟩
theorem rect_see {H : Type} {enc : TypeId × Value → H} {W : World} {r : Reach} {b0 : Nat} {v : Value} {d : DataW H} {p : List MemPlace} (hv : Value.okWide Try.prog W r b0 35 v)
    (h : DataW.Trod enc Try.prog W 0 (fun _ => true) true 35 v d p) : ∃ f : Rc, v = f.v ∧ f.wf := by
  obtain ⟨cs, rfl, hsz⟩ := okWide_struct Try.underlying35 hv
  have h4 : Try.prog.cellsOf 35 = 4 := by kernel_rfl
  obtain ⟨c0, c1, c2, c3, rfl⟩ := arr4 (hsz.trans h4)
  obtain ⟨fuel, hf⟩ := h
  obtain ⟨y0, y1, y2, y3, n', _, _, g0, g1, g2, g3⟩ := Go.Joins.trod_struct4 Try.underlying35 hf
  have c1 : Try.prog.cellsOf 3 = 1 := by kernel_rfl
  simp [Value.cells, c1] at g0 g1 g2 g3
  obtain ⟨k0, e0, _, w0⟩ := DataW.trod_int Try.underlying3 g0
  obtain ⟨k1, e1, _, w1⟩ := DataW.trod_int Try.underlying3 g1
  obtain ⟨k2, e2, _, w2⟩ := DataW.trod_int Try.underlying3 g2
  obtain ⟨k3, e3, _, w3⟩ := DataW.trod_int Try.underlying3 g3
  simp at e0 e1 e2 e3
  subst e0 e1 e2 e3
  exact ⟨⟨k0, k1, k2, k3⟩, rfl, w0, w1, w2, w3⟩
theorem ints_si {H : Type} {enc : TypeId × Value → H} {W : World} {a : Option Addr} {len cap : Nat} {d : DataW H} {p : List MemPlace} (h : DataW.Trod enc Try.prog W 0 (fun _ => true) true 30 (.slice a len cap) d p) :
    ∃ L : List Int, SW W (.slice a len cap) L ∧ L.length ≤ maxLen ∧ L.length = len ∧ (∀ x ∈ L, (Lit.int .i64 x).wf = true) ∧ Room (.slice a len cap) := by
  obtain ⟨fuel, hf⟩ := h
  rcases Go.Deep.open_slice Try.underlying30 hf with ⟨hcs, _⟩ | ⟨x, l, c, m, n, D, Pl, hcs, _, hl, hm, hmm, _, hx⟩
  · simp [Value.cells] at hcs
    obtain ⟨rfl, rfl, rfl⟩ := hcs
    exact ⟨[], (SI.nil W).sw, by simp, rfl, fun x h => by simp at h, room_of (Nat.le_refl _)⟩
  · simp [Value.cells] at hcs
    obtain ⟨rfl, rfl, rfl⟩ := hcs
    have h1 : Try.prog.cellsOf 3 = 1 := by kernel_rfl
    rw [h1] at hx
    have key : ∀ i, i < len → ∃ k : Int, W.cell? (x.add i) = some (.int .i64 k) ∧ (Lit.int .i64 k).wf = true := by
      intro i hi
      have him : i < m := by rw [hmm]; simp; omega
      obtain ⟨cs', h1, h2⟩ := hx i him
      obtain ⟨_, hlen, hcell⟩ := World.cells?_some h1
      obtain ⟨k0, e0, _, w0⟩ := DataW.trod_int Try.underlying3 h2
      have h3 := hcell 0 (by decide)
      subst e0
      have e : (x.add (i * 1)).add 0 = x.add i := by
        rw [Nat.mul_one]
        obtain ⟨b, off, spot⟩ := x
        cases spot <;> simp [Addr.add]
      rw [e] at h3
      exact ⟨k0, by simpa using h3, w0⟩
    obtain ⟨A, hA⟩ := Go.Deep.choose_lt (α := Int) (p := fun i k => W.cell? (x.add i) = some (.int .i64 k) ∧ (Lit.int .i64 k).wf = true) key
    refine ⟨(List.range len).map A, ⟨some x, cap, by simp, fun e => by simp at e, fun h0 => ?_⟩, by simp; omega, by simp, fun y hy => ?_, room_of hl⟩
    · have h0' : 0 < len := by simpa using h0
      obtain ⟨b, off, spot⟩ := x
      have hspot : spot = none := by
        have := (hA 0 h0').1
        simpa [Addr.add] using World.cell?_spot this
      subst hspot
      have hc : ∀ i, i < len → W.cell? ⟨b, off + i, none⟩ = some (.int .i64 (A i)) := fun i hi => by
        have := (hA i hi).1
        rwa [Go.WideShapes.add_plain] at this
      refine ⟨b, off, rfl, World.block_lt_of_cell? W _ (hc 0 h0'), fun i hi => ?_⟩
      have hi' : i < len := by simpa using hi
      rw [hc i hi', px_get hi]
      simp
    · obtain ⟨i, hi, rfl⟩ := List.mem_map.1 hy
      exact (hA i (List.mem_range.1 hi)).2
end Go.Proofs.Ytlamdgdegmjljaa.Scr
