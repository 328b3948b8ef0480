/-
  A slice of acts on a screen that was handed in.
-/
import Derived.Test.YtlamdgdegmjljaaScrView
namespace Go.Proofs.Ytlamdgdegmjljaa.Scr
open Go.ChangeShapes Go.WideShapes Go.ChangeAt Go.RowKit Lz RowG RegVal Reg
set_option linter.unusedVariables false
set_option maxRecDepth 100000

theorem ints_cell {H : Type} {enc : TypeId × Value → H} {W : World} {v : Value} {fuel : Nat} {y : DataW H × List MemPlace} (hf : DataW.trod enc Try.prog W 0 (fun _ => true) true fuel 30 [v] = some y) :
    ∃ a len cap L, v = .slice a len cap ∧ SW W (.slice a len cap) L ∧ L.length = len ∧ L.length ≤ maxLen ∧ Room v := by
  have hs : ∃ a len cap, v = .slice a len cap := by
    rcases Go.Deep.open_slice Try.underlying30 hf with ⟨hcs, _⟩ | ⟨x, l, c, m, n, D, Pl, hcs, _⟩
    · simp at hcs; exact ⟨_, _, _, hcs⟩
    · simp at hcs; exact ⟨_, _, _, hcs⟩
  obtain ⟨a, len, cap, rfl⟩ := hs
  obtain ⟨L, h1, h2, h3, _, h4⟩ := ints_si (d := y.1) (p := y.2) (a := a) (len := len) (cap := cap) ⟨fuel, hf⟩
  exact ⟨a, len, cap, L, rfl, h1, h3, h2, h4⟩
theorem rect_cells {H : Type} {enc : TypeId × Value → H} {W : World} {z0 z1 z2 z3 : Value} {fuel : Nat} {y : DataW H × List MemPlace} (hf : DataW.trod enc Try.prog W 0 (fun _ => true) true fuel 35 [z0, z1, z2, z3] = some y) :
    ∃ f : Rc, z0 = .int .i64 f.x ∧ z1 = .int .i64 f.y ∧ z2 = .int .i64 f.w ∧ z3 = .int .i64 f.h ∧ f.wf := by
  obtain ⟨y0, y1, y2, y3, n', _, _, g0, g1, g2, g3⟩ := Go.Joins.trod_struct4 Try.underlying35 hf
  have c1 : Try.prog.cellsOf 3 = 1 := by kernel_rfl
  simp [c1] at g0 g1 g2 g3
  obtain ⟨k0, e0, _, w0⟩ := DataW.trod_int Try.underlying3 g0
  obtain ⟨k1, e1, _, w1⟩ := DataW.trod_int Try.underlying3 g1
  obtain ⟨k2, e2, _, w2⟩ := DataW.trod_int Try.underlying3 g2
  obtain ⟨k3, e3, _, w3⟩ := DataW.trod_int Try.underlying3 g3
  simp at e0 e1 e2 e3
  exact ⟨⟨k0, k1, k2, k3⟩, e0, e1, e2, e3, w0, w1, w2, w3⟩

/-- An act: what it asks, two rectangles, a number, a row. -/
structure ActS where
  K : Int
  R : Rc
  T : Rc
  N : Int
  v : Value
  P : List Int
def ActS.cells (c : ActS) : List Value := [.int .i64 c.K, .int .i64 c.R.x, .int .i64 c.R.y, .int .i64 c.R.w, .int .i64 c.R.h, .int .i64 c.T.x, .int .i64 c.T.y, .int .i64 c.T.w, .int .i64 c.T.h, .int .i64 c.N, c.v]
/-- What is known of it. -/
structure ActS.Ok (w : World) (c : ActS) : Prop where
  k : (Lit.int .i64 c.K).wf = true
  n : (Lit.int .i64 c.N).wf = true
  r : c.R.wf
  t : c.T.wf
  row : SW w c.v c.P
  len : c.P.length ≤ maxLen
  room : Room c.v
theorem ActS.Ok.below {w w' : World} {c : ActS} (h : c.Ok w) (k : Below w.heap.size w w') : c.Ok w' := ⟨h.k, h.n, h.r, h.t, h.row.below k, h.len, h.room⟩
def ActS.At (w : World) (b o : Nat) (c : ActS) : Prop := ∀ j u, c.cells[j]? = some u → w.cell? ⟨b, o + j, none⟩ = some u
/-- What a walk is told of a slice of acts that came in. -/
def IsActs (w : World) (a : Option Addr) (len : Nat) (A : Nat → ActS) : Prop :=
  len ≤ maxLen ∧ (0 < len → ∃ b off, a = some ⟨b, off, none⟩ ∧ b < w.heap.size ∧ ∀ i, i < len → (A i).At w b (off + i * 11)) ∧ ∀ i, i < len → (A i).Ok w
theorem IsActs.below {w w' : World} {a : Option Addr} {len : Nat} {A : Nat → ActS} (h : IsActs w a len A) (k : Below w.heap.size w w') : IsActs w' a len A := by
  obtain ⟨q1, q2, q3⟩ := h
  refine ⟨q1, fun h0 => ?_, fun i hi => (q3 i hi).below k⟩
  obtain ⟨b, off, e, hb, hc⟩ := q2 h0
  exact ⟨b, off, e, Nat.lt_of_lt_of_le hb k.size, fun i hi j u hj => (k.cell (p := ⟨b, off + i * 11 + j, none⟩) hb).trans (hc i hi j u hj)⟩
theorem list5 {α : Type} {xs : List α} (h : xs.length = 5) : ∃ z0 z1 z2 z3 z4, xs = [z0, z1, z2, z3, z4] := by
  match xs, h with
  | [z0, z1, z2, z3, z4], _ => exact ⟨z0, z1, z2, z3, z4, rfl⟩
theorem list11 {α : Type} {xs : List α} (h : xs.length = 11) : ∃ z0 z1 z2 z3 z4 z5 z6 z7 z8 z9 z10, xs = [z0, z1, z2, z3, z4, z5, z6, z7, z8, z9, z10] := by
  match xs, h with
  | [z0, z1, z2, z3, z4, z5, z6, z7, z8, z9, z10], _ => exact ⟨z0, z1, z2, z3, z4, z5, z6, z7, z8, z9, z10, rfl⟩
theorem acts_see {H : Type} {enc : TypeId × Value → H} {W : World} {a : Option Addr} {len cap : Nat} {d : DataW H} {p : List MemPlace} (h : DataW.Trod enc Try.prog W 0 (fun _ => true) true 22 (.slice a len cap) d p) :
    ∃ A, IsActs W a len A := by
  obtain ⟨fuel, hf⟩ := h
  rcases Go.Deep.open_slice Try.underlying22 hf with ⟨hcs, _⟩ | ⟨x, l, c, m, n, D, Pl, hcs, _, hl, hm, hmm, _, hx⟩
  · simp [Value.cells] at hcs
    obtain ⟨rfl, rfl, rfl⟩ := hcs
    exact ⟨fun _ => ⟨0, ⟨0, 0, 0, 0⟩, ⟨0, 0, 0, 0⟩, 0, undef, []⟩, by simp, fun h => by omega, fun i hi => by omega⟩
  · simp [Value.cells] at hcs
    obtain ⟨rfl, rfl, rfl⟩ := hcs
    have h11 : Try.prog.cellsOf 37 = 11 := by kernel_rfl
    rw [h11] at hx
    have key : ∀ i, i < len → ∃ c : ActS, (∀ j : Nat, j < 11 → W.cell? ((x.add (i * 11)).add j) = c.cells[j]?) ∧ c.Ok W := by
      intro i hi
      have him : i < m := by rw [hmm]; simp; omega
      obtain ⟨cs', h1, h2⟩ := hx i him
      obtain ⟨_, hlen, hcell⟩ := World.cells?_some h1
      obtain ⟨xs, n', _, _, _, hlen', hg⟩ := DataW.trod_struct Try.underlying37 h2
      obtain ⟨y0, y1, y2, y3, y4, rfl⟩ := list5 hlen'
      obtain ⟨z0, z1, z2, z3, z4, z5, z6, z7, z8, z9, z10, rfl⟩ := list11 hlen
      have ci : Try.prog.cellsOf 3 = 1 := by kernel_rfl
      have cr : Try.prog.cellsOf 35 = 4 := by kernel_rfl
      have cl : Try.prog.cellsOf 30 = 1 := by kernel_rfl
      have g0 := hg 0 _ rfl
      have g1 := hg 1 _ rfl
      have g2 := hg 2 _ rfl
      have g3 := hg 3 _ rfl
      have g4 := hg 4 _ rfl
      simp [ci, cr, cl] at g0 g1 g2 g3 g4
      obtain ⟨k0, e0, _, w0⟩ := DataW.trod_int Try.underlying3 g0
      obtain ⟨R, r0, r1, r2, r3, wr⟩ := rect_cells g1
      obtain ⟨T, t0, t1, t2, t3, wt⟩ := rect_cells g2
      obtain ⟨k3, e3, _, w3⟩ := DataW.trod_int Try.underlying3 g3
      obtain ⟨pa, pn, pc, P, e4, hp, _, hl, hro⟩ := ints_cell g4
      simp at e0 e3
      subst e0 e3 r0 r1 r2 r3 t0 t1 t2 t3
      rw [← e4] at hp
      exact ⟨⟨k0, R, T, k3, z10, P⟩, fun j hj => hcell j hj, w0, w3, wr, wt, hp, hl, hro⟩
    have : Inhabited ActS := ⟨⟨0, ⟨0, 0, 0, 0⟩, ⟨0, 0, 0, 0⟩, 0, undef, []⟩⟩
    obtain ⟨A, hA⟩ := Go.Deep.choose_lt (α := ActS) (p := fun i c => (∀ j : Nat, j < 11 → W.cell? ((x.add (i * 11)).add j) = c.cells[j]?) ∧ c.Ok W) key
    refine ⟨A, by omega, fun h0 => ?_, fun i hi => (hA i hi).2⟩
    obtain ⟨b, off, spot⟩ := x
    have hspot : spot = none := by
      have := (hA 0 h0).1 0 (by decide)
      simp [ActS.cells] at this
      simpa [Addr.add] using World.cell?_spot this
    subst hspot
    have hc : ∀ i, i < len → (A i).At W b (off + i * 11) := fun i hi j u hj => by
      have hj11 : j < 11 := by
        have := (List.getElem?_eq_some_iff.1 hj).1
        simpa [ActS.cells] using this
      have hh := (hA i hi).1 j hj11
      rw [Go.WideShapes.add_plain, Go.WideShapes.add_plain] at hh
      exact hh.trans hj
    exact ⟨b, off, rfl, World.block_lt_of_cell? W _ (hc 0 h0 0 _ rfl), hc⟩
end Go.Proofs.Ytlamdgdegmjljaa.Scr
