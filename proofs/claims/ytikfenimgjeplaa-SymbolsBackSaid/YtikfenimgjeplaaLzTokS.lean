/-
  Rows of tokens: what is told of one that is handed in, and one that is owned.
-/
import Derived.Test.YtikfenimgjeplaaLzBaseS
import Derived.ProofKit
import Derived.Laws.MakeOwn
import Derived.Lib.SmallJoins
import Derived.Deep.Slices
namespace Go.Proofs.Ytikfenimgjeplaa.Lz
open Go.ChangeShapes Go.WideShapes Go.ChangeAt Go.RowKit
set_option linter.unusedVariables false

/-- The cells of a token. -/
def TokAt (w : World) (b o : Nat) (t : Tok) : Prop :=
  w.cell? ⟨b, o, none⟩ = some (.int .i64 t.B) ∧ w.cell? ⟨b, o + 1, none⟩ = some (.int .i64 t.L) ∧ w.cell? ⟨b, o + 2, none⟩ = some (.int .i64 t.D)
/-- What is told of a slice of tokens. -/
def IsToks (w : World) (a : Option Addr) (l : List Tok) : Prop :=
  0 < l.length → ∃ b off, a = some ⟨b, off, none⟩ ∧ b < w.heap.size ∧ ∀ i (h : i < l.length), TokAt w b (off + i * 3) l[i]

theorem IsToks.below {w w' : World} {a : Option Addr} {l : List Tok} {n : Nat} (h : IsToks w a l) (k : Below n w w') (hn : w.heap.size ≤ n) : IsToks w' a l := by
  intro h0
  obtain ⟨b, off, e, hb, hc⟩ := h h0
  refine ⟨b, off, e, Nat.lt_of_lt_of_le hb k.size, fun i hi => ?_⟩
  obtain ⟨q1, q2, q3⟩ := hc i hi
  exact ⟨(k.cell (by show b < n; omega)).trans q1, (k.cell (by show b < n; omega)).trans q2, (k.cell (by show b < n; omega)).trans q3⟩

theorem info_tok : (Try.prog.info? 64).map (fun i => (i.zero, i.size, i.bytes)) = some (some (.agg #[.int .i64 0, .int .i64 0, .int .i64 0]), 3, 24) := by kernel_rfl

/-- Tokens as cells. -/
def cellsT : List Tok → List Value
  | [] => []
  | t :: l => .int .i64 t.B :: .int .i64 t.L :: .int .i64 t.D :: cellsT l

theorem cellsT_length (l : List Tok) : (cellsT l).length = l.length * 3 := by
  induction l with
  | nil => rfl
  | cons t l ih => simp [cellsT, ih]; omega
theorem cellsT_append (l m : List Tok) : cellsT (l ++ m) = cellsT l ++ cellsT m := by
  induction l with
  | nil => rfl
  | cons t l ih => simp [cellsT, ih]
theorem cellsT_one (l : List Tok) : ∀ u ∈ cellsT l, u.oneCell' = true := by
  induction l with
  | nil => intro u hu; simp [cellsT] at hu
  | cons t l ih =>
    intro u hu
    simp only [cellsT, List.mem_cons] at hu
    rcases hu with rfl | rfl | rfl | h
    · rfl
    · rfl
    · rfl
    · exact ih u h
theorem cellsT_get (l : List Tok) : ∀ i (h : i < l.length), (cellsT l)[i * 3]? = some (.int .i64 l[i].B) ∧ (cellsT l)[i * 3 + 1]? = some (.int .i64 l[i].L) ∧ (cellsT l)[i * 3 + 2]? = some (.int .i64 l[i].D) := by
  induction l with
  | nil => intro i h; simp at h
  | cons t l ih =>
    intro i h
    cases i with
    | zero => exact ⟨rfl, rfl, rfl⟩
    | succ i =>
      have := ih i (by simpa using h)
      rw [show (i + 1) * 3 = i * 3 + 3 by omega]
      simpa [cellsT] using this
theorem cellsT_set (l : List Tok) : ∀ i (h : i < l.length) (b : Int), (cellsT l).set (i * 3) (.int .i64 b) = cellsT (l.set i ⟨b, l[i].L, l[i].D⟩) := by
  induction l with
  | nil => intro i h; simp at h
  | cons t l ih =>
    intro i h b
    cases i with
    | zero => rfl
    | succ i =>
      have := ih i (by simpa using h) b
      rw [show (i + 1) * 3 = i * 3 + 3 by omega]
      simpa [cellsT] using this
theorem cellsT_made (n : Nat) : (madeCells #[.int .i64 0, .int .i64 0, .int .i64 0] (n * 3)).toList = cellsT (List.replicate n ⟨0, 0, 0⟩) := by
  apply List.ext_getElem?
  intro j
  by_cases hj : j < n * 3
  · obtain ⟨i, r, hr, rfl⟩ : ∃ i r, r < 3 ∧ j = i * 3 + r := ⟨j / 3, j % 3, Nat.mod_lt _ (by decide), by omega⟩
    obtain ⟨g0, g1, g2⟩ := cellsT_get (List.replicate n ⟨0, 0, 0⟩) i (by simp; omega)
    simp only [List.getElem_replicate] at g0 g1 g2
    have hm : (madeCells #[.int .i64 0, .int .i64 0, .int .i64 0] (n * 3)).toList[i * 3 + r]? = some (Value.int .i64 0) := by
      unfold madeCells
      simp [hj]
      obtain rfl | rfl | rfl : r = 0 ∨ r = 1 ∨ r = 2 := by omega
      · simp
      · simp
      · simp
    rw [hm]
    obtain rfl | rfl | rfl : r = 0 ∨ r = 1 ∨ r = 2 := by omega
    · exact g0.symm
    · exact g1.symm
    · exact g2.symm
  · rw [List.getElem?_eq_none (show (madeCells #[.int .i64 0, .int .i64 0, .int .i64 0] (n * 3)).toList.length ≤ j by simp [madeCells]; omega), List.getElem?_eq_none (by rw [cellsT_length]; simp; omega)]

theorem toks_of_row {w : World} {B n cap : Nat} {a : Option Addr} {l : List Tok} (hn : l.length = n) (h : w.ownsRow B 64 3 (.slice a n cap) n (cellsT l)) : IsToks w a l := by
  intro h0
  rcases h.2 with ⟨h1, h2⟩ | ⟨g, cap2, cur, h1, _⟩
  · omega
  · simp only [Value.slice.injEq] at h1
    obtain ⟨rfl, _, rfl⟩ := h1
    refine ⟨g, 0, rfl, (h.lt g rfl).2, fun i hi => ?_⟩
    obtain ⟨g0, g1, g2⟩ := cellsT_get l i hi
    refine ⟨?_, ?_, ?_⟩
    · rw [Nat.zero_add, h.cellAt (i * 3) (by omega)]; exact g0
    · rw [Nat.zero_add, h.cellAt (i * 3 + 1) (by omega)]; exact g1
    · rw [Nat.zero_add, h.cellAt (i * 3 + 2) (by omega)]; exact g2

/-- The tokens of the first k bytes, and none behind them. -/
def part (s : List UInt8) (k : Nat) : List Tok := (s.take k).map byteT ++ List.replicate (s.length - k) ⟨0, 0, 0⟩
theorem part_length (s : List UInt8) (k : Nat) (h : k ≤ s.length) : (part s k).length = s.length := by simp [part]; omega
theorem part_get (s : List UInt8) (k : Nat) (h : k < s.length) : (part s k)[k]'(by rw [part_length _ _ (by omega)]; exact h) = ⟨0, 0, 0⟩ := by
  have e : (part s k)[k]? = some ⟨0, 0, 0⟩ := by
    unfold part
    rw [List.getElem?_append_right (by simp; omega)]
    simp only [List.getElem?_replicate, List.length_map, List.length_take]
    rw [if_pos (by omega)]
  exact (List.getElem?_eq_some_iff.1 e).2
theorem part_step (s : List UInt8) (k : Nat) (h : k < s.length) : (cellsT (part s k)).set (k * 3) (.int .i64 (s[k].toNat : Nat)) = cellsT (part s (k + 1)) := by
  rw [cellsT_set _ k (by rw [part_length _ _ (by omega)]; exact h), part_get s k h]
  congr 1
  apply List.ext_getElem?
  intro j
  rw [List.getElem?_set, part_length _ _ (by omega)]
  unfold part
  by_cases hj : k = j
  · subst hj
    rw [if_pos rfl, if_pos h, List.getElem?_append_left (by simp; omega)]
    simp [byteT, h]
  · rw [if_neg hj]
    by_cases h1 : j < k
    · rw [List.getElem?_append_left (by simp; omega), List.getElem?_append_left (by simp; omega)]
      simp [h1, show j < k + 1 by omega]
    · rw [List.getElem?_append_right (by simp; omega), List.getElem?_append_right (by simp; omega)]
      simp only [List.getElem?_replicate, List.length_map, List.length_take]
      by_cases h2 : j < s.length
      · rw [if_pos (by omega), if_pos (by omega)]
      · rw [if_neg (by omega), if_neg (by omega)]

set_option maxRecDepth 100000 in
theorem toks_see {H : Type} {enc : TypeId × Value → H} {W : World} {a : Option Addr} {len cap : Nat} {d : DataW H} {p : List MemPlace} (h : DataW.Trod enc Try.prog W 0 (fun _ => true) true 32 (.slice a len cap) d p) :
    ∃ l : List Tok, l.length = len ∧ len ≤ maxLen ∧ IsToks W a l ∧ (a = none → len = 0 ∧ cap = 0) := by
  obtain ⟨fuel, hf⟩ := h
  rcases Go.Deep.open_slice Try.underlying32 hf with ⟨hcs, _⟩ | ⟨x, l, c, m, n, D, Pl, hcs, _, hl, hm, hmm, _, hx⟩
  · simp [Value.cells] at hcs
    obtain ⟨rfl, rfl, rfl⟩ := hcs
    exact ⟨[], rfl, by simp, fun h => by simp at h, fun _ => ⟨rfl, rfl⟩⟩
  · simp [Value.cells] at hcs
    obtain ⟨rfl, rfl, rfl⟩ := hcs
    have h3 : Try.prog.cellsOf 64 = 3 := by kernel_rfl
    rw [h3] at hx
    have key : ∀ i, i < len → ∃ c : Tok, (∀ j : Nat, (h : j < 3) → W.cell? ((x.add (i * 3)).add j) = [Value.int .i64 c.B, .int .i64 c.L, .int .i64 c.D][j]?) := by
      intro i hi
      have him : i < m := by rw [hmm]; simp; omega
      obtain ⟨cs', h1, h2⟩ := hx i him
      obtain ⟨_, hlen, hcell⟩ := World.cells?_some h1
      obtain ⟨y0, y1, y2, n', _, _, g0, g1, g2⟩ := Go.Deep.trod_struct3 Try.underlying64 h2
      obtain ⟨k0, e0, _, w0⟩ := DataW.trod_int Try.underlying3 g0
      obtain ⟨k1, e1, _, w1⟩ := DataW.trod_int Try.underlying3 g1
      obtain ⟨k2, e2, _, w2⟩ := DataW.trod_int Try.underlying3 g2
      have c1 : Try.prog.cellsOf 3 = 1 := by kernel_rfl
      match cs', hlen with
      | [z0, z1, z2], _ =>
        simp [c1] at e0 e1 e2
        subst e0 e1 e2
        exact ⟨⟨k0, k1, k2⟩, fun j hj => hcell j hj⟩
    obtain ⟨A, hA⟩ := Go.Deep.choose_lt (α := Tok) (p := fun i c => (∀ j : Nat, (h : j < 3) → W.cell? ((x.add (i * 3)).add j) = [Value.int .i64 c.B, .int .i64 c.L, .int .i64 c.D][j]?)) key
    refine ⟨(List.range len).map A, by simp, by omega, fun h0 => ?_, fun h => by simp at h⟩
    have h0' : 0 < len := by simpa using h0
    obtain ⟨b, off, spot⟩ := x
    have hspot : spot = none := by
      have := hA 0 h0' 0 (by decide)
      simp at this
      simpa [Addr.add] using World.cell?_spot this
    subst hspot
    have hc : ∀ i, i < len → TokAt W b (off + i * 3) (A i) := fun i hi => by
      have hh := hA i hi
      have e : ∀ j, ((⟨b, off, none⟩ : Addr).add (i * 3)).add j = ⟨b, off + i * 3 + j, none⟩ := fun j => by rw [Go.WideShapes.add_plain, Go.WideShapes.add_plain]
      refine ⟨?_, ?_, ?_⟩
      · have := hh 0 (by decide); rw [e] at this; simpa using this
      · have := hh 1 (by decide); rw [e] at this; simpa using this
      · have := hh 2 (by decide); rw [e] at this; simpa using this
    exact ⟨b, off, rfl, World.block_lt_of_cell? W _ (hc 0 h0').1, fun i hi => by
      have hi' : i < len := by simpa using hi
      simpa using hc i hi'⟩

end Go.Proofs.Ytikfenimgjeplaa.Lz
