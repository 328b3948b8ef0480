/-
  Rows of rectangles: what is told of one that is handed in, and one that is owned.
-/
import Derived.Test.YtedlhfemmofbpaaRowG
import Derived.Test.YtedlhfemmofbpaaRegMath
import Derived.Laws.MakeOwn
import Derived.Lib.SmallJoins
import Derived.Deep.Slices
namespace Go.Proofs.Ytedlhfemmofbpaa.Reg
open Go.ChangeShapes Go.WideShapes Go.ChangeAt Go.RowKit Lz RowG
set_option linter.unusedVariables false

instance : Inhabited Rc := ⟨⟨0, 0, 0, 0⟩⟩
/-- A rectangle as a value, and as cells. -/
def Rc.v (r : Rc) : Value := .agg #[.int .i64 r.x, .int .i64 r.y, .int .i64 r.w, .int .i64 r.h]
/-- The cells of a rectangle. -/
def RcAt (w : World) (b o : Nat) (r : Rc) : Prop :=
  w.cell? ⟨b, o, none⟩ = some (.int .i64 r.x) ∧ w.cell? ⟨b, o + 1, none⟩ = some (.int .i64 r.y) ∧ w.cell? ⟨b, o + 2, none⟩ = some (.int .i64 r.w) ∧ w.cell? ⟨b, o + 3, none⟩ = some (.int .i64 r.h)
/-- All numbers are an int's. -/
def Rc.wf (r : Rc) : Prop := (Lit.int .i64 r.x).wf = true ∧ (Lit.int .i64 r.y).wf = true ∧ (Lit.int .i64 r.w).wf = true ∧ (Lit.int .i64 r.h).wf = true
/-- What is told of a slice of rectangles. -/
def IsRects (w : World) (a : Option Addr) (l : List Rc) : Prop :=
  0 < l.length → ∃ b off, a = some ⟨b, off, none⟩ ∧ b < w.heap.size ∧ ∀ i (h : i < l.length), RcAt w b (off + i * 4) l[i]

theorem IsRects.below {w w' : World} {a : Option Addr} {l : List Rc} {n : Nat} (h : IsRects w a l) (k : Below n w w') (hn : w.heap.size ≤ n) : IsRects w' a l := by
  intro h0
  obtain ⟨b, off, e, hb, hc⟩ := h h0
  refine ⟨b, off, e, Nat.lt_of_lt_of_le hb k.size, fun i hi => ?_⟩
  obtain ⟨q1, q2, q3, q4⟩ := hc i hi
  exact ⟨(k.cell (by show b < n; omega)).trans q1, (k.cell (by show b < n; omega)).trans q2, (k.cell (by show b < n; omega)).trans q3, (k.cell (by show b < n; omega)).trans q4⟩

theorem info_rect : (Try.prog.info? 32).map (fun i => (i.zero, i.size, i.bytes)) = some (some (.agg #[.int .i64 0, .int .i64 0, .int .i64 0, .int .i64 0]), 4, 32) := by kernel_rfl

/-- Rectangles as cells. -/
def cellsR : List Rc → List Value
  | [] => []
  | t :: l => .int .i64 t.x :: .int .i64 t.y :: .int .i64 t.w :: .int .i64 t.h :: cellsR l

theorem cellsR_length (l : List Rc) : (cellsR l).length = l.length * 4 := by
  induction l with
  | nil => rfl
  | cons t l ih => simp [cellsR, ih]; omega
theorem cellsR_append (l m : List Rc) : cellsR (l ++ m) = cellsR l ++ cellsR m := by
  induction l with
  | nil => rfl
  | cons t l ih => simp [cellsR, ih]
theorem cellsR_one (l : List Rc) : ∀ u ∈ cellsR l, u.oneCell' = true := by
  induction l with
  | nil => intro u hu; simp [cellsR] at hu
  | cons t l ih =>
    intro u hu
    simp only [cellsR, List.mem_cons] at hu
    rcases hu with rfl | rfl | rfl | rfl | h
    · rfl
    · rfl
    · rfl
    · rfl
    · exact ih u h
theorem cellsR_get (l : List Rc) : ∀ i (h : i < l.length), (cellsR l)[i * 4]? = some (.int .i64 l[i].x) ∧ (cellsR l)[i * 4 + 1]? = some (.int .i64 l[i].y) ∧ (cellsR l)[i * 4 + 2]? = some (.int .i64 l[i].w) ∧ (cellsR l)[i * 4 + 3]? = some (.int .i64 l[i].h) := by
  induction l with
  | nil => intro i h; simp at h
  | cons t l ih =>
    intro i h
    cases i with
    | zero => exact ⟨rfl, rfl, rfl, rfl⟩
    | succ i =>
      have := ih i (by simpa using h)
      rw [show (i + 1) * 4 = i * 4 + 4 by omega]
      simpa [cellsR] using this
theorem cellsR_setw (l : List Rc) : ∀ i (h : i < l.length) (b : Int), (cellsR l).set (i * 4 + 2) (.int .i64 b) = cellsR (l.set i ⟨l[i].x, l[i].y, b, l[i].h⟩) := by
  induction l with
  | nil => intro i h; simp at h
  | cons t l ih =>
    intro i h b
    cases i with
    | zero => rfl
    | succ i =>
      have := ih i (by simpa using h) b
      rw [show (i + 1) * 4 + 2 = i * 4 + 2 + 4 by omega]
      simpa [cellsR] using this
theorem cellsR_seth (l : List Rc) : ∀ i (h : i < l.length) (b : Int), (cellsR l).set (i * 4 + 3) (.int .i64 b) = cellsR (l.set i ⟨l[i].x, l[i].y, l[i].w, b⟩) := by
  induction l with
  | nil => intro i h; simp at h
  | cons t l ih =>
    intro i h b
    cases i with
    | zero => rfl
    | succ i =>
      have := ih i (by simpa using h) b
      rw [show (i + 1) * 4 + 3 = i * 4 + 3 + 4 by omega]
      simpa [cellsR] using this

theorem rects_of_row {w : World} {B n cap : Nat} {a : Option Addr} {l : List Rc} (hn : l.length = n) (h : w.ownsRow B 32 4 (.slice a n cap) n (cellsR l)) : IsRects w a l := by
  intro h0
  rcases h.2 with ⟨h1, h2⟩ | ⟨g, cap2, cur, h1, _⟩
  · omega
  · simp only [Value.slice.injEq] at h1
    obtain ⟨rfl, _, rfl⟩ := h1
    refine ⟨g, 0, rfl, (h.lt g rfl).2, fun i hi => ?_⟩
    obtain ⟨g0, g1, g2, g3⟩ := cellsR_get l i hi
    refine ⟨?_, ?_, ?_, ?_⟩
    · rw [Nat.zero_add, h.cellAt (i * 4) (by omega)]; exact g0
    · rw [Nat.zero_add, h.cellAt (i * 4 + 1) (by omega)]; exact g1
    · rw [Nat.zero_add, h.cellAt (i * 4 + 2) (by omega)]; exact g2
    · rw [Nat.zero_add, h.cellAt (i * 4 + 3) (by omega)]; exact g3

/-- A slice of rectangles that is read. -/
def SeesR (w : World) (v : Value) (l : List Rc) : Prop := ∃ a cap, v = .slice a l.length cap ∧ (a = none → l.length = 0 ∧ cap = 0) ∧ IsRects w a l
theorem SeesR.below {w w' : World} {v : Value} {l : List Rc} (h : SeesR w v l) (k : Below w.heap.size w w') : SeesR w' v l := by
  obtain ⟨a, cap, h1, h2, h3⟩ := h
  exact ⟨a, cap, h1, h2, h3.below k (Nat.le_refl _)⟩
theorem SeesR.nil (w : World) : SeesR w (.slice none 0 0) [] := ⟨none, 0, rfl, fun _ => ⟨rfl, rfl⟩, fun h => by simp at h⟩
/-- A row of rectangles that is owned. -/
def RectsAt (B : Nat) (w : World) (v : Value) (l : List Rc) : Prop := RowAt 32 4 B w v l.length (cellsR l)
theorem RectsAt.sees {B : Nat} {w : World} {v : Value} {l : List Rc} (h : RectsAt B w v l) : SeesR w v l := by
  obtain ⟨a, cap, rfl⟩ := RowAt.shape h
  refine ⟨a, cap, rfl, fun e => ?_, rects_of_row rfl h.1⟩
  rcases h.1.2 with ⟨h1, h2⟩ | ⟨g, cap2, cur, h1, _⟩
  · simp only [Value.slice.injEq] at h1
    exact ⟨h2, h1.2.2⟩
  · rw [e] at h1
    simp at h1
/-- A row of numbers that is owned, and one that is read. -/
def IntsAt (B : Nat) (w : World) (v : Value) (l : List Int) : Prop := RowAt 3 1 B w v l.length (ints l)
theorem info_num : (Try.prog.info? 3).map (fun i => (i.zero, i.size, i.bytes)) = some (some (.int .i64 0), 1, 8) := by kernel_rfl
theorem info_parts {P : Program} {e : TypeId} {z : Value} {sz bytes : Nat} (h : (P.info? e).map (fun i => (i.zero, i.size, i.bytes)) = some (some z, sz, bytes)) : ∃ i, P.info? e = some i ∧ i.zero = some z ∧ i.size = sz ∧ i.bytes = bytes := by
  cases hi : P.info? e with
  | none => rw [hi] at h; simp at h
  | some i =>
    rw [hi] at h
    simp at h
    exact ⟨i, rfl, h.1, h.2.1, h.2.2⟩

set_option maxRecDepth 100000 in
theorem rects_see {H : Type} {enc : TypeId × Value → H} {W : World} {a : Option Addr} {len cap : Nat} {d : DataW H} {p : List MemPlace} (h : DataW.Trod enc Try.prog W 0 (fun _ => true) true 22 (.slice a len cap) d p) :
    ∃ l : List Rc, l.length = len ∧ len ≤ maxLen ∧ IsRects W a l ∧ (∀ r ∈ l, r.wf) ∧ (a = none → len = 0 ∧ cap = 0) := by
  obtain ⟨fuel, hf⟩ := h
  rcases Go.Deep.open_slice Try.underlying22 hf with ⟨hcs, _⟩ | ⟨x, l, c, m, n, D, Pl, hcs, _, hl, hm, hmm, _, hx⟩
  · simp [Value.cells] at hcs
    obtain ⟨rfl, rfl, rfl⟩ := hcs
    exact ⟨[], rfl, by simp, fun h => by simp at h, fun r hr => absurd hr (by simp), fun _ => ⟨rfl, rfl⟩⟩
  · simp [Value.cells] at hcs
    obtain ⟨rfl, rfl, rfl⟩ := hcs
    have h4 : Try.prog.cellsOf 32 = 4 := by kernel_rfl
    rw [h4] at hx
    have key : ∀ i, i < len → ∃ c : Rc, c.wf ∧ (∀ j : Nat, (h : j < 4) → W.cell? ((x.add (i * 4)).add j) = [Value.int .i64 c.x, .int .i64 c.y, .int .i64 c.w, .int .i64 c.h][j]?) := by
      intro i hi
      have him : i < m := by rw [hmm]; simp; omega
      obtain ⟨cs', h1, h2⟩ := hx i him
      obtain ⟨_, hlen, hcell⟩ := World.cells?_some h1
      obtain ⟨y0, y1, y2, y3, n', _, _, g0, g1, g2, g3⟩ := Go.Joins.trod_struct4 Try.underlying32 h2
      obtain ⟨k0, e0, f0, w0⟩ := DataW.trod_int Try.underlying3 g0
      obtain ⟨k1, e1, f1, w1⟩ := DataW.trod_int Try.underlying3 g1
      obtain ⟨k2, e2, f2, w2⟩ := DataW.trod_int Try.underlying3 g2
      obtain ⟨k3, e3, f3, w3⟩ := DataW.trod_int Try.underlying3 g3
      have c1 : Try.prog.cellsOf 3 = 1 := by kernel_rfl
      match cs', hlen with
      | [z0, z1, z2, z3], _ =>
        simp [c1] at e0 e1 e2 e3
        subst e0 e1 e2 e3
        exact ⟨⟨k0, k1, k2, k3⟩, ⟨w0, w1, w2, w3⟩, fun j hj => hcell j hj⟩
    obtain ⟨A, hA⟩ := Go.Deep.choose_lt (α := Rc) (p := fun i c => c.wf ∧ (∀ j : Nat, (h : j < 4) → W.cell? ((x.add (i * 4)).add j) = [Value.int .i64 c.x, .int .i64 c.y, .int .i64 c.w, .int .i64 c.h][j]?)) key
    refine ⟨(List.range len).map A, by simp, by omega, fun h0 => ?_, fun r hr => ?_, fun h => by simp at h⟩
    · have h0' : 0 < len := by simpa using h0
      obtain ⟨b, off, spot⟩ := x
      have hspot : spot = none := by
        have := (hA 0 h0').2 0 (by decide)
        simp at this
        simpa [Addr.add] using World.cell?_spot this
      subst hspot
      have hc : ∀ i, i < len → RcAt W b (off + i * 4) (A i) := fun i hi => by
        have hh := (hA i hi).2
        have e : ∀ j, ((⟨b, off, none⟩ : Addr).add (i * 4)).add j = ⟨b, off + i * 4 + j, none⟩ := fun j => by rw [Go.WideShapes.add_plain, Go.WideShapes.add_plain]
        refine ⟨?_, ?_, ?_, ?_⟩
        · have := hh 0 (by decide); rw [e] at this; simpa using this
        · have := hh 1 (by decide); rw [e] at this; simpa using this
        · have := hh 2 (by decide); rw [e] at this; simpa using this
        · have := hh 3 (by decide); rw [e] at this; simpa using this
      exact ⟨b, off, rfl, World.block_lt_of_cell? W _ (hc 0 h0').1, fun i hi => by
        have hi' : i < len := by simpa using hi
        simpa using hc i hi'⟩
    · obtain ⟨i, hi, rfl⟩ := List.mem_map.1 hr
      exact (hA i (by simpa using hi)).1

/-- 'append' of one number, or of one rectangle, that was just built. -/
theorem wpl_int {w0 : World} {ops : Array Oper} {rest : List Oper} {o : Oper} {a : Act} {Q : Exit → Act → World → Prop} (hgd : o.guard = none) (s x : Operand)
    (ho : o.op = .call { callee := .builtin .append, args := #[s, x], argTypes := #[38, 38] })
    (v : Value) (B : Nat) (l : List Int) (hs : a.eval s = v) (hown : IntsAt B w0 v l) (hB : B ≤ w0.heap.size) (hl : l.length ≤ 1000000000) (y : Int) (T : TypeId) (hx : a.eval x = .slice (some ⟨w0.heap.size, 0, none⟩) 1 1)
    (h : ∀ v' w', IntsAt B w' v' (l ++ [y]) → Below B w0 w' → wpList Try.prog ops Q rest (a.put o.dst v') w') : wpList Try.prog ops Q (o :: rest) a (w0.alloc (.cells #[.int .i64 y] T)) := by
  obtain ⟨i0, hi, hz0, hz1, hz2⟩ := info_parts info_num
  refine wpl_grow _ hgd s x 38 ho 3 i0 (.int .i64 0) 1 8 Try.underlying38 hi hz0 hz1 hz2 rfl (by decide) v B l.length (ints l) hs (hown.alloc _) (by simp; omega) 1 [.int .i64 y] _ hx (sees_new w0 1 #[.int .i64 y] T 1 rfl (by intro u hu; simp at hu; subst hu; rfl)) (by unfold maxLen; omega) (by omega) ?_
  intro v' w' h1 h2
  refine h v' w' ?_ (((Below.refl B w0).alloc hB _).trans h2)
  unfold IntsAt
  rw [List.length_append, ints_append]
  exact h1
theorem wpl_rect {w0 : World} {ops : Array Oper} {rest : List Oper} {o : Oper} {a : Act} {Q : Exit → Act → World → Prop} (hgd : o.guard = none) (s x : Operand)
    (ho : o.op = .call { callee := .builtin .append, args := #[s, x], argTypes := #[22, 22] })
    (v : Value) (B : Nat) (l : List Rc) (hs : a.eval s = v) (hown : RectsAt B w0 v l) (hB : B ≤ w0.heap.size) (hl : l.length ≤ 1000000000) (r : Rc) (T : TypeId) (hx : a.eval x = .slice (some ⟨w0.heap.size, 0, none⟩) 1 1)
    (h : ∀ v' w', RectsAt B w' v' (l ++ [r]) → Below B w0 w' → wpList Try.prog ops Q rest (a.put o.dst v') w') : wpList Try.prog ops Q (o :: rest) a (w0.alloc (.cells #[.int .i64 r.x, .int .i64 r.y, .int .i64 r.w, .int .i64 r.h] T)) := by
  obtain ⟨i0, hi, hz0, hz1, hz2⟩ := info_parts info_rect
  refine wpl_grow _ hgd s x 22 ho 32 i0 _ 4 32 Try.underlying22 hi hz0 hz1 hz2 rfl (by decide) v B l.length (cellsR l) hs (hown.alloc _) (by simp; omega) 1 (cellsR [r]) _ hx (sees_new w0 4 #[.int .i64 r.x, .int .i64 r.y, .int .i64 r.w, .int .i64 r.h] T 1 rfl (cellsR_one [r])) (by unfold maxLen; omega) (by omega) ?_
  intro v' w' h1 h2
  refine h v' w' ?_ (((Below.refl B w0).alloc hB _).trans h2)
  unfold RectsAt
  rw [List.length_append, cellsR_append]
  exact h1
/-- 'append' of a slice of rectangles that is read. -/
theorem wpl_rects {w : World} {ops : Array Oper} {rest : List Oper} {o : Oper} {a : Act} {Q : Exit → Act → World → Prop} (hgd : o.guard = none) (s x : Operand)
    (ho : o.op = .call { callee := .builtin .append, args := #[s, x], argTypes := #[22, 22] })
    (v : Value) (B : Nat) (l : List Rc) (hs : a.eval s = v) (hown : RectsAt B w v l) (hB : B ≤ w.heap.size) (u : Value) (m : List Rc) (hx : a.eval x = u) (hm : SeesR w u m) (hl : l.length + m.length ≤ 1000000000)
    (h : ∀ v' w', RectsAt B w' v' (l ++ m) → Below B w w' → wpList Try.prog ops Q rest (a.put o.dst v') w') : wpList Try.prog ops Q (o :: rest) a w := by
  obtain ⟨i0, hi, hz0, hz1, hz2⟩ := info_parts info_rect
  obtain ⟨ad, cap, rfl, hn, hr⟩ := hm
  have done : ∀ v' w', w'.ownsRow 0 32 4 v' (l.length + m.length) (cellsR l ++ cellsR m) → w.grownBy w' v.ownBlock → Near w v v' → wpList Try.prog ops Q rest (a.put o.dst v') w' := by
    intro v' w' h1 h2 h3
    refine h v' w' ?_ (grown_below h2 hown.2.1 hB)
    refine ⟨?_, fun k hk => ?_, cellsR_one _⟩
    · rw [List.length_append, cellsR_append]; exact h1
    · rcases h3 k hk with h4 | h4
      · exact hown.2.1 k h4
      · omega
  cases ad with
  | none =>
    obtain ⟨h0, rfl⟩ := hn rfl
    have hm0 : m = [] := List.length_eq_zero_iff.1 h0
    subst hm0
    refine wpl_append_sees w hgd s x 22 ho 32 i0 _ 4 32 Try.underlying22 hi hz0 hz1 hz2 rfl (by decide) v l.length (cellsR l) hs hown.1 (.slice none 0 0) 0 [] hx ⟨rfl, fun u hu => by simp at hu, .inl ⟨rfl, rfl⟩⟩ (by unfold maxLen; omega) (by omega) fun v' w' h1 h2 h3 => done v' w' h1 h2 h3
  | some ad =>
    refine wpList_append_near w hgd s x 22 ho 32 i0 _ 4 32 Try.underlying22 hi hz0 hz1 hz2 rfl (by decide) v l.length (cellsR l) hs hown.1 ad m.length cap (cellsR m) hx (cellsR_length m) (fun j u hj => ?_) (cellsR_one m) (by unfold maxLen; omega) (by omega) done
    have hj' : j < m.length * 4 := by rw [← cellsR_length]; exact (List.getElem?_eq_some_iff.1 hj).1
    obtain ⟨b, off, e, _, hc⟩ := hr (by omega)
    obtain rfl := Option.some.inj e
    obtain ⟨i, q, hq, rfl⟩ : ∃ i q, q < 4 ∧ j = i * 4 + q := ⟨j / 4, j % 4, Nat.mod_lt _ (by decide), by omega⟩
    have hi' : i < m.length := by omega
    obtain ⟨g0, g1, g2, g3⟩ := cellsR_get m i hi'
    obtain ⟨k0, k1, k2, k3⟩ := hc i hi'
    rw [Go.WideShapes.add_plain]
    obtain rfl | rfl | rfl | rfl : q = 0 ∨ q = 1 ∨ q = 2 ∨ q = 3 := by omega
    · rw [Nat.add_zero] at hj
      rw [g0] at hj; rw [← hj]; exact k0
    · rw [g1] at hj; rw [← hj, ← Nat.add_assoc]; exact k1
    · rw [g2] at hj; rw [← hj, ← Nat.add_assoc]; exact k2
    · rw [g3] at hj; rw [← hj, ← Nat.add_assoc]; exact k3
/-- The same, with what is known of where the row lies. -/
theorem wpl_rects2 {w : World} {ops : Array Oper} {rest : List Oper} {o : Oper} {a : Act} {Q : Exit → Act → World → Prop} (hgd : o.guard = none) (s x : Operand)
    (ho : o.op = .call { callee := .builtin .append, args := #[s, x], argTypes := #[22, 22] })
    (v : Value) (B : Nat) (l : List Rc) (hs : a.eval s = v) (hown : RectsAt B w v l) (hB : B ≤ w.heap.size) (u : Value) (m : List Rc) (hx : a.eval x = u) (hm : SeesR w u m) (hl : l.length + m.length ≤ 1000000000)
    (h : ∀ v' w', RectsAt B w' v' (l ++ m) → Below B w w' → w.grownBy w' v.ownBlock → Near w v v' → wpList Try.prog ops Q rest (a.put o.dst v') w') : wpList Try.prog ops Q (o :: rest) a w := by
  obtain ⟨i0, hi, hz0, hz1, hz2⟩ := info_parts info_rect
  obtain ⟨ad, cap, rfl, hn, hr⟩ := hm
  have done : ∀ v' w', w'.ownsRow 0 32 4 v' (l.length + m.length) (cellsR l ++ cellsR m) → w.grownBy w' v.ownBlock → Near w v v' → wpList Try.prog ops Q rest (a.put o.dst v') w' := by
    intro v' w' h1 h2 h3
    refine h v' w' ?_ (grown_below h2 hown.2.1 hB) h2 h3
    refine ⟨?_, fun k hk => ?_, cellsR_one _⟩
    · rw [List.length_append, cellsR_append]; exact h1
    · rcases h3 k hk with h4 | h4
      · exact hown.2.1 k h4
      · omega
  cases ad with
  | none =>
    obtain ⟨h0, rfl⟩ := hn rfl
    have hm0 : m = [] := List.length_eq_zero_iff.1 h0
    subst hm0
    refine wpl_append_sees w hgd s x 22 ho 32 i0 _ 4 32 Try.underlying22 hi hz0 hz1 hz2 rfl (by decide) v l.length (cellsR l) hs hown.1 (.slice none 0 0) 0 [] hx ⟨rfl, fun u hu => by simp at hu, .inl ⟨rfl, rfl⟩⟩ (by unfold maxLen; omega) (by omega) fun v' w' h1 h2 h3 => done v' w' h1 h2 h3
  | some ad =>
    refine wpList_append_near w hgd s x 22 ho 32 i0 _ 4 32 Try.underlying22 hi hz0 hz1 hz2 rfl (by decide) v l.length (cellsR l) hs hown.1 ad m.length cap (cellsR m) hx (cellsR_length m) (fun j u hj => ?_) (cellsR_one m) (by unfold maxLen; omega) (by omega) done
    have hj' : j < m.length * 4 := by rw [← cellsR_length]; exact (List.getElem?_eq_some_iff.1 hj).1
    obtain ⟨b, off, e, _, hc⟩ := hr (by omega)
    obtain rfl := Option.some.inj e
    obtain ⟨i, q, hq, rfl⟩ : ∃ i q, q < 4 ∧ j = i * 4 + q := ⟨j / 4, j % 4, Nat.mod_lt _ (by decide), by omega⟩
    have hi' : i < m.length := by omega
    obtain ⟨g0, g1, g2, g3⟩ := cellsR_get m i hi'
    obtain ⟨k0, k1, k2, k3⟩ := hc i hi'
    rw [Go.WideShapes.add_plain]
    obtain rfl | rfl | rfl | rfl : q = 0 ∨ q = 1 ∨ q = 2 ∨ q = 3 := by omega
    · rw [Nat.add_zero] at hj
      rw [g0] at hj; rw [← hj]; exact k0
    · rw [g1] at hj; rw [← hj, ← Nat.add_assoc]; exact k1
    · rw [g2] at hj; rw [← hj, ← Nat.add_assoc]; exact k2
    · rw [g3] at hj; rw [← hj, ← Nat.add_assoc]; exact k3
theorem eval_tmp {a : Act} {t : Tmp} {v : Value} (h : a.tmps[t]? = some v) : a.eval (.tmp t) = v := by
  show a.tmps.getD t undef = v
  rw [Array.getD_eq_getD_getElem?, h]
  rfl
/-- The same, as one operation of a region in open order. -/
theorem wp_rect1 {w0 : World} {o : Oper} {a : Act} {K : Act → World → Prop} {Q : Exit → Act → World → Prop} (s x : Operand)
    (ho : o.op = .call { callee := .builtin .append, args := #[s, x], argTypes := #[22, 22] })
    (v : Value) (B n : Nat) (l : List Rc) (hs : a.eval s = v) (hown : RowAt 32 4 B w0 v n (cellsR l)) (hB : B ≤ w0.heap.size) (hl : n ≤ 1000000000) (r : Rc) (T : TypeId) (hx : a.eval x = .slice (some ⟨w0.heap.size, 0, none⟩) 1 1)
    (h : ∀ v' w', RectsAt B w' v' (l ++ [r]) → Below B w0 w' → K (a.put o.dst v') w') : o.wp Try.prog a (w0.alloc (.cells #[.int .i64 r.x, .int .i64 r.y, .int .i64 r.w, .int .i64 r.h] T)) K Q := by
  obtain ⟨i0, hi, hz0, hz1, hz2⟩ := info_parts info_rect
  have hsee := sees_new w0 4 #[.int .i64 r.x, .int .i64 r.y, .int .i64 r.w, .int .i64 r.h] T 1 rfl (cellsR_one [r])
  rcases hsee.2.2 with ⟨h1, _⟩ | ⟨g, off, cap, h1, _, hc⟩
  · simp at h1
  · simp only [Value.slice.injEq, Option.some.injEq, Addr.mk.injEq, and_true, true_and] at h1
    obtain ⟨⟨rfl, rfl⟩, rfl⟩ := h1
    refine wp_append_near s x 22 ho 32 i0 _ 4 32 Try.underlying22 hi hz0 hz1 hz2 rfl (by decide) v n (cellsR l) hs (hown.alloc _).1 ⟨w0.heap.size, 0, none⟩ 1 1 (cellsR [r]) hx rfl (fun j u hj => by rw [Go.WideShapes.add_plain]; exact hc j u hj) (cellsR_one [r]) (by unfold maxLen; omega) (by omega) ?_
    intro v' w' h1 h2 h3
    refine h v' w' ⟨?_, fun k hk => ?_, cellsR_one _⟩ (((Below.refl B w0).alloc hB _).trans (grown_below h2 hown.2.1 (by simp; omega)))
    · have e : n = l.length := by have := hown.1.1; rw [cellsR_length] at this; omega
      rw [List.length_append, cellsR_append, ← e]
      exact h1
    · rcases h3 k hk with h4 | h4
      · exact hown.2.1 k h4
      · simp at h4; omega
end Go.Proofs.Ytedlhfemmofbpaa.Reg
