/-
  Rows that were made behind a base, grown by 'append'; slices that are read: of any element type. Nothing of the program is named here.
-/
import Derived.Test.YtbdlmcpdplmdnaaLzRow
namespace Go.Proofs.Ytbdlmcpdplmdnaa.RowG
open Go Lz
open Go.ChangeShapes Go.WideShapes Go.ChangeAt Go.RowKit
set_option linter.unusedVariables false

/-- The value v owns the row, behind B. -/
def RowAt (e : TypeId) (sz B : Nat) (w : World) (v : Value) (n : Nat) (xs : List Value) : Prop := w.ownsRow 0 e sz v n xs ∧ (∀ k, v.ownBlock = some k → B ≤ k) ∧ ∀ u ∈ xs, u.oneCell' = true
theorem RowAt.nil (e : TypeId) (sz B : Nat) (w : World) : RowAt e sz B w (.slice none 0 0) 0 [] := ⟨World.ownsRow_nil _ _ _ _, fun k hk => by simp [Value.ownBlock] at hk, fun u hu => by simp at hu⟩
theorem RowAt.alloc {e : TypeId} {sz B n : Nat} {w : World} {v : Value} {xs : List Value} (h : RowAt e sz B w v n xs) (o : Obj) : RowAt e sz B (w.alloc o) v n xs := ⟨World.ownsRow.alloc h.1 o, h.2⟩
theorem own_block {w w' : World} {e : TypeId} {sz n : Nat} {v : Value} {xs : List Value} (h : w.ownsRow 0 e sz v n xs) (hk : ∀ k, v.ownBlock = some k → w'.heap[k]? = w.heap[k]?) : w'.ownsRow 0 e sz v n xs := by
  refine ⟨h.1, ?_⟩
  rcases h.2 with h1 | ⟨g, cap, cur, rfl, h1, hg, h2⟩
  · exact .inl h1
  · exact .inr ⟨g, cap, cur, rfl, h1, by rw [hk g rfl]; exact hg, h2⟩
theorem RowAt.below {e : TypeId} {sz B n : Nat} {w w' : World} {v : Value} {xs : List Value} (h : RowAt e sz B w v n xs) (k : Below w.heap.size w w') : RowAt e sz B w' v n xs :=
  ⟨own_block h.1 fun i hi => k.block i (World.ownsRow.lt h.1 i hi).2, h.2⟩
theorem RowAt.base {e : TypeId} {sz B C n : Nat} {w : World} {v : Value} {xs : List Value} (h : RowAt e sz B w v n xs) (hC : C ≤ B) : RowAt e sz C w v n xs := ⟨h.1, fun k hk => Nat.le_trans hC (h.2.1 k hk), h.2.2⟩
theorem RowAt.size {e : TypeId} {sz B n : Nat} {w : World} {v : Value} {xs : List Value} (h : RowAt e sz B w v n xs) : xs.length = n * sz := h.1.1
theorem RowAt.shape {e : TypeId} {sz B n : Nat} {w : World} {v : Value} {xs : List Value} (h : RowAt e sz B w v n xs) : ∃ a cap, v = .slice a n cap := by
  rcases h.1.2 with ⟨rfl, h0⟩ | ⟨g, cap, cur, rfl, _⟩
  · exact ⟨none, 0, by rw [h0]⟩
  · exact ⟨_, cap, rfl⟩
/-- A row that is owned is a slice that is read. -/
theorem RowAt.sees {e : TypeId} {sz B n : Nat} {w : World} {v : Value} {xs : List Value} (h : RowAt e sz B w v n xs) : Sees w sz v n xs := by
  refine ⟨h.1.1, h.2.2, ?_⟩
  rcases h.1.2 with ⟨rfl, h0⟩ | ⟨g, cap, cur, rfl, _, hg, _⟩
  · exact .inl ⟨rfl, h0⟩
  · refine .inr ⟨g, 0, cap, rfl, (Array.getElem?_eq_some_iff.1 hg).1, fun j u hj => ?_⟩
    have hl : j < xs.length := (List.getElem?_eq_some_iff.1 hj).1
    have hs := h.1.1
    rw [Nat.zero_add, World.ownsRow.cellAt h.1 j (by omega)]
    exact hj
theorem grown_below {w w' : World} {B : Nat} {row : Option Nat} (h : w.grownBy w' row) (hr : ∀ k, row = some k → B ≤ k) (hB : B ≤ w.heap.size) : Below B w w' :=
  ⟨h.os, h.tape, h.output, h.size, fun i hi => h.block i (by omega) fun e => by have := hr i e.symm; omega⟩
/-- 'append' of one that was just made. -/
theorem wpl_grow {P : Program} (w : World) {ops : Array Oper} {rest : List Oper} {o : Oper} {a : Act} {Q : Exit → Act → World → Prop} (hgd : o.guard = none) (s x : Operand) (t : TypeId)
    (ho : o.op = .call { callee := .builtin .append, args := #[s, x], argTypes := #[t, t] })
    (e : TypeId) (i : TypeInfo) (z : Value) (sz bytes : Nat) (ht : P.underlying t = some (.slice e)) (hi : P.info? e = some i) (hz : i.zero = some z)
    (hsize : i.size = sz) (hby : i.bytes = bytes) (hzs : z.cells.size = sz) (hsz : 0 < sz)
    (v : Value) (B n : Nat) (xs : List Value) (hs : a.eval s = v) (hown : RowAt e sz B w v n xs) (hB : B ≤ w.heap.size)
    (m : Nat) (cs : List Value) (src : Value) (hx : a.eval x = src) (hsee : Sees w sz src m cs)
    (h63 : n + m ≤ maxLen) (hbytes : (n + m) * bytes ≤ 140737488355328)
    (h : ∀ v' w', RowAt e sz B w' v' (n + m) (xs ++ cs) → Below B w w' → wpList P ops Q rest (a.put o.dst v') w') : wpList P ops Q (o :: rest) a w := by
  refine wpl_append_sees w hgd s x t ho e i z sz bytes ht hi hz hsize hby hzs hsz v n xs hs hown.1 src m cs hx hsee h63 hbytes ?_
  intro v' w' h1 h2 h3
  refine h v' w' ⟨h1, fun k hk => ?_, fun u hu => ?_⟩ (grown_below h2 hown.2.1 hB)
  · rcases h3 k hk with h4 | h4
    · exact hown.2.1 k h4
    · omega
  · rcases List.mem_append.1 hu with hu | hu
    · exact hown.2.2 u hu
    · exact hsee.2.1 u hu
/-- A slice that was just built. -/
theorem sees_new (w : World) (sz : Nat) (cs : Array Value) (T : TypeId) (m : Nat) (hm : cs.size = m * sz) (h1 : ∀ u ∈ cs.toList, u.oneCell' = true) : Sees (w.alloc (.cells cs T)) sz (.slice (some ⟨w.heap.size, 0, none⟩) m m) m cs.toList := by
  refine ⟨by simpa using hm, h1, .inr ⟨w.heap.size, 0, m, rfl, by simp, fun j u hj => ?_⟩⟩
  rw [Nat.zero_add]
  have := heap_alloc_new w (.cells cs T)
  simp only [World.cell?, this]
  simpa using hj
/-- Rows of numbers. -/
def ints (l : List Int) : List Value := l.map (Value.int .i64)
theorem ints_length (l : List Int) : (ints l).length = l.length := by simp [ints]
theorem ints_append (l m : List Int) : ints (l ++ m) = ints l ++ ints m := by simp [ints]
theorem ints_get {l : List Int} {i : Nat} (h : i < l.length) : (ints l)[i]? = some (.int .i64 l[i]) := by simp [ints, h]
/-- A cell of an owned row is written. -/
theorem RowAt.setCell {e : TypeId} {sz B n g cap : Nat} {w : World} {xs : List Value} (h : RowAt e sz B w (.slice (some ⟨g, 0, none⟩) n cap) n xs) {j : Nat} (hj : j < n * sz) {u : Value} (hu : u.oneCell' = true) :
    RowAt e sz B (w.setCell ⟨g, j, none⟩ u) (.slice (some ⟨g, 0, none⟩) n cap) n (xs.set j u) := by
  obtain ⟨⟨h1, h2⟩, h3, h4⟩ := h
  refine ⟨⟨by rw [List.length_set]; exact h1, ?_⟩, h3, fun v hv => ?_⟩
  · rcases h2 with ⟨h5, _⟩ | ⟨g', cap', cur, h5, hb, hg, hnc, hcm, hcs, ht⟩
    · simp at h5
    · simp only [Value.slice.injEq, Option.some.injEq, Addr.mk.injEq, true_and, and_true] at h5
      obtain ⟨rfl, rfl⟩ := h5
      refine .inr ⟨g, cap, cur.setIfInBounds j u, rfl, hb, heap_setCell_same w g j _ _ u hg, hnc, hcm, by simpa using hcs, ?_⟩
      rw [← ht, Array.toList_setIfInBounds, List.take_set]
  · rcases List.mem_or_eq_of_mem_set hv with h6 | h6
    · exact h4 v h6
    · rw [h6]; exact hu
theorem RowAt.block {e : TypeId} {sz B n g cap : Nat} {w : World} {xs : List Value} (h : RowAt e sz B w (.slice (some ⟨g, 0, none⟩) n cap) n xs) : B ≤ g ∧ g < w.heap.size ∧ (∀ j u, xs[j]? = some u → w.cell? ⟨g, j, none⟩ = some u) ∧ ∀ j, w.frozen? ⟨g, j, none⟩ = false := by
  have hb := h.2.1 g rfl
  obtain ⟨⟨h1, h2⟩, h3, h4⟩ := h
  rcases h2 with ⟨h5, _⟩ | ⟨g', cap', cur, h5, _, hg, hnc, hcm, hcs, ht⟩
  · simp at h5
  · simp only [Value.slice.injEq, Option.some.injEq, Addr.mk.injEq, true_and, and_true] at h5
    obtain ⟨rfl, rfl⟩ := h5
    refine ⟨hb, (Array.getElem?_eq_some_iff.1 hg).1, fun j u hj => ?_, fun j => frozen_of_row w g j _ _ hg⟩
    have hl : j < xs.length := (List.getElem?_eq_some_iff.1 hj).1
    exact (World.ownsRow.cellAt (base := 0) ⟨h1, .inr ⟨g, cap, cur, rfl, Nat.zero_le _, hg, hnc, hcm, hcs, ht⟩⟩ j (by omega)).trans hj
end Go.Proofs.Ytbdlmcpdplmdnaa.RowG
