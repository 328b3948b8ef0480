/-
  Rows of numbers, owned and read: for the layers that know no rectangles.
-/
import Derived.Test.YtmjjbapahgejmaaAllRow17
import Derived.Laws.MakeOwn
import Derived.Deep.Slices
import Derived.WalkKit
import Derived.Deep.DeepCutAuto
namespace Go.Proofs.Ytmjjbapahgejmaa.Pln
open Go.ChangeShapes Go.WideShapes Go.ChangeAt Go.RowKit Lz RowG RegVal
set_option linter.unusedVariables false
set_option maxRecDepth 100000

/-- A row of so many numbers; a number of a row. -/
def gen (n : Nat) (F : Nat → Int) : List Int := (List.range n).map F
def px (l : List Int) (i : Nat) : Int := l.getD i 0
theorem gen_length (n : Nat) (F : Nat → Int) : (gen n F).length = n := by simp [gen]
theorem gen_succ (n : Nat) (F : Nat → Int) : gen (n + 1) F = gen n F ++ [F n] := by simp [gen, List.range_succ]
theorem px_gen {n : Nat} {F : Nat → Int} {i : Nat} (h : i < n) : px (gen n F) i = F i := by
  unfold px gen
  rw [List.getD_eq_getElem?_getD, List.getElem?_map, List.getElem?_range h]
  rfl
theorem px_get {l : List Int} {i : Nat} (h : i < l.length) : px l i = l[i] := by
  unfold px
  rw [List.getD_eq_getElem?_getD, List.getElem?_eq_getElem h]; rfl
theorem row_ext {l m : List Int} (hl : l.length = m.length) (h : ∀ i, i < l.length → px l i = px m i) : l = m := by
  apply List.ext_getElem hl
  intro i h1 h2
  have := h i h1
  rwa [px_get h1, px_get h2] at this
theorem gen_px (l : List Int) : gen l.length (px l) = l :=
  row_ext (gen_length _ _) (fun i hi => px_gen (by rwa [gen_length] at hi))
theorem gen_congr {n : Nat} {F G : Nat → Int} (h : ∀ i, i < n → F i = G i) : gen n F = gen n G := by
  unfold gen
  exact List.map_congr_left (fun i hi => h i (List.mem_range.1 hi))
/-- A row of numbers that is owned, and one that is read. -/
def IntsAt (B : Nat) (w : World) (v : Value) (l : List Int) : Prop := RowAt 3 1 B w v l.length (ints l)
theorem info_num : (Try.prog.info? 3).map (fun i => (i.zero, i.size, i.bytes)) = some (some (.int .i64 0), 1, 8) := by kernel_rfl
theorem info_parts {P : Program} {e : TypeId} {z : Value} {sz bytes : Nat} (h : (P.info? e).map (fun i => (i.zero, i.size, i.bytes)) = some (some z, sz, bytes)) : ∃ i, P.info? e = some i ∧ i.zero = some z ∧ i.size = sz ∧ i.bytes = bytes := by
  cases hi : P.info? e with
  | none => rw [hi] at h; simp at h
  | some i =>
    rw [hi] at h
    simp at h
    exact ⟨i, rfl, h.1, h.2.1, h.2.2⟩
/-- 'append' of one number, or of one rectangle, that was just built. -/
theorem wpl_int {w0 : World} {ops : Array Oper} {rest : List Oper} {o : Oper} {a : Act} {Q : Exit → Act → World → Prop} (hgd : o.guard = none) (s x : Operand)
    (ho : o.op = .call { callee := .builtin .append, args := #[s, x], argTypes := #[22, 22] })
    (v : Value) (B : Nat) (l : List Int) (hs : a.eval s = v) (hown : IntsAt B w0 v l) (hB : B ≤ w0.heap.size) (hl : l.length ≤ 1000000000) (y : Int) (T : TypeId) (hx : a.eval x = .slice (some ⟨w0.heap.size, 0, none⟩) 1 1)
    (h : ∀ v' w', IntsAt B w' v' (l ++ [y]) → Below B w0 w' → wpList Try.prog ops Q rest (a.put o.dst v') w') : wpList Try.prog ops Q (o :: rest) a (w0.alloc (.cells #[.int .i64 y] T)) := by
  obtain ⟨i0, hi, hz0, hz1, hz2⟩ := info_parts info_num
  refine wpl_grow _ hgd s x 22 ho 3 i0 (.int .i64 0) 1 8 Try.underlying22 hi hz0 hz1 hz2 rfl (by decide) v B l.length (ints l) hs (hown.alloc _) (by simp; omega) 1 [.int .i64 y] _ hx (sees_new w0 1 #[.int .i64 y] T 1 rfl (by intro u hu; simp at hu; subst hu; rfl)) (by unfold maxLen; omega) (by omega) ?_
  intro v' w' h1 h2
  refine h v' w' ?_ (((Below.refl B w0).alloc hB _).trans h2)
  unfold IntsAt
  rw [List.length_append, ints_append]
  exact h1
theorem eval_tmp {a : Act} {t : Tmp} {v : Value} (h : a.tmps[t]? = some v) : a.eval (.tmp t) = v := by
  show a.tmps.getD t undef = v
  rw [Array.getD_eq_getD_getElem?, h]
  rfl
theorem retB {a b : Bool} (h : a = b) : Ending.returned (Value.bool a) = Ending.returned (.bool b) := by rw [h]
theorem retI {k : IntKind} {a b : Int} (h : a = b) : Ending.returned (Value.int k a) = Ending.returned (.int k b) := by rw [h]
theorem valN {k : IntKind} {a b : Int} (h : a = b) : Value.int k a = Value.int k b := by rw [h]
theorem alloc_size (w : World) (o : Obj) : (w.alloc o).heap.size = w.heap.size + 1 := by simp [World.alloc, -World.alloc_eq]
theorem below_q {B : Nat} {w w' : World} (h : Below B w w') (n : Nat) : Below B w (w'.drewN n) := ⟨h.os, h.tape, h.output, h.size, h.block⟩
theorem below_n {w a b : World} (h : Below w.heap.size w a) (k : Below a.heap.size a b) : Below w.heap.size w b := h.trans (k.mono h.size)
/-- One block that was just made. -/
theorem box1 (w : World) (x : Array Value) (T : TypeId) : Below w.heap.size w (w.alloc (.cells x T)) ∧ ∀ i v, x[i]? = some v → (w.alloc (.cells x T)).cell? ⟨w.heap.size, i, none⟩ = some v := by
  refine ⟨(Below.refl _ w).alloc (Nat.le_refl _) _, fun i v h => ?_⟩
  have := heap_alloc_new w (.cells x T)
  simp only [World.cell?, this]
  simpa using h
/-- A row of numbers that is read. -/
def SI (w : World) (v : Value) (l : List Int) : Prop := Sees w 1 v l.length (ints l)
theorem SI.form {w : World} {v : Value} {l : List Int} (h : SI w v l) : ∃ a cap, v = .slice a l.length cap := Sees.form h
theorem SI.below {w w' : World} {v : Value} {l : List Int} (h : SI w v l) (k : Below w.heap.size w w') : SI w' v l := Sees.below h k (Nat.le_refl _)
theorem SI.drewN {w : World} {v : Value} {l : List Int} (h : SI w v l) (n : Nat) : SI (w.drewN n) v l := h
theorem SI.nil (w : World) : SI w (.slice none 0 0) [] := ⟨rfl, fun u hu => by simp [ints] at hu, .inl ⟨rfl, rfl⟩⟩
theorem SI.cells {w : World} {v : Value} {l : List Int} (h : SI w v l) : ∃ a cap, v = .slice a l.length cap ∧ (0 < l.length → ∃ g off, a = some ⟨g, off, none⟩ ∧ g < w.heap.size ∧ ∀ i, i < l.length → w.cell? ⟨g, off + i, none⟩ = some (.int .i64 (px l i))) := by
  rcases h.2.2 with ⟨rfl, h0⟩ | ⟨g, off, cap, rfl, hg, hc⟩
  · exact ⟨none, 0, by rw [h0], fun h => by omega⟩
  · exact ⟨_, cap, rfl, fun _ => ⟨g, off, rfl, hg, fun i hi => by rw [px_get hi]; exact hc i _ (ints_get hi)⟩⟩
/-- The same, of one that is handed in: of an empty one nothing is known but that it is empty. -/
def SW (w : World) (v : Value) (l : List Int) : Prop := ∃ a cap, v = .slice a l.length cap ∧ (a = none → l.length = 0 ∧ cap = 0) ∧ (0 < l.length → ∃ g off, a = some ⟨g, off, none⟩ ∧ g < w.heap.size ∧ ∀ i, i < l.length → w.cell? ⟨g, off + i, none⟩ = some (.int .i64 (px l i)))
/-- A slice's capacity. -/
def Room (v : Value) : Prop := ∀ a n cap, v = .slice a n cap → n ≤ cap
theorem room_of {a : Option Addr} {n cap : Nat} (h : n ≤ cap) : Room (.slice a n cap) := fun _ _ _ e => by cases e; exact h
theorem IntsAt.room {B : Nat} {w : World} {v : Value} {l : List Int} (h : IntsAt B w v l) : Room v := by
  rcases h.1.2 with ⟨rfl, h0⟩ | ⟨g, cap, cur, rfl, _, _, hnc, _⟩
  · exact room_of (Nat.le_refl _)
  · exact room_of hnc
theorem SI.sw {w : World} {v : Value} {l : List Int} (h : SI w v l) : SW w v l := by
  rcases h.2.2 with ⟨rfl, h0⟩ | ⟨g, off, cap, rfl, hg, hc⟩
  · exact ⟨none, 0, by rw [h0], fun _ => ⟨h0, rfl⟩, fun h => by omega⟩
  · exact ⟨_, cap, rfl, fun e => by simp at e, fun _ => ⟨g, off, rfl, hg, fun i hi => by rw [px_get hi]; exact hc i _ (ints_get hi)⟩⟩
theorem SW.below {w w' : World} {v : Value} {l : List Int} (h : SW w v l) (k : Below w.heap.size w w') : SW w' v l := by
  obtain ⟨a, cap, e, hn, hc⟩ := h
  refine ⟨a, cap, e, hn, fun h0 => ?_⟩
  obtain ⟨g, off, e2, hg, hc⟩ := hc h0
  exact ⟨g, off, e2, Nat.lt_of_lt_of_le hg k.size, fun i hi => (k.cell (p := ⟨g, off + i, none⟩) hg).trans (hc i hi)⟩
theorem SW.cells {w : World} {v : Value} {l : List Int} (h : SW w v l) : ∃ a cap, v = .slice a l.length cap ∧ (0 < l.length → ∃ g off, a = some ⟨g, off, none⟩ ∧ g < w.heap.size ∧ ∀ i, i < l.length → w.cell? ⟨g, off + i, none⟩ = some (.int .i64 (px l i))) := by
  obtain ⟨a, cap, e, _, hc⟩ := h
  exact ⟨a, cap, e, hc⟩
theorem SW.lt {w : World} {v : Value} {l : List Int} (h : SW w v l) (h0 : 0 < l.length) : ∀ k, v.ownBlock = some k → k < w.heap.size := by
  obtain ⟨a, cap, rfl, _, hc⟩ := h
  obtain ⟨g, off, rfl, hg, _⟩ := hc h0
  intro k hk
  simp [Value.ownBlock] at hk
  omega
theorem SW.read {w : World} {v : Value} {l : List Int} (h : SW w v l) : ∃ a n cap, v = .slice a n cap ∧ l.length = n ∧ ∀ W', Below w.heap.size w W' → 0 < n → ∃ g off, a = some ⟨g, off, none⟩ ∧ ∀ i, i < n → W'.cell? ⟨g, off + i, none⟩ = some (.int .i64 (px l i)) := by
  obtain ⟨a, cap, rfl, _, hc⟩ := h
  refine ⟨a, l.length, cap, rfl, rfl, fun W' k h0 => ?_⟩
  obtain ⟨g, off, rfl, hg, hc⟩ := hc h0
  exact ⟨g, off, rfl, fun i hi => (k.cell (p := ⟨g, off + i, none⟩) hg).trans (hc i hi)⟩
theorem IntsAt.si {B : Nat} {w : World} {v : Value} {l : List Int} (h : IntsAt B w v l) : SI w v l := RowAt.sees h
/-- What a row has, whatever stands ahead of it. -/
theorem SI.of_cells {w : World} {g off cap : Nat} {l : List Int} (hg : g < w.heap.size) (h : ∀ i, i < l.length → w.cell? ⟨g, off + i, none⟩ = some (.int .i64 (px l i))) : SI w (.slice (some ⟨g, off, none⟩) l.length cap) l := by
  refine ⟨by simp [ints], fun u hu => ?_, .inr ⟨g, off, cap, rfl, hg, fun j u hj => ?_⟩⟩
  · unfold ints at hu
    obtain ⟨x, _, rfl⟩ := List.mem_map.1 hu
    rfl
  · have hl : j < l.length := by
      have := (List.getElem?_eq_some_iff.1 hj).1
      simpa [ints] using this
    rw [h j hl, px_get hl, ← hj, ints_get hl]
theorem SI.lt {w : World} {v : Value} {l : List Int} (h : SI w v l) : ∀ k, v.ownBlock = some k → k < w.heap.size := by
  intro k hk
  rcases h.2.2 with ⟨rfl, _⟩ | ⟨g, off, cap, rfl, hg, _⟩
  · simp [Value.ownBlock] at hk
  · simp [Value.ownBlock] at hk
    omega
end Go.Proofs.Ytmjjbapahgejmaa.Pln
