/-
  What is known of memory where the program of layer 15 (region) walks: rows of numbers that are read.
-/
import Derived.Test.YtedlhfemmofbpaaRegRefP
import Derived.Test.YtedlhfemmofbpaaRegLay
import Derived.Test.YtedlhfemmofbpaaRegVal
import Derived.Test.YtedlhfemmofbpaaRetCell
import Derived.Laws.MakeOwn
import Derived.Deep.Slices
namespace Go.Proofs.Ytedlhfemmofbpaa.Reg
open Go.ChangeShapes Go.WideShapes Go.ChangeAt Go.RowKit Lz RowG RegVal
set_option linter.unusedVariables false
set_option maxRecDepth 100000

def px (l : List Int) (i : Nat) : Int := l.getD i 0
theorem px_get {l : List Int} {i : Nat} (h : i < l.length) : px l i = l[i] := by
  unfold px
  rw [List.getD_eq_getElem?_getD, List.getElem?_eq_getElem h]; rfl
theorem retI {k : IntKind} {a b : Int} (h : a = b) : Ending.returned (Value.int k a) = Ending.returned (.int k b) := by rw [h]
theorem below_q {B : Nat} {w w' : World} (h : Below B w w') (n : Nat) : Below B w (w'.drewN n) := ⟨h.os, h.tape, h.output, h.size, h.block⟩
/-- One block that was just made. -/
theorem box1 (w : World) (x : Array Value) (T : TypeId) : Below w.heap.size w (w.alloc (.cells x T)) ∧ ∀ i v, x[i]? = some v → (w.alloc (.cells x T)).cell? ⟨w.heap.size, i, none⟩ = some v := by
  refine ⟨(Below.refl _ w).alloc (Nat.le_refl _) _, fun i v h => ?_⟩
  have := heap_alloc_new w (.cells x T)
  simp only [World.cell?, this]
  simpa using h
/-- A row of numbers that is read. -/
def SI (w : World) (v : Value) (l : List Int) : Prop := Sees w 1 v l.length (ints l)
theorem SI.form {w : World} {v : Value} {l : List Int} (h : SI w v l) : ∃ a cap, v = .slice a l.length cap := Sees.form h
theorem SI.below {w w' : World} {v : Value} {l : List Int} (h : SI w v l) (k : Below w.heap.size w w') : SI w' v l := Sees.below h k (Nat.le_refl _)
theorem SI.drewN {w : World} {v : Value} {l : List Int} (h : SI w v l) (n : Nat) : SI (w.drewN n) v l := h
theorem SI.nil (w : World) : SI w (.slice none 0 0) [] := ⟨rfl, fun u hu => by simp [ints] at hu, .inl ⟨rfl, rfl⟩⟩
theorem SI.cells {w : World} {v : Value} {l : List Int} (h : SI w v l) : ∃ a cap, v = .slice a l.length cap ∧ (0 < l.length → ∃ g off, a = some ⟨g, off, none⟩ ∧ g < w.heap.size ∧ ∀ i, i < l.length → w.cell? ⟨g, off + i, none⟩ = some (.int .i64 (px l i))) := by
  rcases h.2.2 with ⟨rfl, h0⟩ | ⟨g, off, cap, rfl, hg, hc⟩
  · exact ⟨none, 0, by rw [h0], fun h => by omega⟩
  · exact ⟨_, cap, rfl, fun _ => ⟨g, off, rfl, hg, fun i hi => by rw [px_get hi]; exact hc i _ (ints_get hi)⟩⟩
/-- The same, of one that is handed in: of an empty one nothing is known but that it is empty. -/
def SW (w : World) (v : Value) (l : List Int) : Prop := ∃ a cap, v = .slice a l.length cap ∧ (a = none → l.length = 0 ∧ cap = 0) ∧ (0 < l.length → ∃ g off, a = some ⟨g, off, none⟩ ∧ g < w.heap.size ∧ ∀ i, i < l.length → w.cell? ⟨g, off + i, none⟩ = some (.int .i64 (px l i)))
/-- A slice's capacity. -/
def Room (v : Value) : Prop := ∀ a n cap, v = .slice a n cap → n ≤ cap
theorem room_of {a : Option Addr} {n cap : Nat} (h : n ≤ cap) : Room (.slice a n cap) := fun _ _ _ e => by cases e; exact h
theorem IntsAt.room {B : Nat} {w : World} {v : Value} {l : List Int} (h : IntsAt B w v l) : Room v := by
  rcases h.1.2 with ⟨rfl, h0⟩ | ⟨g, cap, cur, rfl, _, _, hnc, _⟩
  · exact room_of (Nat.le_refl _)
  · exact room_of hnc
theorem SI.sw {w : World} {v : Value} {l : List Int} (h : SI w v l) : SW w v l := by
  rcases h.2.2 with ⟨rfl, h0⟩ | ⟨g, off, cap, rfl, hg, hc⟩
  · exact ⟨none, 0, by rw [h0], fun _ => ⟨h0, rfl⟩, fun h => by omega⟩
  · exact ⟨_, cap, rfl, fun e => by simp at e, fun _ => ⟨g, off, rfl, hg, fun i hi => by rw [px_get hi]; exact hc i _ (ints_get hi)⟩⟩
theorem SW.below {w w' : World} {v : Value} {l : List Int} (h : SW w v l) (k : Below w.heap.size w w') : SW w' v l := by
  obtain ⟨a, cap, e, hn, hc⟩ := h
  refine ⟨a, cap, e, hn, fun h0 => ?_⟩
  obtain ⟨g, off, e2, hg, hc⟩ := hc h0
  exact ⟨g, off, e2, Nat.lt_of_lt_of_le hg k.size, fun i hi => (k.cell (p := ⟨g, off + i, none⟩) hg).trans (hc i hi)⟩
theorem SW.cells {w : World} {v : Value} {l : List Int} (h : SW w v l) : ∃ a cap, v = .slice a l.length cap ∧ (0 < l.length → ∃ g off, a = some ⟨g, off, none⟩ ∧ g < w.heap.size ∧ ∀ i, i < l.length → w.cell? ⟨g, off + i, none⟩ = some (.int .i64 (px l i))) := by
  obtain ⟨a, cap, e, _, hc⟩ := h
  exact ⟨a, cap, e, hc⟩
theorem SW.lt {w : World} {v : Value} {l : List Int} (h : SW w v l) (h0 : 0 < l.length) : ∀ k, v.ownBlock = some k → k < w.heap.size := by
  obtain ⟨a, cap, rfl, _, hc⟩ := h
  obtain ⟨g, off, rfl, hg, _⟩ := hc h0
  intro k hk
  simp [Value.ownBlock] at hk
  omega
theorem SW.read {w : World} {v : Value} {l : List Int} (h : SW w v l) : ∃ a n cap, v = .slice a n cap ∧ l.length = n ∧ ∀ W', Below w.heap.size w W' → 0 < n → ∃ g off, a = some ⟨g, off, none⟩ ∧ ∀ i, i < n → W'.cell? ⟨g, off + i, none⟩ = some (.int .i64 (px l i)) := by
  obtain ⟨a, cap, rfl, _, hc⟩ := h
  refine ⟨a, l.length, cap, rfl, rfl, fun W' k h0 => ?_⟩
  obtain ⟨g, off, rfl, hg, hc⟩ := hc h0
  exact ⟨g, off, rfl, fun i hi => (k.cell (p := ⟨g, off + i, none⟩) hg).trans (hc i hi)⟩
theorem IntsAt.si {B : Nat} {w : World} {v : Value} {l : List Int} (h : IntsAt B w v l) : SI w v l := RowAt.sees h
/-- What a row has, whatever stands ahead of it. -/
theorem SI.of_cells {w : World} {g off cap : Nat} {l : List Int} (hg : g < w.heap.size) (h : ∀ i, i < l.length → w.cell? ⟨g, off + i, none⟩ = some (.int .i64 (px l i))) : SI w (.slice (some ⟨g, off, none⟩) l.length cap) l := by
  refine ⟨by simp [ints], fun u hu => ?_, .inr ⟨g, off, cap, rfl, hg, fun j u hj => ?_⟩⟩
  · unfold ints at hu
    obtain ⟨x, _, rfl⟩ := List.mem_map.1 hu
    rfl
  · have hl : j < l.length := by
      have := (List.getElem?_eq_some_iff.1 hj).1
      simpa [ints] using this
    rw [h j hl, px_get hl, ← hj, ints_get hl]
theorem SI.lt {w : World} {v : Value} {l : List Int} (h : SI w v l) : ∀ k, v.ownBlock = some k → k < w.heap.size := by
  intro k hk
  rcases h.2.2 with ⟨rfl, _⟩ | ⟨g, off, cap, rfl, hg, _⟩
  · simp [Value.ownBlock] at hk
  · simp [Value.ownBlock] at hk
    omega
/-- Numbers that are numbers of Go. -/
def WFs (l : List Rc) : Prop := ∀ r ∈ l, r.wf
theorem wf_bd {n : Int} (h : (Lit.int .i64 n).wf = true) : -9223372036854775808 ≤ n ∧ n ≤ 9223372036854775807 := by
  simp only [Lit.wf, IntKind.min, IntKind.max, IntKind.signed, IntKind.bits, Bool.and_eq_true, decide_eq_true_eq, if_true] at h
  omega
end Go.Proofs.Ytedlhfemmofbpaa.Reg
