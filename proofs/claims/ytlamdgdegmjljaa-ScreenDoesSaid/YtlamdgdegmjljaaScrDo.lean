/-
  A screen and the reference's image side by side: what an act does to both.
-/
import Derived.Test.YtlamdgdegmjljaaScrOver
import Derived.Test.YtlamdgdegmjljaaScrSays
namespace Go.Proofs.Ytlamdgdegmjljaa.Scr
open Go.ChangeShapes Go.WideShapes Go.ChangeAt Go.RowKit Lz RowG RegVal Reg
set_option linter.unusedVariables false
set_option maxRecDepth 100000

/-- A screen, and a variable at M with an image that is the same. -/
structure Scene (S : Lies) (W w : World) (b M : Nat) (X Y : Int) (l : List Int) (F : List Nat) (v : Value) : Prop where
  s : S w b X Y l F
  m : VarAt w M X Y v
  row : SI w v l
  nf : ∀ i ∈ F, W.heap.size ≤ i
  mf : M ∉ F
  mW : W.heap.size ≤ M
  off : Off v F
  nm : ∀ k, v.ownBlock = some k → k ≠ M
  bel : Below W.heap.size W w
theorem Scene.below {S : Lies} (D : Says S) {W w w' : World} {b M : Nat} {X Y : Int} {l : List Int} {F : List Nat} {v : Value} (h : Scene S W w b M X Y l F v) (k : Below w.heap.size w w') : Scene S W w' b M X Y l F v :=
  ⟨D.stay h.s k, h.m.below k h.m.lt, h.row.below k, h.nf, h.mf, h.mW, h.off, h.nm, h.bel.trans (k.mono h.bel.size)⟩
/-- Cells of a block that none of them is. -/
def Cells (w : World) (p : Nat) (c : List Value) : Prop := ∀ j u, c[j]? = some u → w.cell? ⟨p, j, none⟩ = some u
theorem Cells.below {w w' : World} {p : Nat} {c : List Value} {n : Nat} (h : Cells w p c) (k : Below n w w') (hp : p < n) : Cells w' p c := fun j u hj => (k.cell (p := ⟨p, j, none⟩) hp).trans (h j u hj)
theorem Cells.touch {w w' : World} {p : Nat} {c : List Value} {F : List Nat} (h : Cells w p c) (k : Touch w w' F) (hp : p < w.heap.size) (hF : p ∉ F) : Cells w' p c := fun j u hj => by
  have e := k.block p hp hF
  rw [← h j u hj]
  simp only [World.cell?, e]
/-- Behind the program's act: the screen is another, the image is as it was. -/
structure Half (S : Lies) (W w : World) (b M : Nat) (X Y : Int) (l : List Int) (X' Y' : Int) (l' : List Int) (F : List Nat) (v : Value) : Prop where
  s : S w b X' Y' l' F
  m : VarAt w M X Y v
  row : SI w v l
  nf : ∀ i ∈ F, W.heap.size ≤ i
  mf : M ∉ F
  mW : W.heap.size ≤ M
  off : Off v F
  nm : ∀ k, v.ownBlock = some k → k ≠ M
  bel : Below W.heap.size W w
theorem Scene.half {S : Lies} (D : Says S) {W w w' : World} {b M : Nat} {X Y X' Y' : Int} {l l' : List Int} {F F' : List Nat} {v : Value} (h : Scene S W w b M X Y l F v) (s : S w' b X' Y' l' F') (t : Touch w w' F) (f : From w F F') :
    Half S W w' b M X Y l X' Y' l' F' v := by
  refine ⟨s, (t.block M h.m.lt h.mf).trans h.m, h.row.touch t h.off, From.base f h.nf h.bel.size, fun hm => ?_, h.mW, h.off.from h.row f, h.nm, Touch.below h.bel t h.nf h.bel.size⟩
  rcases f M hm with h1 | h1
  · exact h.mf h1
  · have := h.m.lt
    omega
/-- Behind the reference's act, stored in the variable. -/
theorem Half.scene {S : Lies} (D : Says S) {W w w' : World} {b M : Nat} {X Y X' Y' : Int} {l l' : List Int} {F : List Nat} {v v' : Value} (h : Half S W w b M X Y l X' Y' l' F v) (hs : SI w' v' l') (k : Below w.heap.size w w') (hn : Near w v v') :
    Scene S W (((w'.setCell ⟨M, 0, none⟩ (.int .i64 X')).setCell ⟨M, 1, none⟩ (.int .i64 Y')).setCell ⟨M, 2, none⟩ v') b M X' Y' l' F v' := by
  have s2 := D.stay h.s k
  have m2 := h.m.below k h.m.lt
  have hlt := D.lt h.s
  have hT : Touch w' (((w'.setCell ⟨M, 0, none⟩ (.int .i64 X')).setCell ⟨M, 1, none⟩ (.int .i64 Y')).setCell ⟨M, 2, none⟩ v') [M] := by
    refine ⟨rfl, rfl, rfl, by simp, fun i hi hm => ?_⟩
    have hne : i ≠ M := by simpa using hm
    rw [heap_setCell_other _ _ _ _ (by simpa using hne), heap_setCell_other _ _ _ _ (by simpa using hne), heap_setCell_other _ _ _ _ (by simpa using hne)]
  have hnm : ∀ i, v'.ownBlock = some i → i ≠ M := fun i hi e => by
    rcases hn i hi with h1 | h1
    · exact h.nm i h1 e
    · have := h.m.lt
      omega
  refine ⟨D.apart s2 hT (fun i hi hm => h.mf (by
    have : i = M := by simpa using hm
    rwa [this] at hi)), store3 m2 X' Y' v', hs.touch hT (fun i hi hm => hnm i hi (by simpa using hm)), h.nf, h.mf, h.mW, fun i hi hm => ?_, hnm, Touch.below (h.bel.trans (k.mono h.bel.size)) hT (fun i hi => by
      have : i = M := by simpa using hi
      rw [this]; exact h.mW) (Nat.le_trans h.bel.size k.size)⟩
  rcases hn i hi with h1 | h1
  · exact h.off i h1 hm
  · have := hlt i hm
    omega
theorem cells_store3 {w' : World} {M p : Nat} {c : List Value} (h : Cells w' p c) (hp : p ≠ M) (x y z : Value) : Cells (((w'.setCell ⟨M, 0, none⟩ x).setCell ⟨M, 1, none⟩ y).setCell ⟨M, 2, none⟩ z) p c := fun j u hj => by
  have e : (((w'.setCell ⟨M, 0, none⟩ x).setCell ⟨M, 1, none⟩ y).setCell ⟨M, 2, none⟩ z).heap[p]? = w'.heap[p]? := by
    rw [heap_setCell_other _ _ _ _ (by simpa using hp), heap_setCell_other _ _ _ _ (by simpa using hp), heap_setCell_other _ _ _ _ (by simpa using hp)]
  rw [← h j u hj]
  simp only [World.cell?, e]
end Go.Proofs.Ytlamdgdegmjljaa.Scr
