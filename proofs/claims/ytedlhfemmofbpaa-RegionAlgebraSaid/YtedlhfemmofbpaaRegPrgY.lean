/-
  A function that leaves with several marks among its deferred calls. Nothing of the program is named here.
-/
import Derived.Test.YtedlhfemmofbpaaRegPrgL
namespace Go.Proofs.Ytedlhfemmofbpaa.OwnL
open Go Go.RowKit
set_option linter.unusedVariables false

/-- The mark of a loop over a function. -/
def mark (D : Nat) : Deferred := { target := .collected D, args := #[] }
/-- All but some blocks are as they were. -/
structure But (Ds : List Nat) (w w' : World) : Prop where
  os : w'.os = w.os
  tape : w'.tape = w.tape
  output : w'.output = w.output
  size : w'.heap.size = w.heap.size
  block : ∀ k, k ∉ Ds → w'.heap[k]? = w.heap[k]?
theorem But.below {Ds : List Nat} {w w' : World} {B : Nat} (h : But Ds w w') (hB : ∀ D ∈ Ds, B ≤ D) : Below B w w' :=
  ⟨h.os, h.tape, h.output, by rw [h.size]; exact Nat.le_refl _, fun k hk => h.block k (fun hd => by have := hB k hd; omega)⟩
theorem leaves_marks {P : Program} {F : Fence} {n : Nat} {fn : Func} {tmps : Array Value} {R : Ending → World → Prop} {u : FrameMode} (hu : u ≠ .run) :
    ∀ (Ds : List Nat) (w : World), Ds.Nodup → (∀ D ∈ Ds, w.heap[D]? = some (.deferred (some []))) → (∀ w', But Ds w w' → LeavesIn F n P fn tmps R [] u w') → LeavesInM F n P fn tmps R (Ds.map mark) u w
  | [], w, _, _, h => h w ⟨rfl, rfl, rfl, rfl, fun _ _ => rfl⟩
  | D :: Ds, w, hn, hd, h => by
    have hn := List.nodup_cons.1 hn
    refine ⟨hu, .inl ⟨D, _, rfl, run_takeDeferred (hd D (by simp)), ?_⟩⟩
    refine leaves_marks hu Ds _ hn.2 (fun E hE => ?_) (fun w' hb => h w' ?_)
    · have hne : E ≠ D := fun e => by subst e; exact hn.1 hE
      rw [World.putObj_heap_other hne]
      exact hd E (by simp [hE])
    · refine ⟨hb.os, hb.tape, hb.output, by rw [hb.size]; simp [World.putObj], fun k hk => ?_⟩
      rw [hb.block k (fun h => hk (by simp [h])), World.putObj_heap_other (fun e => hk (by simp [e]))]
end Go.Proofs.Ytedlhfemmofbpaa.OwnL
