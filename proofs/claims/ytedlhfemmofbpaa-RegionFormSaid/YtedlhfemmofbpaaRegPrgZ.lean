/-
  The program's rectangles of a set: a row with room is made.
-/
import Derived.Test.YtedlhfemmofbpaaRegPrgX
import Derived.Test.YtedlhfemmofbpaaRegPrgY
namespace Go.Proofs.Ytedlhfemmofbpaa.Reg
open Go.ChangeShapes Go.WideShapes Go.ChangeAt Go.RowKit Go.Shelf Lz RowG RegVal OwnL
set_option linter.unusedVariables false
set_option linter.unusedSimpArgs false
set_option maxRecDepth 100000

theorem make_rects (c : Nat) (hc : c ≤ 1000000000) (w : World) : ∃ w', (Instr.makeSlice 22 (.int .i64 0) (.int .i64 (c : Int))).run Try.prog w = .ok (.slice (some ⟨w.heap.size, 0, none⟩) 0 c) w' ∧
    RectsAt w.heap.size w' (.slice (some ⟨w.heap.size, 0, none⟩) 0 c) [] ∧ Below w.heap.size w w' ∧ w'.heap.size = w.heap.size + 1 := by
  obtain ⟨i0, hi, hz0, hz1, hz2⟩ := info_parts info_rect
  obtain ⟨w', hr, ho, hg⟩ := run_make_own (P := Try.prog) w w.heap.size 22 32 i0 (.agg #[.int .i64 0, .int .i64 0, .int .i64 0, .int .i64 0]) 4 Try.underlying22 hi hz0 hz1 .i64 .i64 c (by rw [hz2]; omega) (by unfold maxLen; omega) (Nat.le_refl _)
  have hr2 := run_make (P := Try.prog) w 22 32 i0 (.agg #[.int .i64 0, .int .i64 0, .int .i64 0, .int .i64 0]) Try.underlying22 hi hz0 .i64 .i64 0 (c : Int) (by omega) (by omega) (by rw [hz2]; omega) (by omega)
  rw [hr2] at hr
  injection hr with h1 h2
  subst h2
  refine ⟨_, by rw [hr2]; rfl, ⟨⟨ho.1, ?_⟩, fun k hk => ?_, fun u hu => absurd hu (by simp [cellsR])⟩, ⟨hg.os, hg.tape, hg.output, hg.size, fun k hk => hg.block k hk (by simp)⟩, alloc_size _ _⟩
  · rcases ho.2 with h | ⟨g, cap, cur, e1, _, rest⟩
    · exact .inl h
    · exact .inr ⟨g, cap, cur, e1, Nat.zero_le _, rest⟩
  · simp [Value.ownBlock] at hk
    omega
end Go.Proofs.Ytedlhfemmofbpaa.Reg
