/-
  The library's Chunk over a row of numbers: what it makes, and the iterator that hands out its parts.
-/
import Derived.Test.YtedlhfemmofbpaaRegPrgU
namespace Go.Proofs.Ytedlhfemmofbpaa.Reg
open Go.ChangeShapes Go.WideShapes Go.ChangeAt Go.RowKit Go.Shelf Lz RowG RegVal OwnL
set_option linter.unusedVariables false
set_option linter.unusedSimpArgs false
set_option maxRecDepth 100000
attribute [local go_sem] Oper.semAt_some

/-- A part of a row. -/
theorem run_partV (W : World) (g off n c lo hi : Nat) (h1 : lo < hi) (h2 : hi ≤ c) :
    (Instr.slice 38 (.slice (some ⟨g, off, none⟩) n c) (some (.int .i64 (lo : Int))) (some (.int .i64 (hi : Int))) (some (.int .i64 (hi : Int)))).run Try.prog W = .ok (.slice (some ⟨g, off + lo, none⟩) (hi - lo) (hi - lo)) W := by
  have ha := run_sliceBound (P := Try.prog) (w := W) .i64 (hi : Int) c .slice3Acap (by omega) (by omega)
  have hb := run_sliceBound (P := Try.prog) (w := W) .i64 (hi : Int) hi .slice3B (by omega) (by omega)
  have hc := run_sliceBound (P := Try.prog) (w := W) .i64 (lo : Int) hi .slice3C (by omega) (by omega)
  have hne : hi ≠ lo := by omega
  simp [Instr.slice, run_underlying Try.underlying38, Instr.sliceBounds, ha, hb, hc, Addr.add, hne]
set_option maxHeartbeats 1000000 in
theorem chunk_any (p : Option Addr) (n c : Nat) (w : World) : Calls Try.prog 55 #[.slice p n c, .int .i64 2] w fun e w' => e = .returned (.func (.func 59) #[] #[.pointer (some ⟨w.heap.size, 0, none⟩), .pointer (some ⟨w.heap.size + 1, 0, none⟩)]) ∧
    w' = (w.alloc (.cells #[.slice p n c] 38)).alloc (.cells #[.int .i64 2] 3) := by
  have z1 := alloc_size w (.cells #[.slice p n c] 38)
  obtain ⟨w1, hw1⟩ : ∃ w1, w.alloc (.cells #[.slice p n c] 38) = w1 := ⟨_, rfl⟩
  rw [hw1] at z1 ⊢
  have hb := heap_alloc_new w1 (.cells #[.int .i64 2] 3)
  have c0 := cellAt (o := 0) hb rfl
  rw [z1] at c0
  simp at c0
  obtain ⟨w2, hw2⟩ : ∃ w2, w1.alloc (.cells #[.int .i64 2] 3) = w2 := ⟨_, rfl⟩
  rw [hw2] at c0 ⊢
  clear hb
  go_enter Try.func55, Try.ntmps55
  go_wp2_with fail
  go_ret
  exact ⟨rfl, rfl⟩
end Go.Proofs.Ytedlhfemmofbpaa.Reg
