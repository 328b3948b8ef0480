/-
  Contracts of the reference of layer 14 (screen): what two rectangles have in common.
-/
import Derived.Test.YtlamdgdegmjljaaScrRefH
namespace Go.Proofs.Ytlamdgdegmjljaa.Scr
open Go.ChangeShapes Go.WideShapes Go.ChangeAt Go.RowKit Lz RowG RegVal Reg
set_option linter.unusedVariables false
set_option maxRecDepth 100000

theorem store4 {w : World} {R : Nat} {z0 z1 z2 z3 : Value} {T : TypeId} (h : w.heap[R]? = some (.cells #[z0, z1, z2, z3] T (0, 0))) (a b c d : Value) :
    ((((w.setCell ⟨R, 0, none⟩ a).setCell ⟨R, 1, none⟩ b).setCell ⟨R, 2, none⟩ c).setCell ⟨R, 3, none⟩ d).heap[R]? = some (.cells #[a, b, c, d] T (0, 0)) := by
  have h0 := setAt (cs' := #[a, z1, z2, z3]) (i := 0) (v := a) h rfl
  have h1 := setAt (cs' := #[a, b, z2, z3]) (i := 1) (v := b) h0 rfl
  have h2 := setAt (cs' := #[a, b, c, z3]) (i := 2) (v := c) h1 rfl
  exact setAt (cs' := #[a, b, c, d]) (i := 3) (v := d) h2 rfl
set_option maxHeartbeats 4000000 in
theorem refMeet_any (a b : Rc) (ha : small a) (hb : small b) (w : World) :
    Calls Try.prog 33 #[a.v, b.v] w fun e w' => e = .returned (meetR a b).v ∧ Below w.heap.size w w' := by
  have z1 := alloc_size w (.cells #[.int .i64 a.x, .int .i64 a.y, .int .i64 a.w, .int .i64 a.h] 35)
  have i1 := RAt.box w a 35
  have b1 := (Below.refl w.heap.size w).alloc (Nat.le_refl _) (.cells #[.int .i64 a.x, .int .i64 a.y, .int .i64 a.w, .int .i64 a.h] 35)
  obtain ⟨w1, hw1⟩ : ∃ w1, w.alloc (.cells #[.int .i64 a.x, .int .i64 a.y, .int .i64 a.w, .int .i64 a.h] 35) = w1 := ⟨_, rfl⟩
  rw [hw1] at z1 i1 b1
  have z2 := alloc_size w1 (.cells #[.int .i64 b.x, .int .i64 b.y, .int .i64 b.w, .int .i64 b.h] 35)
  have r2 := RAt.box w1 b 35
  have k2 := (Below.refl w1.heap.size w1).alloc (Nat.le_refl _) (.cells #[.int .i64 b.x, .int .i64 b.y, .int .i64 b.w, .int .i64 b.h] 35)
  obtain ⟨w2, hw2⟩ : ∃ w2, w1.alloc (.cells #[.int .i64 b.x, .int .i64 b.y, .int .i64 b.w, .int .i64 b.h] 35) = w2 := ⟨_, rfl⟩
  rw [hw2] at z2 r2 k2
  have z2 : w2.heap.size = w.heap.size + 2 := by omega
  have z3 := alloc_size w2 (.cells #[.int .i64 0, .int .i64 0, .int .i64 0, .int .i64 0] 35)
  have o3 := heap_alloc_new w2 (.cells #[.int .i64 0, .int .i64 0, .int .i64 0, .int .i64 0] 35)
  have k3 := (Below.refl w2.heap.size w2).alloc (Nat.le_refl _) (.cells #[.int .i64 0, .int .i64 0, .int .i64 0, .int .i64 0] 35)
  obtain ⟨w3, hw3⟩ : ∃ w3, w2.alloc (.cells #[.int .i64 0, .int .i64 0, .int .i64 0, .int .i64 0] 35) = w3 := ⟨_, rfl⟩
  rw [hw3] at z3 o3 k3
  rw [z2] at o3
  rw [z1] at r2
  obtain ⟨c0, c1, c2, c3⟩ := (i1.below k2 (by omega)).below k3 (by omega)
  obtain ⟨d0, d1, d2, d3⟩ := r2.below k3 (by omega)
  have hB := Lib.hid ((b1.trans (k2.mono (by omega))).trans (k3.mono (by omega)))
  have HO := Lib.hid o3
  have o0 := cell_of_row w3 (w.heap.size + 2) 0 _ _ _ o3
  have o1 := cell_of_row w3 (w.heap.size + 2) 1 _ _ _ o3
  have o2 := cell_of_row w3 (w.heap.size + 2) 2 _ _ _ o3
  have o4 := cell_of_row w3 (w.heap.size + 2) 3 _ _ _ o3
  have fz : ∀ i, w3.frozen? ⟨w.heap.size + 2, i, none⟩ = false := fun i => frozen_of_row w3 (w.heap.size + 2) i _ _ o3
  simp at o0 o1 o2 o4
  have HM : RowKit.Hid (meetR a b = if min (a.x + a.w) (b.x + b.w) - max a.x b.x < 1 ∨ min (a.y + a.h) (b.y + b.h) - max a.y b.y < 1 then ⟨0, 0, 0, 0⟩ else ⟨max a.x b.x, max a.y b.y, min (a.x + a.w) (b.x + b.w) - max a.x b.x, min (a.y + a.h) (b.y + b.h) - max a.y b.y⟩) := Lib.hid rfl
  generalize meetR a b = MR at *
  clear i1 b1 r2 k2 k3 o3 z3
  obtain ⟨ax, ay, aw, ah⟩ := a
  obtain ⟨bx, by', bw, bh⟩ := b
  unfold small at ha hb
  unfold Rc.v
  simp only at *
  obtain ⟨P1, hP1⟩ : ∃ P1, ax + aw = P1 := ⟨_, rfl⟩
  obtain ⟨P2, hP2⟩ : ∃ P2, bx + bw = P2 := ⟨_, rfl⟩
  obtain ⟨P3, hP3⟩ : ∃ P3, ay + ah = P3 := ⟨_, rfl⟩
  obtain ⟨P4, hP4⟩ : ∃ P4, by' + bh = P4 := ⟨_, rfl⟩
  obtain ⟨X, hX⟩ : ∃ X, max ax bx = X := ⟨_, rfl⟩
  obtain ⟨Y, hY⟩ : ∃ Y, max ay by' = Y := ⟨_, rfl⟩
  obtain ⟨M, hM⟩ : ∃ M, min P1 P2 = M := ⟨_, rfl⟩
  obtain ⟨L, hL⟩ : ∃ L, min P3 P4 = L := ⟨_, rfl⟩
  obtain ⟨U, hU⟩ : ∃ U, M - X = U := ⟨_, rfl⟩
  obtain ⟨V, hV⟩ : ∃ V, L - Y = V := ⟨_, rfl⟩
  rw [hP1, hP2, hP3, hP4, hX, hY, hM, hL, hU, hV] at HM
  have e1 : -2147483648 ≤ P1 ∧ P1 ≤ 2147483648 := by omega
  have e2 : -2147483648 ≤ P2 ∧ P2 ≤ 2147483648 := by omega
  have e3 : -2147483648 ≤ P3 ∧ P3 ≤ 2147483648 := by omega
  have e4 : -2147483648 ≤ P4 ∧ P4 ≤ 2147483648 := by omega
  have e5 : -8589934592 ≤ U ∧ U ≤ 8589934592 := by omega
  have e6 : -8589934592 ≤ V ∧ V ≤ 8589934592 := by omega
  have f1 : (if ax < bx then bx else ax) = X := by rw [← hX, Int.max_def]; split <;> split <;> omega
  have f2 : (if ay < by' then by' else ay) = Y := by rw [← hY, Int.max_def]; split <;> split <;> omega
  have f3 : (if P2 < P1 then P2 else P1) = M := by rw [← hM, Int.min_def]; split <;> split <;> omega
  have f4 : (if P4 < P3 then P4 else P3) = L := by rw [← hL, Int.min_def]; split <;> split <;> omega
  clear ha hb
  by_cases h1 : U < 1
  · have t1 : decide (U < 1) = true := decide_eq_true h1
    have hMR := HM.out
    rw [if_pos (.inl h1)] at hMR
    subst hMR
    clear HM h1
    go_enter Try.func33, Try.ntmps33
    go_wp2_with fail
    refine bodyPost_ret (Ret.ret_cell rfl _ _ (w.heap.size + 2) 35 _ (0, 0) _ rfl (store4 HO.out _ _ _ _) Try.underlying35 rfl (by kernel_rfl)) rfl ⟨rfl, below_set (below_set (below_set (below_set hB.out (by omega) _ _) (by omega) _ _) (by omega) _ _) (by omega) _ _⟩
  have t1 : decide (U < 1) = false := decide_eq_false h1
  by_cases h2 : V < 1
  · have t2 : decide (V < 1) = true := decide_eq_true h2
    have hMR := HM.out
    rw [if_pos (.inr h2)] at hMR
    subst hMR
    clear HM h1 h2
    go_enter Try.func33, Try.ntmps33
    go_wp2_with fail
    refine bodyPost_ret (Ret.ret_cell rfl _ _ (w.heap.size + 2) 35 _ (0, 0) _ rfl (store4 HO.out _ _ _ _) Try.underlying35 rfl (by kernel_rfl)) rfl ⟨rfl, below_set (below_set (below_set (below_set hB.out (by omega) _ _) (by omega) _ _) (by omega) _ _) (by omega) _ _⟩
  have t2 : decide (V < 1) = false := decide_eq_false h2
  have hMR := HM.out
  rw [if_neg (by omega)] at hMR
  subst hMR
  clear HM h1 h2
  go_enter Try.func33, Try.ntmps33
  go_wp2_with fail
  refine bodyPost_ret (Ret.ret_cell rfl _ _ (w.heap.size + 2) 35 _ (0, 0) _ rfl (store4 HO.out _ _ _ _) Try.underlying35 rfl (by kernel_rfl)) rfl ⟨rfl, below_set (below_set (below_set (below_set hB.out (by omega) _ _) (by omega) _ _) (by omega) _ _) (by omega) _ _⟩
end Go.Proofs.Ytlamdgdegmjljaa.Scr
