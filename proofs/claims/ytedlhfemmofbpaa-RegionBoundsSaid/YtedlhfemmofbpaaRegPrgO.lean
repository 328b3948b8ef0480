/-
  The library's Clone and DeleteFunc over rectangles; those that count.
-/
import Derived.Lib.SliceRun
import Derived.Test.YtedlhfemmofbpaaRegPrgN
namespace Go.Proofs.Ytedlhfemmofbpaa.Reg
open Go.ChangeShapes Go.WideShapes Go.ChangeAt Go.RowKit Go.Shelf Lz RowG RegVal OwnL
set_option linter.unusedVariables false
set_option linter.unusedSimpArgs false
set_option maxRecDepth 100000

theorem zeros_rect (n : Nat) : (Builtin.zeroCells #[.int .i64 0, .int .i64 0, .int .i64 0, .int .i64 0] n).toList = List.replicate (n * 4) (.int .i64 0) := by
  unfold Builtin.zeroCells
  apply List.ext_getElem
  · simp
  · intro i h1 h2
    simp only [List.size_toArray, List.length_cons, List.length_nil, Array.toList_map, List.getElem_map, List.getElem_replicate]
    have hm : i % 4 < 4 := Nat.mod_lt _ (by decide)
    have hr : (Array.range (n * (0 + 1 + 1 + 1 + 1))).toList[i]'(by simpa using h1) = i := by simp
    rw [hr]
    obtain h | h | h | h : i % 4 = 0 ∨ i % 4 = 1 ∨ i % 4 = 2 ∨ i % 4 = 3 := by omega
    all_goals
      simp only [Nat.zero_add, Nat.reduceAdd, h]
      rfl
theorem run_clearR (w : World) (ty : TypeId) (b o n c : Nat) (hn : 0 < n) (hc : ∀ j, j < n * 4 → (w.cell? ⟨b, o + j, none⟩).isSome = true) (hf : ∀ j, j < n * 4 → w.frozen? ⟨b, o + j, none⟩ = false) :
    (Builtin.clear_ #[22] ty #[.slice (some ⟨b, o, none⟩) n c]).run Try.prog w = .ok (.tuple #[]) (w.setCells b o (List.replicate (n * 4) (.int .i64 0))) := by
  have hst := run_storeCells_cells (P := Try.prog) b o (List.replicate (n * 4) (.int .i64 0)) 0 w (by simpa using hc) (by simpa using hf) (by intro v hv'; rw [List.eq_of_mem_replicate hv']; rfl)
  simp only [Nat.add_zero] at hst
  have hz := zeros_rect n
  obtain ⟨m, rfl⟩ : ∃ m, n = m + 1 := ⟨n - 1, by omega⟩
  simp [Builtin.clear_, run_underlying Try.underlying22, Try.zeroValue32, Value.cells, hz, hst]
theorem RowAt.take {e : TypeId} {sz B n k g cap : Nat} {w : World} {xs : List Value} (h : RowAt e sz B w (.slice (some ⟨g, 0, none⟩) n cap) n xs) (hk : k ≤ n) : RowAt e sz B w (.slice (some ⟨g, 0, none⟩) k cap) k (xs.take (k * sz)) := by
  obtain ⟨⟨h1, h2⟩, h3, h4⟩ := h
  have hks : k * sz ≤ n * sz := Nat.mul_le_mul_right _ hk
  refine ⟨⟨by rw [List.length_take, h1]; omega, ?_⟩, fun i hi => h3 i hi, fun u hu => h4 u (List.mem_of_mem_take hu)⟩
  rcases h2 with ⟨h5, _⟩ | ⟨g', cap', cur, h5, hb, hg, hnc, hcm, hcs, ht⟩
  · simp at h5
  · simp only [Value.slice.injEq, Option.some.injEq, Addr.mk.injEq, true_and, and_true] at h5
    obtain ⟨rfl, rfl⟩ := h5
    refine .inr ⟨g, cap, cur, rfl, hb, hg, by omega, hcm, hcs, ?_⟩
    rw [← ht, List.take_take, Nat.min_eq_left hks]
theorem RowAt.past {e : TypeId} {sz B n g cap : Nat} {w : World} {xs : List Value} (h : RowAt e sz B w (.slice (some ⟨g, 0, none⟩) n cap) n xs) {j : Nat} (hj : n * sz ≤ j) (u : Value) : RowAt e sz B (w.setCell ⟨g, j, none⟩ u) (.slice (some ⟨g, 0, none⟩) n cap) n xs := by
  obtain ⟨⟨h1, h2⟩, h3, h4⟩ := h
  refine ⟨⟨h1, ?_⟩, h3, h4⟩
  rcases h2 with ⟨h5, _⟩ | ⟨g', cap', cur, h5, hb, hg, hnc, hcm, hcs, ht⟩
  · simp at h5
  · simp only [Value.slice.injEq, Option.some.injEq, Addr.mk.injEq, true_and, and_true] at h5
    obtain ⟨rfl, rfl⟩ := h5
    refine .inr ⟨g, cap, cur.setIfInBounds j u, rfl, hb, heap_setCell_same w g j _ _ u hg, hnc, hcm, by simpa using hcs, ?_⟩
    rw [Array.toList_setIfInBounds, List.take_set_of_le hj, ht]
theorem RowAt.pasts {e : TypeId} {sz B n g cap : Nat} {xs : List Value} : ∀ (vs : List Value) (o : Nat) (w : World), RowAt e sz B w (.slice (some ⟨g, 0, none⟩) n cap) n xs → n * sz ≤ o → RowAt e sz B (w.setCells g o vs) (.slice (some ⟨g, 0, none⟩) n cap) n xs
  | [], _, _, h, _ => h
  | v :: r, o, w, h, ho => RowAt.pasts r (o + 1) _ (RowAt.past h ho v) (by omega)
theorem below_set1 {w w' : World} {n : Nat} (h : Below n w w') {g : Nat} (hg : n ≤ g) (o : Nat) (v : Value) : Below n w (w'.setCell ⟨g, o, none⟩ v) := ⟨h.os, h.tape, h.output, by simpa [World.setCell] using h.size, fun k hk => (setOther (by omega)).trans (h.block k hk)⟩
theorem below_setCells {B g : Nat} {a : World} (hg : B ≤ g) : ∀ (vs : List Value) (o : Nat) (w : World), Below B a w → Below B a (w.setCells g o vs)
  | [], _, _, h => h
  | v :: r, o, w, h => below_setCells hg r (o + 1) _ (below_set1 h hg _ _)
theorem cellsR_take (l : List Rc) : ∀ k, (cellsR l).take (k * 4) = cellsR (l.take k) := by
  induction l with
  | nil => intro k; simp [cellsR]
  | cons r t ih =>
    intro k
    cases k with
    | zero => simp [cellsR]
    | succ k =>
      show List.take ((k + 1) * 4) (Value.int .i64 r.x :: .int .i64 r.y :: .int .i64 r.w :: .int .i64 r.h :: cellsR t) = Value.int .i64 r.x :: .int .i64 r.y :: .int .i64 r.w :: .int .i64 r.h :: cellsR (t.take k)
      rw [show (k + 1) * 4 = k * 4 + 1 + 1 + 1 + 1 by omega, List.take_succ_cons, List.take_succ_cons, List.take_succ_cons, List.take_succ_cons, ih]
theorem cellsR_set (l : List Rc) : ∀ i (h : i < l.length) (r : Rc), ((((cellsR l).set (i * 4) (.int .i64 r.x)).set (i * 4 + 1) (.int .i64 r.y)).set (i * 4 + 2) (.int .i64 r.w)).set (i * 4 + 3) (.int .i64 r.h) = cellsR (l.set i r) := by
  induction l with
  | nil => intro i h; exact absurd h (by simp)
  | cons s t ih =>
    intro i h r
    cases i with
    | zero => simp [cellsR]
    | succ i =>
      have := ih i (by simp only [List.length_cons] at h; omega) r
      simp only [cellsR, List.set_cons_succ] at *
      rw [← this, show (i + 1) * 4 = i * 4 + 4 by omega]
      simp
set_option maxHeartbeats 2000000 in
theorem clone_any (l : List Rc) (v : Value) (w : World) (hl : l.length ≤ 1000000) (h : SeesR w v l) :
    Calls Try.prog 46 #[v] w fun e w' => ∃ u, e = .returned u ∧ RectsAt w.heap.size w' u l ∧ Below w.heap.size w w' := by
  obtain ⟨a, cap, rfl, hn, hr⟩ := h
  have q22 : ∀ (w : World) (a : Option Addr) (n c n' c' : Nat), (binOp .eql 22 (.slice a n c) (.slice none n' c')).run Try.prog w = .ok (.bool a.isNone) w := fun w a n c n' c' => Lib.run_eql_slice_nil w _ _ a n c n' c' Try.underlying22
  cases a with
  | none =>
    obtain ⟨h0, rfl⟩ := hn rfl
    have h0 := List.length_eq_zero_iff.1 h0
    subst h0
    go_enter Try.func46, Try.ntmps46
    go_wp2_with fail
    go_ret
    exact ⟨_, rfl, RowAt.nil _ _ _ _, Below.refl _ _⟩
  | some a =>
    have hz := alloc_size w (.cells #[] 32)
    have nA := heap_alloc_new w (.cells #[] 32)
    have kA := (Below.refl w.heap.size w).alloc (Nat.le_refl _) (.cells #[] 32)
    have hs2 : SeesR (w.alloc (.cells #[] 32)) (.slice (some a) l.length cap) l := SeesR.below ⟨some a, cap, rfl, hn, hr⟩ kA
    obtain ⟨w1, hw1⟩ : ∃ w1, w.alloc (.cells #[] 32) = w1 := ⟨_, rfl⟩
    rw [hw1] at hz nA kA hs2
    have hown : RectsAt w.heap.size w1 (.slice (some ⟨w.heap.size, 0, none⟩) 0 0) [] :=
      ⟨⟨rfl, .inr ⟨_, 0, #[], rfl, Nat.zero_le _, nA, Nat.le_refl _, Nat.zero_le _, rfl, rfl⟩⟩, fun k hk => by simp [Value.ownBlock] at hk; omega, fun u hu => absurd hu (by simp [cellsR])⟩
    have HS := Lib.hid hs2
    have HO := Lib.hid hown
    have HK := Lib.hid kA
    have HZ : RowKit.Hid (w.heap.size ≤ w1.heap.size ∧ ([] : List Rc).length + l.length ≤ 1000000000) := Lib.hid ⟨by omega, by simp; omega⟩
    obtain ⟨n, hn2⟩ : ∃ n, l.length = n := ⟨_, rfl⟩
    rw [hn2] at HS ⊢
    clear hn hr hs2 hown kA nA hz hl hn2
    go_enter Try.func46, Try.ntmps46
    go_wp2_with (at_builtin; refine wpl_rects rfl _ _ rfl (.slice (some ⟨w.heap.size, 0, none⟩) 0 0) w.heap.size [] rfl HO.out HZ.out.1 _ l rfl HS.out HZ.out.2 ?_; intro v' w2 h1 b1; have H1 := Lib.hid h1; have B1 := Lib.hid (HK.out.trans b1); clear h1 b1)
    go_ret
    exact ⟨_, rfl, H1.out, B1.out⟩
end Go.Proofs.Ytedlhfemmofbpaa.Reg
