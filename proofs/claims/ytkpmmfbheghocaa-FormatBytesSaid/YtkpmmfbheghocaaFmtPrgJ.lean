/-
  Contracts of the program's layer 13 (format): the format of bytes; all that is asked of layer 13.
-/
import Derived.Test.YtkpmmfbheghocaaFmtPrgI
import Derived.Test.YtkpmmfbheghocaaFmtPrgE
namespace Go.Proofs.Ytkpmmfbheghocaa.Fmt
open Go.ChangeShapes Go.WideShapes Go.ChangeAt Go.RowKit RegVal Oct
set_option linter.unusedVariables false
set_option maxRecDepth 100000

/-- How far a cursor is that has read up to p, or that more bytes were needed. -/
def Rd (t : ByteArray) (p : Nat) (i e : Int) : Prop := (0 ≤ i ∧ i ≤ t.size) ∧ ((e = 0 ∧ i = p) ∨ (e = 2 ∧ t.size < p))
theorem one_val (t : ByteArray) (p : Nat) (h : p + 1 ≤ t.size) : valL (t.extract p (p + 1)).data.toList.reverse = byA t p := by
  have hl : p < t.data.toList.length := by have : t.data.toList.length = t.size := by simp
                                           omega
  rw [extract_one t p hl]
  unfold byA
  rw [List.getD_eq_getElem?_getD, List.getElem?_eq_getElem hl]
  simp [valL]
theorem Rd.num {t : ByteArray} {p n : Nat} {i e : Int} (h : Rd t p i e) (hn : sizeB (n : Nat) = true) (h1 : 1 ≤ n) :
    Rd t (p + n) (numI t i e n) (numE t i e n) ∧ (p + n ≤ t.size → intV t i e n = valL (t.extract p (p + n)).data.toList.reverse) := by
  obtain ⟨⟨i0, i1⟩, hc⟩ := h
  unfold numI numE intV
  rw [if_pos hn, if_pos hn, if_pos hn]
  rcases hc with ⟨rfl, rfl⟩ | ⟨rfl, hlt⟩
  · by_cases hs : p + n ≤ t.size
    · have he : byE t p 0 n = 0 := by
        unfold byE
        rw [if_pos rfl, if_neg (by omega), if_neg (by omega)]
      have hb : byS t p 0 n = t.extract p (p + n) := by
        unfold byS
        rw [if_pos he]
        congr 1
      refine ⟨⟨?_, .inl ⟨he, ?_⟩⟩, fun _ => by rw [hb]⟩
      · unfold byI; rw [if_pos he]; omega
      · unfold byI; rw [if_pos he]; omega
    · have he : byE t p 0 n = 2 := by
        unfold byE
        rw [if_pos rfl, if_neg (by omega), if_pos (by omega)]
      refine ⟨⟨?_, .inr ⟨he, by omega⟩⟩, fun h => by omega⟩
      unfold byI; rw [he, if_neg (by decide)]; omega
  · have he : byE t i 2 n = 2 := by unfold byE; rw [if_neg (by decide)]
    refine ⟨⟨?_, .inr ⟨he, by omega⟩⟩, fun h => by omega⟩
    unfold byI; rw [he, if_neg (by decide)]; omega
theorem Rd.bytes {t : ByteArray} {p n : Nat} {i e : Int} (h : Rd t p i e) : Rd t (p + n) (byI t i e n) (byE t i e n) := by
  obtain ⟨⟨i0, i1⟩, hc⟩ := h
  rcases hc with ⟨rfl, rfl⟩ | ⟨rfl, hlt⟩
  · by_cases hs : p + n ≤ t.size
    · have he : byE t p 0 n = 0 := by
        unfold byE
        rw [if_pos rfl, if_neg (by omega), if_neg (by omega)]
      refine ⟨?_, .inl ⟨he, ?_⟩⟩
      · unfold byI; rw [if_pos he]; omega
      · unfold byI; rw [if_pos he]; omega
    · have he : byE t p 0 n = 2 := by
        unfold byE
        rw [if_pos rfl, if_neg (by omega), if_pos (by omega)]
      refine ⟨?_, .inr ⟨he, by omega⟩⟩
      unfold byI; rw [he, if_neg (by decide)]; omega
  · have he : byE t i 2 n = 2 := by unfold byE; rw [if_neg (by decide)]
    refine ⟨?_, .inr ⟨he, by omega⟩⟩
    unfold byI; rw [he, if_neg (by decide)]; omega
/-- The memory on the way: the cursor, the format that is read, the result. -/
structure PsAt (w W : World) (b g : Nat) (t : ByteArray) (i e : Int) (cs : Array Value) : Prop where
  cu : CurAt 68 W b t i e
  hg : W.heap[g]? = some (.cells cs 23 (0, 0))
  hr : W.heap[w.heap.size]? = some (.cells Fm.zero.cs 23 (0, 0))
  bel : Below w.heap.size w W
  ne : w.heap.size < b ∧ b < g
theorem PsAt.step {w W W' : World} {b g : Nat} {t : ByteArray} {i e i' e' : Int} {cs : Array Value} (h : PsAt w W b g t i e cs) (c : CurAt 68 W' b t i' e') (k : W.grownBy W' (some b)) : PsAt w W' b g t i' e' cs := by
  have hl := (Array.getElem?_eq_some_iff.1 h.hg).1
  have hl2 := (Array.getElem?_eq_some_iff.1 h.hr).1
  have := h.ne
  exact ⟨c, (k.block g hl (by simp; omega)).trans h.hg, (k.block _ hl2 (by simp; omega)).trans h.hr, below_grown h.bel k (by omega), h.ne⟩
theorem PsAt.store {w W : World} {b g : Nat} {t : ByteArray} {i e : Int} {cs cs' : Array Value} (h : PsAt w W b g t i e cs) (k : Nat) (v : Value) (hc : cs.setIfInBounds k v = cs') : PsAt w (W.setCell ⟨g, k, none⟩ v) b g t i e cs' := by
  have := h.ne
  refine ⟨?_, setAt h.hg hc, ?_, below_set h.bel (by omega) _ _, h.ne⟩
  · exact (heap_setCell_other W ⟨g, k, none⟩ b v (fun q => by have : g = b := q.symm; omega)).trans h.cu
  · exact (heap_setCell_other W ⟨g, k, none⟩ _ v (fun q => by have : g = w.heap.size := q.symm; omega)).trans h.hr
theorem PsAt.int {w W : World} {b g p : Nat} {t : ByteArray} {i e : Int} {cs : Array Value} (h : PsAt w W b g t i e cs) (r : Rd t p i e) (ht : t.size ≤ 1000) (n : Nat) (hn : sizeB (n : Nat) = true) (h1 : 1 ≤ n) :
    Calls Try.prog 32 #[.pointer (some ⟨b, 0, none⟩), .int .i64 n] W fun q W' => ∃ x i' e', q = .returned (.int .i64 x) ∧ PsAt w W' b g t i' e' cs ∧ Rd t (p + n) i' e' ∧ (p + n ≤ t.size → x = valL (t.extract p (p + n)).data.toList.reverse) := by
  obtain ⟨r1, r2⟩ := r.num hn h1
  exact (int_any b t i e n W h.cu r.1.1 r.1.2 (by omega)).mono fun _ _ ⟨hq, c, k⟩ => ⟨_, _, _, hq, h.step c k, r1, r2⟩
theorem PsAt.cells {w W : World} {b g : Nat} {t : ByteArray} {i e : Int} {z0 z1 z2 z3 z4 z5 z6 z7 z8 z9 : Value} (h : PsAt w W b g t i e #[z0, z1, z2, z3, z4, z5, z6, z7, z8, z9]) :
    (W.cell? ⟨g, 0, none⟩ = some z0 ∧ W.cell? ⟨g, 1, none⟩ = some z1 ∧ W.cell? ⟨g, 2, none⟩ = some z2 ∧ W.cell? ⟨g, 3, none⟩ = some z3 ∧ W.cell? ⟨g, 4, none⟩ = some z4 ∧ W.cell? ⟨g, 5, none⟩ = some z5 ∧ W.cell? ⟨g, 6, none⟩ = some z6 ∧ W.cell? ⟨g, 7, none⟩ = some z7 ∧ W.cell? ⟨g, 8, none⟩ = some z8 ∧ W.cell? ⟨g, 9, none⟩ = some z9) ∧ ∀ i, W.frozen? ⟨g, i, none⟩ = false :=
  ⟨⟨cell_of_row W g 0 _ _ _ h.hg, cell_of_row W g 1 _ _ _ h.hg, cell_of_row W g 2 _ _ _ h.hg, cell_of_row W g 3 _ _ _ h.hg, cell_of_row W g 4 _ _ _ h.hg, cell_of_row W g 5 _ _ _ h.hg, cell_of_row W g 6 _ _ _ h.hg, cell_of_row W g 7 _ _ _ h.hg, cell_of_row W g 8 _ _ _ h.hg, cell_of_row W g 9 _ _ _ h.hg⟩, fun i => frozen_of_row W g i _ _ h.hg⟩
theorem res_cells {W : World} {g : Nat} (h : W.heap[g]? = some (.cells Fm.zero.cs 23 (0, 0))) :
    (W.cell? ⟨g, 0, none⟩ = some (.int .i64 0) ∧ W.cell? ⟨g, 1, none⟩ = some (.int .i64 0) ∧ W.cell? ⟨g, 2, none⟩ = some (.bool false) ∧ W.cell? ⟨g, 3, none⟩ = some (.bool false) ∧ W.cell? ⟨g, 4, none⟩ = some (.int .i64 0) ∧ W.cell? ⟨g, 5, none⟩ = some (.int .i64 0) ∧ W.cell? ⟨g, 6, none⟩ = some (.int .i64 0) ∧ W.cell? ⟨g, 7, none⟩ = some (.int .i64 0) ∧ W.cell? ⟨g, 8, none⟩ = some (.int .i64 0) ∧ W.cell? ⟨g, 9, none⟩ = some (.int .i64 0)) ∧ ∀ i, W.frozen? ⟨g, i, none⟩ = false :=
  ⟨⟨cell_of_row W g 0 _ _ _ h, cell_of_row W g 1 _ _ _ h, cell_of_row W g 2 _ _ _ h, cell_of_row W g 3 _ _ _ h, cell_of_row W g 4 _ _ _ h, cell_of_row W g 5 _ _ _ h, cell_of_row W g 6 _ _ _ h, cell_of_row W g 7 _ _ _ h, cell_of_row W g 8 _ _ _ h, cell_of_row W g 9 _ _ _ h⟩, fun i => frozen_of_row W g i _ _ h⟩
theorem store_res {w W : World} (h : W.heap[w.heap.size]? = some (.cells Fm.zero.cs 23 (0, 0))) (hb : Below w.heap.size w W) (a b c d e f g i j k : Value) :
    (((((((((((W.setCell ⟨w.heap.size, 0, none⟩ a).setCell ⟨w.heap.size, 1, none⟩ b).setCell ⟨w.heap.size, 2, none⟩ c).setCell ⟨w.heap.size, 3, none⟩ d).setCell ⟨w.heap.size, 4, none⟩ e).setCell ⟨w.heap.size, 5, none⟩ f).setCell ⟨w.heap.size, 6, none⟩ g).setCell ⟨w.heap.size, 7, none⟩ i).setCell ⟨w.heap.size, 8, none⟩ j).setCell ⟨w.heap.size, 9, none⟩ k).heap[w.heap.size]? = some (.cells #[a, b, c, d, e, f, g, i, j, k] 23 (0, 0))) ∧
    Below w.heap.size w ((((((((((W.setCell ⟨w.heap.size, 0, none⟩ a).setCell ⟨w.heap.size, 1, none⟩ b).setCell ⟨w.heap.size, 2, none⟩ c).setCell ⟨w.heap.size, 3, none⟩ d).setCell ⟨w.heap.size, 4, none⟩ e).setCell ⟨w.heap.size, 5, none⟩ f).setCell ⟨w.heap.size, 6, none⟩ g).setCell ⟨w.heap.size, 7, none⟩ i).setCell ⟨w.heap.size, 8, none⟩ j).setCell ⟨w.heap.size, 9, none⟩ k) :=
  ⟨store10 h _ _ _ _ _ _ _ _ _ _, below_set (below_set (below_set (below_set (below_set (below_set (below_set (below_set (below_set (below_set hb (Nat.le_refl _) _ _) (Nat.le_refl _) _ _) (Nat.le_refl _) _ _) (Nat.le_refl _) _ _) (Nat.le_refl _) _ _) (Nat.le_refl _) _ _) (Nat.le_refl _) _ _) (Nat.le_refl _) _ _) (Nat.le_refl _) _ _) (Nat.le_refl _) _ _⟩

set_option maxHeartbeats 8000000 in
theorem parse_any (t : ByteArray) (ht : t.size ≤ 1000) (w : World) :
    Calls Try.prog 9 #[.string t] w fun e w' => e = .returned (.tuple #[(parF t).v, .int .i64 (parE t)]) ∧ Below w.heap.size w w' := by
  have HPF : RowKit.Hid (t.size < 16 → (parF t).v = .agg Fm.zero.cs ∧ parE t = 2) := Lib.hid (fun h => ⟨by unfold parF; rw [if_pos h]; rfl, if_pos h⟩)
  have HPT : RowKit.Hid (¬ t.size < 16 → (fmtOf t).ok = true → (parF t).v = .agg (fmtOf t).cs ∧ parE t = 0) := Lib.hid (fun h k => ⟨by unfold parF; rw [if_neg h, if_pos k]; rfl, by unfold parE; rw [if_neg h, if_pos k]⟩)
  have HPN : RowKit.Hid (¬ t.size < 16 → (fmtOf t).ok = false → (parF t).v = .agg Fm.zero.cs ∧ parE t = 130) := Lib.hid (fun h k => ⟨by unfold parF; rw [if_neg h, if_neg (by rw [k]; simp)]; rfl, by unfold parE; rw [if_neg h, if_neg (by rw [k]; simp)]⟩)
  have HV := Lib.hid (fun w => valid_any (fmtOf t) (fmtOf_wf t) w)
  generalize (parF t).v = PFV at *
  generalize parE t = PE at *
  have HT := Lib.hid ht
  have bel := (Below.refl w.heap.size w).alloc (Nat.le_refl _) (.cells Fm.zero.cs 23)
  have hr := heap_alloc_new w (.cells Fm.zero.cs 23)
  have hsz1 : (w.alloc (.cells Fm.zero.cs 23)).heap.size = w.heap.size + 1 := alloc_size _ _
  obtain ⟨w1, hw1⟩ : ∃ w1, w.alloc (.cells Fm.zero.cs 23) = w1 := ⟨_, rfl⟩
  rw [hw1] at bel hr hsz1
  have hw1' : w.alloc (.cells #[.int .i64 0, .int .i64 0, .bool false, .bool false, .int .i64 0, .int .i64 0, .int .i64 0, .int .i64 0, .int .i64 0, .int .i64 0] 23) = w1 := hw1
  have HR := Lib.hid hr
  have HBEL := Lib.hid bel
  have HSZ1 := Lib.hid hsz1
  clear ht hr bel hsz1 hw1
  go_enter Try.func9, Try.ntmps9
  go_wp2_with fail
  refine (new_any t w1).mono ?_
  rintro r w2 ⟨rfl, cu, b2⟩
  have hsz3 : (w2.alloc (.cells Fm.zero.cs 23)).heap.size = w2.heap.size + 1 := alloc_size _ _
  have P0 : PsAt w (w2.alloc (.cells Fm.zero.cs 23)) w1.heap.size w2.heap.size t 0 0 #[.int .i64 0, .int .i64 0, .bool false, .bool false, .int .i64 0, .int .i64 0, .int .i64 0, .int .i64 0, .int .i64 0, .int .i64 0] := by
    have h1 := HSZ1.out
    have hl := cu.lt
    have bq := HBEL.out.trans (b2.mono HBEL.out.size)
    exact ⟨cu.alloc _, heap_alloc_new _ _, ((Below.refl w2.heap.size w2).alloc (Nat.le_refl _) _).block w.heap.size (by omega) |>.trans ((b2.block w.heap.size (by omega)).trans HR.out), bq.alloc bq.size _, by omega, hl⟩
  have R0 : Rd t 0 0 0 := ⟨⟨Int.le_refl 0, by omega⟩, .inl ⟨rfl, rfl⟩⟩
  obtain ⟨v0, hv0⟩ : ∃ v0, w2.alloc (.cells Fm.zero.cs 23) = v0 := ⟨_, rfl⟩
  rw [hv0] at P0
  have hv0' : w2.alloc (.cells #[.int .i64 0, .int .i64 0, .bool false, .bool false, .int .i64 0, .int .i64 0, .int .i64 0, .int .i64 0, .int .i64 0, .int .i64 0] 23) = v0 := hv0
  have C0 := Lib.hid (P0.int R0 HT.out 1 (by decide) (by decide))
  have PP0 := Lib.hid P0
  clear P0 R0 cu b2 hv0 hsz3 HR HBEL HSZ1
  go_wp2_with fail
  generalize w1.heap.size = b at *
  generalize w2.heap.size = g at *
  clear hv0' hw1'
  refine C0.out.mono ?_
  rintro r v1 ⟨x0, i1, e1, rfl, P1, R1, X0⟩
  have HX0 : RowKit.Hid (1 ≤ t.size → x0 = byA t 0) := Lib.hid (fun h => (X0 h).trans (one_val t 0 h))
  have RR1 : RowKit.Hid (Rd t 1 i1 e1) := Lib.hid R1
  clear C0 X0 R1
  have C1 := Lib.hid (P1.int RR1.out HT.out 1 (by decide) (by decide))
  have PP1 := Lib.hid P1
  clear P1 PP0
  go_wp2_with fail
  refine C1.out.mono ?_
  rintro r v2 ⟨x1, i2, e2, rfl, P2, R2, X1⟩
  have HX1 : RowKit.Hid (2 ≤ t.size → x1 = byA t 1) := Lib.hid (fun h => (X1 h).trans (one_val t 1 h))
  have RR2 : RowKit.Hid (Rd t 2 i2 e2) := Lib.hid R2
  clear C1 X1 R2
  obtain ⟨⟨c0, c1, c2, c3, c4, c5, c6, c7, c8, c9⟩, fz⟩ := P2.cells
  have Q2 := Lib.hid ((P2.store 0 (.int .i64 x0) (cs' := #[.int .i64 x0, .int .i64 0, .bool false, .bool false, .int .i64 0, .int .i64 0, .int .i64 0, .int .i64 0, .int .i64 0, .int .i64 0]) rfl).store 1 (.int .i64 x1) (cs' := #[.int .i64 x0, .int .i64 x1, .bool false, .bool false, .int .i64 0, .int .i64 0, .int .i64 0, .int .i64 0, .int .i64 0, .int .i64 0]) rfl)
  have C2 := Lib.hid (Q2.out.int RR2.out HT.out 1 (by decide) (by decide))
  clear P2 PP1
  go_wp2_with fail
  clear c0 c1 c2 c3 c4 c5 c6 c7 c8 c9 fz
  have PP2 := Q2
  clear Q2
  refine C2.out.mono ?_
  rintro r v3 ⟨x2, i3, e3, rfl, P3, R3, X2⟩
  have HX2 : RowKit.Hid (3 ≤ t.size → x2 = byA t 2) := Lib.hid (fun h => (X2 h).trans (one_val t 2 h))
  have RR3 : RowKit.Hid (Rd t 3 i3 e3) := Lib.hid R3
  clear C2 X2 R3
  have C3 := Lib.hid (P3.int RR3.out HT.out 1 (by decide) (by decide))
  have PP3 := Lib.hid P3
  clear P3 PP2 RR2
  go_wp2_with fail
  refine C3.out.mono ?_
  rintro r v4 ⟨x3, i4, e4, rfl, P4, R4, X3⟩
  have HX3 : RowKit.Hid (4 ≤ t.size → x3 = byA t 3) := Lib.hid (fun h => (X3 h).trans (one_val t 3 h))
  have RR4 : RowKit.Hid (Rd t 4 i4 e4) := Lib.hid R4
  clear C3 X3 R4
  obtain ⟨⟨c0, c1, c2, c3, c4, c5, c6, c7, c8, c9⟩, fz⟩ := P4.cells
  have Q4 := Lib.hid ((P4.store 2 (.bool (x2 != 0)) (cs' := #[.int .i64 x0, .int .i64 x1, .bool (x2 != 0), .bool false, .int .i64 0, .int .i64 0, .int .i64 0, .int .i64 0, .int .i64 0, .int .i64 0]) rfl).store 3 (.bool (x3 != 0)) (cs' := #[.int .i64 x0, .int .i64 x1, .bool (x2 != 0), .bool (x3 != 0), .int .i64 0, .int .i64 0, .int .i64 0, .int .i64 0, .int .i64 0, .int .i64 0]) rfl)
  have C4 := Lib.hid (Q4.out.int RR4.out HT.out 2 (by decide) (by decide))
  clear P4 PP3
  go_wp2_with fail
  clear c0 c1 c2 c3 c4 c5 c6 c7 c8 c9 fz
  have PP4 := Q4
  clear Q4
  refine C4.out.mono ?_
  rintro r v5 ⟨x4, i5, e5, rfl, P5, R5, X4⟩
  have HX4 : RowKit.Hid (6 ≤ t.size → x4 = two t 4) := Lib.hid (fun h => (X4 h).trans (two_val t 4 h))
  have RR5 : RowKit.Hid (Rd t 6 i5 e5) := Lib.hid R5
  clear C4 X4 R5
  have C5 := Lib.hid (P5.int RR5.out HT.out 2 (by decide) (by decide))
  have PP5 := Lib.hid P5
  clear P5 PP4 RR4
  go_wp2_with fail
  refine C5.out.mono ?_
  rintro r v6 ⟨x5, i6, e6, rfl, P6, R6, X5⟩
  have HX5 : RowKit.Hid (8 ≤ t.size → x5 = two t 6) := Lib.hid (fun h => (X5 h).trans (two_val t 6 h))
  have RR6 : RowKit.Hid (Rd t 8 i6 e6) := Lib.hid R6
  clear C5 X5 R6
  have C6 := Lib.hid (P6.int RR6.out HT.out 2 (by decide) (by decide))
  have PP6 := Lib.hid P6
  clear P6 PP5 RR5
  go_wp2_with fail
  refine C6.out.mono ?_
  rintro r v7 ⟨x6, i7, e7, rfl, P7, R7, X6⟩
  have HX6 : RowKit.Hid (10 ≤ t.size → x6 = two t 8) := Lib.hid (fun h => (X6 h).trans (two_val t 8 h))
  have RR7 : RowKit.Hid (Rd t 10 i7 e7) := Lib.hid R7
  clear C6 X6 R7
  obtain ⟨⟨c0, c1, c2, c3, c4, c5, c6, c7, c8, c9⟩, fz⟩ := P7.cells
  have Q7 := Lib.hid (((P7.store 4 (.int .i64 x4) (cs' := #[.int .i64 x0, .int .i64 x1, .bool (x2 != 0), .bool (x3 != 0), .int .i64 x4, .int .i64 0, .int .i64 0, .int .i64 0, .int .i64 0, .int .i64 0]) rfl).store 5 (.int .i64 x5) (cs' := #[.int .i64 x0, .int .i64 x1, .bool (x2 != 0), .bool (x3 != 0), .int .i64 x4, .int .i64 x5, .int .i64 0, .int .i64 0, .int .i64 0, .int .i64 0]) rfl).store 6 (.int .i64 x6) (cs' := #[.int .i64 x0, .int .i64 x1, .bool (x2 != 0), .bool (x3 != 0), .int .i64 x4, .int .i64 x5, .int .i64 x6, .int .i64 0, .int .i64 0, .int .i64 0]) rfl)
  have C7 := Lib.hid (Q7.out.int RR7.out HT.out 1 (by decide) (by decide))
  clear P7 PP6
  go_wp2_with fail
  clear c0 c1 c2 c3 c4 c5 c6 c7 c8 c9 fz
  have PP7 := Q7
  clear Q7
  refine C7.out.mono ?_
  rintro r v8 ⟨x7, i8, e8, rfl, P8, R8, X7⟩
  have HX7 : RowKit.Hid (11 ≤ t.size → x7 = byA t 10) := Lib.hid (fun h => (X7 h).trans (one_val t 10 h))
  have RR8 : RowKit.Hid (Rd t 11 i8 e8) := Lib.hid R8
  clear C7 X7 R8
  have C8 := Lib.hid (P8.int RR8.out HT.out 1 (by decide) (by decide))
  have PP8 := Lib.hid P8
  clear P8 PP7 RR7
  go_wp2_with fail
  refine C8.out.mono ?_
  rintro r v9 ⟨x8, i9, e9, rfl, P9, R9, X8⟩
  have HX8 : RowKit.Hid (12 ≤ t.size → x8 = byA t 11) := Lib.hid (fun h => (X8 h).trans (one_val t 11 h))
  have RR9 : RowKit.Hid (Rd t 12 i9 e9) := Lib.hid R9
  clear C8 X8 R9
  have C9 := Lib.hid (P9.int RR9.out HT.out 1 (by decide) (by decide))
  have PP9 := Lib.hid P9
  clear P9 PP8 RR8
  go_wp2_with fail
  refine C9.out.mono ?_
  rintro r v10 ⟨x9, i10, e10, rfl, P10, R10, X9⟩
  have HX9 : RowKit.Hid (13 ≤ t.size → x9 = byA t 12) := Lib.hid (fun h => (X9 h).trans (one_val t 12 h))
  have RR10 : RowKit.Hid (Rd t 13 i10 e10) := Lib.hid R10
  clear C9 X9 R10
  obtain ⟨⟨c0, c1, c2, c3, c4, c5, c6, c7, c8, c9⟩, fz⟩ := P10.cells
  have Q10 := Lib.hid (((P10.store 7 (.int .i64 x7) (cs' := #[.int .i64 x0, .int .i64 x1, .bool (x2 != 0), .bool (x3 != 0), .int .i64 x4, .int .i64 x5, .int .i64 x6, .int .i64 x7, .int .i64 0, .int .i64 0]) rfl).store 8 (.int .i64 x8) (cs' := #[.int .i64 x0, .int .i64 x1, .bool (x2 != 0), .bool (x3 != 0), .int .i64 x4, .int .i64 x5, .int .i64 x6, .int .i64 x7, .int .i64 x8, .int .i64 0]) rfl).store 9 (.int .i64 x9) (cs' := #[.int .i64 x0, .int .i64 x1, .bool (x2 != 0), .bool (x3 != 0), .int .i64 x4, .int .i64 x5, .int .i64 x6, .int .i64 x7, .int .i64 x8, .int .i64 x9]) rfl)
  have RB := Lib.hid (RR10.out.bytes (n := 3))
  have CB := Lib.hid (bytes_any b t i10 e10 3 _ Q10.out.cu RR10.out.1.1 RR10.out.1.2 (by have := HT.out; omega))
  clear P10 PP9
  go_wp2_with fail
  clear c0 c1 c2 c3 c4 c5 c6 c7 c8 c9 fz
  refine CB.out.mono ?_
  rintro r v11 ⟨rfl, c11, g11⟩
  have QB := Lib.hid (Q10.out.step c11 g11)
  have CE := Lib.hid (err_any b t _ _ v11 c11)
  clear c11 g11 CB
  generalize byE t i10 e10 ((3 : Nat) : Int) = eB at *
  generalize byI t i10 e10 ((3 : Nat) : Int) = iB at *
  go_wp2_with fail
  refine CE.out.mono ?_
  rintro r w' ⟨rfl, rfl⟩
  clear CE
  obtain ⟨⟨r0, r1, r2, r3, r4, r5, r6, r7, r8, r9⟩, fz⟩ := res_cells QB.out.hr
  by_cases h16 : t.size < 16
  · have hE : eB = 2 := by
      obtain ⟨⟨_, h1⟩, hc⟩ := RB.out
      rcases hc with ⟨_, h⟩ | ⟨h, _⟩
      · omega
      · exact h
    subst hE
    obtain ⟨f1, f2⟩ := HPF.out h16
    have F1 := Lib.hid f1
    have F2 := Lib.hid f2
    have SR := Lib.hid (store_res QB.out.hr QB.out.bel)
    clear f1 f2 HPF HPT HPN HX0 HX1 HX2 HX3 HX4 HX5 HX6 HX7 HX8 HX9 HV
    go_wp2_with fail
    refine bodyPost_ret (Ret.ret_cell_tmp rfl _ _ w.heap.size 23 _ (0, 0) _ rfl (SR.out _ _ _ _ _ _ _ _ _ _).1 Try.underlying23 rfl (by kernel_rfl)) rfl ⟨?_, (SR.out _ _ _ _ _ _ _ _ _ _).2⟩
    rw [F1.out, F2.out]
    rfl
  have hE : eB = 0 := by
    obtain ⟨⟨_, h1⟩, hc⟩ := RB.out
    rcases hc with ⟨h, _⟩ | ⟨_, h⟩
    · exact h
    · omega
  subst hE
  obtain rfl := HX0.out (by omega)
  obtain rfl := HX1.out (by omega)
  obtain rfl := HX2.out (by omega)
  obtain rfl := HX3.out (by omega)
  obtain rfl := HX4.out (by omega)
  obtain rfl := HX5.out (by omega)
  obtain rfl := HX6.out (by omega)
  obtain rfl := HX7.out (by omega)
  obtain rfl := HX8.out (by omega)
  obtain rfl := HX9.out (by omega)
  have HP1 := Lib.hid (HPT.out h16)
  have HP2 := Lib.hid (HPN.out h16)
  have hcs : (fmtOf t).cs = #[.int .i64 (byA t 0), .int .i64 (byA t 1), .bool (byA t 2 != 0), .bool (byA t 3 != 0), .int .i64 (two t 4), .int .i64 (two t 6), .int .i64 (two t 8), .int .i64 (byA t 10), .int .i64 (byA t 11), .int .i64 (byA t 12)] := rfl
  have hfv : (fmtOf t).v = .agg #[.int .i64 (byA t 0), .int .i64 (byA t 1), .bool (byA t 2 != 0), .bool (byA t 3 != 0), .int .i64 (two t 4), .int .i64 (two t 6), .int .i64 (two t 8), .int .i64 (byA t 10), .int .i64 (byA t 11), .int .i64 (byA t 12)] := rfl
  rw [hcs] at HP1
  rw [hfv] at HV
  obtain ⟨⟨c0, c1, c2, c3, c4, c5, c6, c7, c8, c9⟩, _⟩ := QB.out.cells
  clear HPF HPT HPN HX0 HX1 HX2 HX3 HX4 HX5 HX6 HX7 HX8 HX9 hcs hfv h16
  generalize byA t = y at *
  generalize two t = z at *
  generalize (fmtOf t).ok = OK at *
  go_wp2_with fail
  refine (HV.out _).mono ?_
  rintro r v12 ⟨rfl, b12⟩
  have hlg := (Array.getElem?_eq_some_iff.1 QB.out.hg).1
  have hlr := (Array.getElem?_eq_some_iff.1 QB.out.hr).1
  have KG := (b12.block g hlg).trans QB.out.hg
  have KR := (b12.block w.heap.size hlr).trans QB.out.hr
  have KB := QB.out.bel.trans (b12.mono QB.out.bel.size)
  have SR := Lib.hid (store_res KR KB)
  clear r0 r1 r2 r3 r4 r5 r6 r7 r8 r9 fz c0 c1 c2 c3 c4 c5 c6 c7 c8 c9
  obtain ⟨⟨r0, r1, r2, r3, r4, r5, r6, r7, r8, r9⟩, fz⟩ := res_cells KR
  have c0 := cell_of_row v12 g 0 _ _ _ KG
  have c1 := cell_of_row v12 g 1 _ _ _ KG
  have c2 := cell_of_row v12 g 2 _ _ _ KG
  have c3 := cell_of_row v12 g 3 _ _ _ KG
  have c4 := cell_of_row v12 g 4 _ _ _ KG
  have c5 := cell_of_row v12 g 5 _ _ _ KG
  have c6 := cell_of_row v12 g 6 _ _ _ KG
  have c7 := cell_of_row v12 g 7 _ _ _ KG
  have c8 := cell_of_row v12 g 8 _ _ _ KG
  have c9 := cell_of_row v12 g 9 _ _ _ KG
  simp at c0 c1 c2 c3 c4 c5 c6 c7 c8 c9
  clear b12 KG KR KB hlg hlr HV
  cases OK with
  | false =>
    obtain ⟨f1, f2⟩ := HP2.out rfl
    have F1 := Lib.hid f1
    have F2 := Lib.hid f2
    clear f1 f2 HP1 HP2
    go_wp2_with fail
    refine bodyPost_ret (Ret.ret_cell_tmp rfl _ _ w.heap.size 23 _ (0, 0) _ rfl (SR.out _ _ _ _ _ _ _ _ _ _).1 Try.underlying23 rfl (by kernel_rfl)) rfl ⟨?_, (SR.out _ _ _ _ _ _ _ _ _ _).2⟩
    rw [F1.out, F2.out]
    rfl
  | true =>
    obtain ⟨f1, f2⟩ := HP1.out rfl
    have F1 := Lib.hid f1
    have F2 := Lib.hid f2
    clear f1 f2 HP1 HP2
    go_wp2_with fail
    refine bodyPost_ret (Ret.ret_cell_tmp rfl _ _ w.heap.size 23 _ (0, 0) _ rfl (SR.out _ _ _ _ _ _ _ _ _ _).1 Try.underlying23 rfl (by kernel_rfl)) rfl ⟨?_, (SR.out _ _ _ _ _ _ _ _ _ _).2⟩
    rw [F1.out, F2.out]
    rfl

theorem says : Says where
  valid := valid_any
  bytes := bytes_fmt
  parse := parse_any
  standard := standard_any
  value := value_any
  colour := colour_any
  quant := quant_any
  size := size_any
  put := fput_any
  get := fget_any
  compact := compact_any
  cput := fcput_any
  cget := fcget_any
end Go.Proofs.Ytkpmmfbheghocaa.Fmt
