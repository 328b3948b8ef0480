/-
  Contracts of the reference's reader of layer 2.
-/
import Derived.Test.YtikfenimgjeplaaBitRefS
namespace Go.Proofs.Ytikfenimgjeplaa.Bit
open Go.ChangeShapes Go.WideShapes Go.ChangeAt Go.RowKit
set_option linter.unusedVariables false
set_option maxRecDepth 100000

/-- Block b holds a reference's reader of the row T, which lies in v; i bits passed. -/
structure RfAt (w : World) (b : Nat) (v : Value) (T : List Bool) (i : Nat) (bad : Bool) : Prop where
  blk : w.heap[b]? = some (.cells #[v, .int .i64 i, .int .i64 (errI bad)] 58 (0, 0))
  row : BlAt w v T

theorem RfAt.lt {w : World} {b : Nat} {v : Value} {T : List Bool} {i : Nat} {e : Bool} (h : RfAt w b v T i e) : b < w.heap.size := (Array.getElem?_eq_some_iff.1 h.blk).1

theorem RfAt.cells {w : World} {b : Nat} {v : Value} {T : List Bool} {i : Nat} {e : Bool} (h : RfAt w b v T i e) :
    w.cell? ⟨b, 0, none⟩ = some v ∧ w.cell? ⟨b, 1, none⟩ = some (.int .i64 i) ∧ w.cell? ⟨b, 2, none⟩ = some (.int .i64 (errI e)) ∧ w.frozen? ⟨b, 1, none⟩ = false ∧ w.frozen? ⟨b, 2, none⟩ = false := by
  refine ⟨?_, ?_, ?_, ?_, ?_⟩
  · rw [cell_of_row w b 0 _ _ _ h.blk]; rfl
  · rw [cell_of_row w b 1 _ _ _ h.blk]; rfl
  · rw [cell_of_row w b 2 _ _ _ h.blk]; rfl
  · exact frozen_of_row w b 1 _ _ h.blk
  · exact frozen_of_row w b 2 _ _ h.blk

theorem RfAt.ne {w : World} {b : Nat} {v : Value} {T : List Bool} {i : Nat} {e : Bool} (h : RfAt w b v T i e) : v.ownBlock ≠ some b := row_ne h.row h.blk (by decide)

theorem RfAt.set1 {w : World} {b : Nat} {v : Value} {T : List Bool} {i : Nat} {e : Bool} (h : RfAt w b v T i e) (j : Nat) : RfAt (w.setCell ⟨b, 1, none⟩ (.int .i64 j)) b v T j e := by
  refine ⟨?_, h.row.block fun k hk => heap_setCell_other w ⟨b, 1, none⟩ k _ (fun e => h.ne (by rw [hk, e]))⟩
  rw [heap_setCell_same w b 1 _ _ _ h.blk]; rfl
theorem RfAt.set2 {w : World} {b : Nat} {v : Value} {T : List Bool} {i : Nat} {e : Bool} (h : RfAt w b v T i e) : RfAt (w.setCell ⟨b, 2, none⟩ (.int .i64 2)) b v T i true := by
  refine ⟨?_, h.row.block fun k hk => heap_setCell_other w ⟨b, 2, none⟩ k _ (fun e => h.ne (by rw [hk, e]))⟩
  rw [heap_setCell_same w b 2 _ _ _ h.blk]; rfl
theorem RfAt.draws {w : World} {b : Nat} {v : Value} {T : List Bool} {i : Nat} {e : Bool} (h : RfAt w b v T i e) (n : Nat) : RfAt (w.drewN n) b v T i e := ⟨h.blk, h.row⟩
theorem RfAt.drew {w : World} {b : Nat} {v : Value} {T : List Bool} {i : Nat} {e : Bool} (h : RfAt w b v T i e) : RfAt w.drew b v T i e := ⟨h.blk, h.row⟩
theorem RfAt.below {w w' : World} {b : Nat} {v : Value} {T : List Bool} {i : Nat} {e : Bool} (h : RfAt w b v T i e) (k : Below w.heap.size w w') : RfAt w' b v T i e :=
  ⟨by rw [k.block b h.lt]; exact h.blk, h.row.below k⟩
theorem RfAt.kept {w w' : World} {b b2 : Nat} {v : Value} {T : List Bool} {i : Nat} {e : Bool} (h : RfAt w b v T i e) (k : w.grownBy w' (some b2)) (hb : b ≠ b2) (hv : v.ownBlock ≠ some b2) : RfAt w' b v T i e :=
  ⟨by rw [k.block b h.lt (by simp; exact hb)]; exact h.blk, h.row.block fun i hi => k.block i (World.ownsRow.lt h.row i hi).2 (fun e => hv (by rw [hi, e]))⟩

set_option maxHeartbeats 1000000 in
theorem rfbits_bad (b : Nat) (v : Value) (T : List Bool) (i : Nat) (e : Bool) (n : Int) (w : World) (h : RfAt w b v T i e) (hi : i ≤ T.length) (hT : T.length ≤ 1099511627776) (hok : rOk T i e (cnt n) = false) :
    Calls Try.prog 61 #[.pointer (some ⟨b, 0, none⟩), .int .i64 n] w fun r w' => r = .returned (.int .i64 0) ∧ RfAt w' b v T i true ∧ w.grownBy w' (some b) := by
  have hle := cnt_le n
  generalize hn : cnt n = m at *
  have HN := Lib.hid hn
  clear hn
  obtain ⟨a, cap, rfl, _⟩ := h.row.shape
  obtain ⟨q, hq⟩ : ∃ q, T.length = q := ⟨_, rfl⟩
  have H := Lib.hid h
  obtain ⟨c0, c1, c2, f1, f2⟩ := h.cells
  rw [hq] at c0 hi hT
  have HQ := Lib.hid hq
  have hok' := hok
  clear h
  cases e with
  | true =>
    have c3 : w.cell? ⟨b, 2, none⟩ = some (.int .i64 2) := c2
    clear c2 hok hok' hq
    go_enter Try.func61, Try.ntmps61
    go_wp2_with fail
    refine (count_any _ _).mono ?_
    rintro r w' ⟨rfl, rfl⟩
    rw [HN.out]
    go_wp2_with fail
    go_quiet (fail)
    have H2 := Lib.hid (H.out.draws nq)
    have G2 := Lib.hid (rgrown_drewN (World.grownBy.refl w (some b)) nq)
    obtain ⟨c4, c5, c6, f4, f5⟩ := H2.out.cells
    have c7 : (w.drewN nq).cell? ⟨b, 2, none⟩ = some (.int .i64 2) := c6
    clear c0 c1 c3 f1 f2 c6
    generalize w.drewN nq = w2 at *
    go_wp2_with fail
    go_ret
    exact ⟨rfl, H2.out, G2.out⟩
  | false =>
    have c3 : w.cell? ⟨b, 2, none⟩ = some (.int .i64 0) := c2
    have hm : q - i < m := by unfold rOk at hok; simp at hok; omega
    have k1 : IntKind.i64.wrap ((q : Int) - i) = ((q - i : Nat) : Int) := by rw [show (q : Int) - i = ((q - i : Nat) : Int) by omega]; exact IntWalk.i64_in _ (by omega)
    have k2 : decide (((q - i : Nat) : Int) < (m : Int)) = true := by simp; omega
    have k3 : ((q - i : Nat) : Int) < (m : Int) := by omega
    clear c2 hok hok' hq
    go_enter Try.func61, Try.ntmps61
    go_wp2_with fail
    refine (count_any _ _).mono ?_
    rintro r w' ⟨rfl, rfl⟩
    rw [HN.out]
    go_wp2_with fail
    go_quiet (fail)
    have H2 := Lib.hid (H.out.draws nq)
    have G2 := Lib.hid (rgrown_drewN (World.grownBy.refl w (some b)) nq)
    obtain ⟨c4, c5, c6, f4, f5⟩ := H2.out.cells
    clear c0 c1 c3 f1 f2
    generalize w.drewN nq = w2 at *
    go_wp2_with fail
    go_ret
    exact ⟨rfl, H2.out.set2, rgrown_trans G2.out (rgrown_set _ _ _ _)⟩

theorem SeesV.cut {w : World} {g cap : Nat} {T : List Bool} (h : BlAt w (.slice (some ⟨g, 0, none⟩) T.length cap) T) (i k : Nat) (hik : i + k ≤ T.length) : ∀ j, j < k → w.cell? ⟨g, i + j, none⟩ = (cellsB ((T.drop i).take k))[j]? := by
  intro j hj
  rw [World.ownsRow.cellAt h (i + j) (by omega)]
  unfold cellsB
  rw [List.getElem?_map, List.getElem?_map, List.getElem?_take_of_lt hj, List.getElem?_drop]

set_option maxHeartbeats 2000000 in
theorem rfbits_ok (b : Nat) (v : Value) (T : List Bool) (i : Nat) (n : Int) (w : World) (h : RfAt w b v T i false) (hi : i ≤ T.length) (hT : T.length ≤ 1099511627776) (hok : i + cnt n ≤ T.length) :
    Calls Try.prog 61 #[.pointer (some ⟨b, 0, none⟩), .int .i64 n] w fun r w' => r = .returned (.int .i64 (num ((T.drop i).take (cnt n)))) ∧ RfAt w' b v T (i + cnt n) false ∧ w.grownBy w' (some b) := by
  have hle := cnt_le n
  generalize hn : cnt n = m at *
  have HN := Lib.hid hn
  clear hn
  obtain ⟨q, hq⟩ : ∃ q, T.length = q := ⟨_, rfl⟩
  obtain ⟨c0, c1, c2, f1, f2⟩ := h.cells
  have c3 : w.cell? ⟨b, 2, none⟩ = some (.int .i64 0) := c2
  clear c2
  have HQ := Lib.hid hq
  have k1 : IntKind.i64.wrap ((q : Int) - i) = ((q - i : Nat) : Int) := by rw [show (q : Int) - i = ((q - i : Nat) : Int) by omega]; exact IntWalk.i64_in _ (by omega)
  have k2 : decide (((q - i : Nat) : Int) < (m : Int)) = false := by simp; omega
  have k6 : (i : Int) + m ≤ 1099511627776 := by omega
  rcases Nat.eq_zero_or_pos m with h0 | h0
  · subst h0
    have e0 : num ((T.drop i).take 0) = 0 := by simp [num]
    rw [e0]
    clear e0
    obtain ⟨a, cap, rfl, hsh⟩ := h.row.shape
    have H := Lib.hid h
    have hcap : (a = none ∧ q = 0 ∧ cap = 0) ∨ (∃ g, a = some ⟨g, 0, none⟩ ∧ q ≤ cap ∧ cap ≤ maxLen) := by
      rcases h.row.2 with ⟨e, h1⟩ | ⟨g, cp, cur, e, _, _, h2, h3, _⟩
      · simp only [Value.slice.injEq] at e
        exact .inl ⟨e.1, by omega, e.2.2⟩
      · simp only [Value.slice.injEq] at e
        obtain ⟨rfl, _, rfl⟩ := e
        exact .inr ⟨g, rfl, by omega, h3⟩
    have nc : Hid (∀ (W : World) (a : Option Addr) (c : Nat), Calls Try.prog 56 #[.slice a 0 c] W fun r w' => r = .returned (.int .i64 0) ∧ W = w') := fun W a c => number_any a c [] W (fun h => by simp at h) (by decide)
    rw [hq] at c0 hi hT hok
    clear hsh hq h
    have k4 : IntKind.i64.wrap ((i : Int) + 0) = i := IntWalk.i64_in _ (by omega)
    have k5 : IntKind.i64.wrap ((i : Int) - 0) = i := IntWalk.i64_in _ (by omega)
    go_enter Try.func61, Try.ntmps61
    go_wp2_with fail
    refine (count_any _ _).mono ?_
    rintro r w' ⟨rfl, rfl⟩
    rw [HN.out]
    go_wp2_with fail
    go_quiet (fail)
    have H2 := Lib.hid (H.out.draws nq)
    have G2 := Lib.hid (rgrown_drewN (World.grownBy.refl w (some b)) nq)
    obtain ⟨c4, c5, c6, f4, f5⟩ := H2.out.cells
    rw [HQ.out] at c4
    have c7 : (w.drewN nq).cell? ⟨b, 2, none⟩ = some (.int .i64 0) := c6
    clear c0 c1 c3 f1 f2 c6
    generalize w.drewN nq = w2 at *
    have h3 := H2.out.set1 (i + 0)
    have g3 := rgrown_trans G2.out (rgrown_set w2 b 1 (.int .i64 ((i + 0 : Nat) : Int)))
    rw [show ((i + 0 : Nat) : Int) = (i : Int) by omega] at h3 g3
    obtain ⟨c8, c9, c10, _, _⟩ := h3.cells
    rw [HQ.out] at c8
    have H3 := Lib.hid h3
    have G3 := Lib.hid g3
    clear h3 g3
    go_wp2_with fail
    clear c4 c5 c7 f4 f5 H2 G2
    generalize w2.setCell ⟨b, 1, none⟩ (.int .i64 (i : Int)) = w3 at *
    rcases hcap with ⟨rfl, rfl, rfl⟩ | ⟨g, rfl, hqc, hcm⟩
    · obtain rfl : i = 0 := by omega
      go_quiet ((go_at_call 56; exact quiet_w (nc.out _ _ _)))
      go_wp2_with fail
      go_ret
      exact ⟨rfl, H3.out.draws _, rgrown_drewN G3.out _⟩
    · have j1 : (i : Int) ≤ cap := by omega
      have j2 : (0 : Int) ≤ i := by omega
      unfold maxLen at hcm
      by_cases hic : i = cap
      · subst hic
        go_quiet ((go_at_call 56; exact quiet_w (nc.out _ _ _)))
        go_wp2_with fail
        go_ret
        exact ⟨rfl, H3.out.draws _, rgrown_drewN G3.out _⟩
      · have j3 : i < cap := by omega
        clear hic
        go_quiet ((go_at_call 56; exact quiet_w (nc.out _ _ _)))
        go_wp2_with fail
        go_ret
        exact ⟨rfl, H3.out.draws _, rgrown_drewN G3.out _⟩
  · obtain ⟨g, cap, rfl, hg, hqc, hcm, hc⟩ := h.row.row (by omega)
    have H := Lib.hid h
    rw [hq] at c0 hi hT hok hqc
    unfold maxLen at hcm
    have k4 : IntKind.i64.wrap ((i : Int) + m) = i + m := IntWalk.i64_in _ (by omega)
    have k5 : IntKind.i64.wrap ((i : Int) + m - m) = i := by rw [show (i : Int) + m - m = i by omega]; exact IntWalk.i64_in _ (by omega)
    obtain ⟨y, hy⟩ : ∃ y, (T.drop i).take m = y := ⟨_, rfl⟩
    have hyl : y.length = m := by rw [← hy, List.length_take, List.length_drop]; omega
    have nc : Hid (∀ (W : World) (hW : RfAt W b (.slice (some ⟨g, 0, none⟩) T.length cap) T (i + m) false) (c : Nat), Calls Try.prog 56 #[.slice (some ⟨g, i, none⟩) m c] W fun r w' => r = .returned (.int .i64 (num y)) ∧ W = w') := fun W hW c => by
      have := number_any (some ⟨g, i, none⟩) c y W (fun _ => ⟨g, i, rfl, (by
        rcases hW.row.row (by omega) with ⟨g', cap', e, hg', _⟩
        simp only [Value.slice.injEq, Option.some.injEq, Addr.mk.injEq] at e
        rw [e.1.1]; exact hg'), fun j hj => by rw [← hy]; exact SeesV.cut hW.row i m (by omega) j (by omega)⟩) (by omega)
      rw [hyl] at this
      exact this
    rw [hy]
    clear hc hq h hy hyl
    go_enter Try.func61, Try.ntmps61
    go_wp2_with fail
    refine (count_any _ _).mono ?_
    rintro r w' ⟨rfl, rfl⟩
    rw [HN.out]
    go_wp2_with fail
    go_quiet (fail)
    have H2 := Lib.hid (H.out.draws nq)
    have G2 := Lib.hid (rgrown_drewN (World.grownBy.refl w (some b)) nq)
    obtain ⟨c4, c5, c6, f4, f5⟩ := H2.out.cells
    rw [HQ.out] at c4
    have c7 : (w.drewN nq).cell? ⟨b, 2, none⟩ = some (.int .i64 0) := c6
    clear c0 c1 c3 f1 f2 c6
    generalize w.drewN nq = w2 at *
    have h3 := H2.out.set1 (i + m)
    have g3 := rgrown_trans G2.out (rgrown_set w2 b 1 (.int .i64 ((i + m : Nat) : Int)))
    obtain ⟨c8, c9, c10, _, _⟩ := h3.cells
    rw [show ((i + m : Nat) : Int) = (i : Int) + m by omega] at h3 g3 c8 c9 c10
    rw [HQ.out] at c8
    have H3 := Lib.hid h3
    have G3 := Lib.hid g3
    clear h3 g3
    go_wp2_with fail
    clear c4 c5 c7 f4 f5 H2 G2
    generalize w2.setCell ⟨b, 1, none⟩ (.int .i64 ((i : Int) + m)) = w3 at *
    have j1 : (i : Int) + m ≤ cap := by omega
    have j2 : (0 : Int) ≤ i := by omega
    have j3 : (i : Int) ≤ i + m := by omega
    have j4 : i < cap := by omega
    go_quiet ((go_at_call 56; exact quiet_w (nc.out _ (H3.out.draws _) _)))
    go_wp2_with fail
    go_ret
    exact ⟨rfl, H3.out.draws _, rgrown_drewN G3.out _⟩

theorem rfbits_any (b : Nat) (v : Value) (T : List Bool) (i : Nat) (e : Bool) (n : Int) (w : World) (h : RfAt w b v T i e) (hi : i ≤ T.length) (hT : T.length ≤ 1099511627776) :
    Calls Try.prog 61 #[.pointer (some ⟨b, 0, none⟩), .int .i64 n] w fun r w' => r = .returned (.int .i64 (rV T i e (cnt n))) ∧ RfAt w' b v T (rI T i e (cnt n)) (!rOk T i e (cnt n)) ∧ w.grownBy w' (some b) := by
  cases hok : rOk T i e (cnt n) with
  | false =>
    have e1 : rV T i e (cnt n) = 0 := by unfold rV; rw [hok]; rfl
    have e2 : rI T i e (cnt n) = i := by unfold rI; rw [hok]; rfl
    rw [e1, e2]
    exact rfbits_bad b v T i e n w h hi hT hok
  | true =>
    have e1 : rV T i e (cnt n) = num ((T.drop i).take (cnt n)) := by unfold rV; rw [if_pos hok]
    have e2 : rI T i e (cnt n) = i + cnt n := by unfold rI; rw [if_pos hok]
    have hq : e = false ∧ cnt n ≤ T.length - i := by
      unfold rOk at hok
      simp only [Bool.and_eq_true, Bool.not_eq_true', decide_eq_true_eq] at hok
      exact hok
    obtain ⟨rfl, hq⟩ := hq
    rw [e1, e2]
    exact rfbits_ok b v T i n w h hi hT (by omega)

end Go.Proofs.Ytikfenimgjeplaa.Bit
