/-
  The program's Fill.
-/
import Derived.Test.YtlamdgdegmjljaaScrPrgH
namespace Go.Proofs.Ytlamdgdegmjljaa.Scr
open Go.ChangeShapes Go.WideShapes Go.ChangeAt Go.RowKit Go.Shelf Lz RowG RegVal Reg
set_option linter.unusedVariables false
set_option maxRecDepth 100000
attribute [local go_sem] Oper.semAt_some

theorem fill_blit {W H : Int} {l : List Int} (ok : ImOk W H l) {r : Rc} (hr : insB r W H = true) (c : Int) : blitL W r (gen (r.w * r.h).toNat (fun _ => c)) l = fillL W r c l := by
  unfold blitL fillL
  refine gen_congr (fun i hi => ?_)
  unfold blitF fillF
  by_cases h : inB r (i % W) (i / W) = true
  · have := spot h
    rw [if_pos h, if_pos h, px_gen (by omega)]
  · rw [if_neg h, if_neg h]
set_option maxHeartbeats 1000000 in
theorem fill_out {w : World} {b g : Nat} {W H : Int} {l : List Int} (h : ScrAt w b g W H l) (r : Rc) (c : Int) (hr : insB r W H = false) :
    Calls Try.prog 13 #[ptr b, r.v, .int .i64 c] w fun e w' => e = .returned (.int .i64 140) ∧ Below w.heap.size w w' := by
  have i1 := RAt.box w r 35
  have b1 := (Below.refl w.heap.size w).alloc (Nat.le_refl _) (.cells #[.int .i64 r.x, .int .i64 r.y, .int .i64 r.w, .int .i64 r.h] 35)
  have C1 := Lib.hid (has_any (h.below b1 (Nat.le_refl _)) r)
  rw [hr] at C1
  obtain ⟨rx, ry, rw', rh⟩ := r
  unfold Rc.v ptr at *
  simp only at *
  obtain ⟨w1, hw1⟩ : ∃ w1, w.alloc (.cells #[.int .i64 rx, .int .i64 ry, .int .i64 rw', .int .i64 rh] 35) = w1 := ⟨_, rfl⟩
  rw [hw1] at i1 b1 C1
  obtain ⟨r0, r1, r2, r3⟩ := i1
  simp only at r0 r1 r2 r3
  have B1 := Lib.hid b1
  clear b1 h hr
  go_enter Try.func13, Try.ntmps13
  go_wp2_with fail
  refine C1.out.mono ?_
  rintro e w2 ⟨rfl, b2⟩
  have B2 := Lib.hid (below_n B1.out b2)
  clear b2
  go_wp2_with fail
  go_ret
  exact ⟨rfl, B2.out⟩
set_option maxHeartbeats 1000000 in
theorem fill_col {w : World} {b g : Nat} {W H : Int} {l : List Int} (h : ScrAt w b g W H l) (r : Rc) (c : Int) (hr : insB r W H = true) (hc : colB c = false) :
    Calls Try.prog 13 #[ptr b, r.v, .int .i64 c] w fun e w' => e = .returned (.int .i64 1) ∧ Below w.heap.size w w' := by
  have i1 := RAt.box w r 35
  have b1 := (Below.refl w.heap.size w).alloc (Nat.le_refl _) (.cells #[.int .i64 r.x, .int .i64 r.y, .int .i64 r.w, .int .i64 r.h] 35)
  have C1 := Lib.hid (has_any (h.below b1 (Nat.le_refl _)) r)
  rw [hr] at C1
  have C2 := Lib.hid (fun W0 => noColour_any c W0)
  rw [hc] at C2
  obtain ⟨rx, ry, rw', rh⟩ := r
  unfold Rc.v ptr at *
  simp only at *
  obtain ⟨w1, hw1⟩ : ∃ w1, w.alloc (.cells #[.int .i64 rx, .int .i64 ry, .int .i64 rw', .int .i64 rh] 35) = w1 := ⟨_, rfl⟩
  rw [hw1] at i1 b1 C1
  obtain ⟨r0, r1, r2, r3⟩ := i1
  simp only at r0 r1 r2 r3
  have B1 := Lib.hid b1
  clear b1 h hr hc
  go_enter Try.func13, Try.ntmps13
  go_wp2_with fail
  refine C1.out.mono ?_
  rintro e w2 ⟨rfl, b2⟩
  have B2 := Lib.hid (below_n B1.out b2)
  have D2 := Lib.hid (C2.out w2)
  clear b2 r0 r1 r2 r3 C1
  go_wp2_with fail
  refine D2.out.mono ?_
  rintro e w' ⟨rfl, rfl⟩
  go_wp2_with fail
  go_ret
  exact ⟨rfl, B2.out⟩
set_option maxHeartbeats 4000000 in
theorem fill_in {w : World} {b g : Nat} {W H : Int} {l : List Int} (h : ScrAt w b g W H l) (r : Rc) (c : Int) (hr : insB r W H = true) (hc : colB c = true) :
    Calls Try.prog 13 #[ptr b, r.v, .int .i64 c] w fun e w' => e = .returned (.int .i64 0) ∧ ScrAt w' b g W H (fillL W r c l) ∧ Touch w w' [g] := by
  have hok := h.ok
  have HBL := Lib.hid (hok.fill r hc)
  have HFB := Lib.hid (fill_blit hok hr c)
  have hrr := ins_iff.1 hr
  have hlt := h.lt
  have i1 := RAt.box w r 35
  have b1 := (Below.refl w.heap.size w).alloc (Nat.le_refl _) (.cells #[.int .i64 r.x, .int .i64 r.y, .int .i64 r.w, .int .i64 r.h] 35)
  have z1 := alloc_size w (.cells #[.int .i64 r.x, .int .i64 r.y, .int .i64 r.w, .int .i64 r.h] 35)
  have C1 := Lib.hid (has_any (h.below b1 (Nat.le_refl _)) r)
  rw [hr] at C1
  have C2 := Lib.hid (fun W0 => noColour_any c W0)
  rw [hc] at C2
  obtain ⟨rx, ry, rw', rh⟩ := r
  simp only at hrr
  obtain ⟨m, rfl⟩ : ∃ m : Nat, rw' = m := ⟨rw'.toNat, by omega⟩
  obtain ⟨N, rfl⟩ : ∃ N : Nat, rh = N := ⟨rh.toNat, by omega⟩
  obtain ⟨M, hM⟩ : ∃ M, l.length = M := ⟨_, rfl⟩
  have hm4 : m ≤ 4096 := by have := hok.w; omega
  have hN4 : N ≤ 4096 := by have := hok.h; omega
  obtain ⟨q, hq⟩ : ∃ q, gen (N * m) (fun _ => c) = q := ⟨_, rfl⟩
  have HQ : RowKit.Hid (∀ k j, k < N → j < m → c = px q (k * m + j)) := Lib.hid (fun k j hk hj => by
    rw [← hq, px_gen]
    have := Nat.mul_le_mul_right m (show k + 1 ≤ N by omega)
    rw [Nat.add_mul, Nat.one_mul] at this
    omega)
  have hfb := HFB.out
  simp only at hfb
  rw [← Int.natCast_mul, Int.toNat_natCast, Nat.mul_comm, hq] at hfb
  have HFB := Lib.hid hfb
  clear hfb hq
  unfold Rc.v ptr at *
  simp only at *
  obtain ⟨w1, hw1⟩ : ∃ w1, w.alloc (.cells #[.int .i64 rx, .int .i64 ry, .int .i64 m, .int .i64 N] 35) = w1 := ⟨_, rfl⟩
  rw [hw1] at i1 b1 C1 z1
  have HH := Lib.hid h
  have HR := Lib.hid hr
  have HM := Lib.hid hM
  have HOK := Lib.hid hok
  have HRR := Lib.hid hrr
  have I1 := Lib.hid i1
  obtain ⟨r0, r1, r2, r3⟩ := i1
  simp only at r0 r1 r2 r3
  have B1 := Lib.hid b1
  clear b1 h hr hc hM hok hrr
  refine (callsIn_wide (n := 5)).1 ?_
  refine callsIn_of_wp_marks Try.func13 rfl trivial ?_ rfl
  simp only [Try.ntmps13, List.size_toArray, List.length_cons, List.length_nil, Nat.reduceAdd, Nat.reduceSub, Array.replicate_succ, Array.replicate_zero, List.push_toArray, List.append_toArray, List.nil_append, List.cons_append]
  gi_wp2
  refine ⟨trivial, (callsIn_wide.2 C1.out).mono ?_⟩
  rintro e w2 ⟨rfl, b2⟩
  have i2 := I1.out.below b2 (by omega)
  have B2 := Lib.hid (below_n B1.out b2)
  have D2 := Lib.hid (C2.out w2)
  have HW2 := Lib.hid b2.size
  clear b2 r0 r1 r2 r3 C1 I1 B1 hw1
  have S2 := Lib.hid (HH.out.below B2.out (Nat.le_refl _))
  have I2 := Lib.hid i2
  obtain ⟨r0, r1, r2, r3⟩ := i2
  simp only at r0 r1 r2 r3
  gi_wp2
  refine ⟨trivial, (callsIn_wide.2 D2.out).mono ?_⟩
  rintro e w' ⟨rfl, hw'⟩
  subst w'
  have x3 := box1 w2 #[.int .i64 c] 3
  have z3 := alloc_size w2 (.cells #[.int .i64 c] 3)
  obtain ⟨k3, x3⟩ := x3
  have x3 := x3 0 _ rfl
  obtain ⟨w3, hw3⟩ : ∃ w3, w2.alloc (.cells #[.int .i64 c] 3) = w3 := ⟨_, rfl⟩
  rw [hw3] at k3 x3 z3
  have hw2 := HW2.out
  have i3 := I2.out.below k3 (by omega)
  have B3 := Lib.hid (below_n B2.out k3)
  have I3 := Lib.hid i3
  have S3 := Lib.hid (HH.out.below B3.out (Nat.le_refl _))
  have C4 := Lib.hid (repeat_any c w2.heap.size m w3 x3 (by omega) (by omega))
  rw [z3] at C4
  clear r0 r1 r2 r3 x3 k3 D2 C2 HW2
  obtain ⟨r0, r1, r2, r3⟩ := i3
  simp only at r0 r1 r2 r3
  gi_wp2
  refine ⟨trivial, (callsIn_wide.2 C4.out).mono ?_⟩
  rintro e w4 ⟨rfl, hl4, b4⟩
  have i4 := I3.out.below b4 (by omega)
  have B4 := Lib.hid (B3.out.trans (b4.mono (by omega)))
  have hs4 := b4.size
  have x5 := box1 w4 #[.slice (some ⟨w2.heap.size + 1, 0, none⟩) m m] 30
  have z5 := alloc_size w4 (.cells #[.slice (some ⟨w2.heap.size + 1, 0, none⟩) m m] 30)
  obtain ⟨k5, x5⟩ := x5
  have x5 := x5 0 _ rfl
  obtain ⟨w5, hw5⟩ : ∃ w5, w4.alloc (.cells #[.slice (some ⟨w2.heap.size + 1, 0, none⟩) m m] 30) = w5 := ⟨_, rfl⟩
  rw [hw5] at k5 x5 z5
  have i5 := i4.below k5 (by omega)
  have B5 := Lib.hid (below_n B4.out k5)
  have hl5 := (k5.block _ (Array.getElem?_eq_some_iff.1 hl4).1).trans hl4
  have hl5lt := (Array.getElem?_eq_some_iff.1 hl5).1
  have I5 := Lib.hid i5
  have C0 := Lib.hid (rows_any b ⟨rx, ry, m, N⟩ w5)
  have z6 := alloc_size w5 (.cells #[ptr b] 25)
  obtain ⟨k6, x6⟩ := box1 w5 #[ptr b] 25
  have x6 := x6 0 _ rfl
  obtain ⟨w6, hw6⟩ : ∃ w6, w5.alloc (.cells #[ptr b] 25) = w6 := ⟨_, rfl⟩
  simp only at C0
  rw [hw6] at z6 k6 x6 C0
  have z7 := alloc_size w6 (.cells #[.int .i64 rx, .int .i64 ry, .int .i64 m, .int .i64 N] 35)
  have i7 := RAt.box w6 ⟨rx, ry, m, N⟩ 35
  have k7 := (Below.refl w6.heap.size w6).alloc (Nat.le_refl _) (.cells #[.int .i64 rx, .int .i64 ry, .int .i64 m, .int .i64 N] 35)
  simp only at i7
  obtain ⟨w7, hw7⟩ : ∃ w7, w6.alloc (.cells #[.int .i64 rx, .int .i64 ry, .int .i64 m, .int .i64 N] 35) = w7 := ⟨_, rfl⟩
  rw [hw7] at z7 k7 i7 C0
  have B7 := Lib.hid (below_n (below_n B5.out k6) k7)
  have hS := HH.out.below B7.out (Nat.le_refl _)
  rw [z6] at i7
  rw [z5] at i7 x6 C0
  have hb5 := B5.out.size
  have s7 : w7.cell? ⟨w4.heap.size + 1, 0, none⟩ = some (.pointer (some ⟨b, 0, none⟩)) := (k7.cell (p := ⟨w4.heap.size + 1, 0, none⟩) (by show w4.heap.size + 1 < _; omega)).trans x6
  have p7 : w7.cell? ⟨w4.heap.size, 0, none⟩ = some (.slice (some ⟨w2.heap.size + 1, 0, none⟩) m m) := (k7.cell (p := ⟨w4.heap.size, 0, none⟩) (by show w4.heap.size < _; omega)).trans ((k6.cell (p := ⟨w4.heap.size, 0, none⟩) (by show w4.heap.size < _; omega)).trans x5)
  have l7 : w7.heap[w2.heap.size + 1]? = some (.cells (fil c m m).toArray 3 (0, 0)) := (k7.block _ (by omega)).trans ((k6.block _ (by omega)).trans hl5)
  obtain ⟨sc0, sc1, sc2⟩ := hS.cells
  rw [HM.out] at sc2
  have hC : Caps w7 (w4.heap.size + 1 + 1) (w4.heap.size + 1) b W H ⟨rx, ry, m, N⟩ g M := ⟨s7, i7, sc0, sc2⟩
  have hseq := rows_stops 4 (by decide) (w4.heap.size + 1 + 1) (w4.heap.size + 1) b g W H l HOK.out ⟨rx, ry, m, N⟩ HR.out N rfl M HM.out w7 hC (fun k hk => by
    simp only [List.mem_cons, List.mem_nil_iff, or_false] at hk
    rcases hk with rfl | rfl | rfl <;> omega)
  have SRC : RowKit.Hid (∀ Wd, Touch w7 Wd [g] → ∀ j, j < m → Wd.cell? ⟨w2.heap.size + 1, j, none⟩ = some (.int .i64 c)) := Lib.hid (fun Wd ht j hj => by
    refine ht.cell (by omega) (by simp; omega) ?_
    rw [cell_of_row _ _ _ _ _ _ l7, List.getElem?_toArray, fil_get _ _ _ _ (by omega)])
  have hbg : b < w7.heap.size ∧ g < w7.heap.size := hS.lt
  have hl4lt := (Array.getElem?_eq_some_iff.1 hl4).1
  have hsz : w.heap.size + 1 ≤ w2.heap.size ∧ w2.heap.size + 2 ≤ w4.heap.size ∧ w7.heap.size = w4.heap.size + 3 := ⟨by omega, by omega, by omega⟩
  have HS7 := Lib.hid hS
  have HSEQ := Lib.hid hseq
  clear hl4lt r0 r1 r2 r3 b4 C4 I3 B3 S3 S2 I2 B2 k5 x5 z5 hl4 hl5 hl5lt i4 i7 k6 x6 k7 hS l7 s7 hC hseq sc0 sc1 sc2 hs4 z3 z6 z7 hb5 B4 I5 hw3
  obtain ⟨r0, r1, r2, r3⟩ := i5
  simp only at r0 r1 r2 r3
  unfold ptr at C0 hw6
  gi_wp2
  refine ⟨trivial, (callsIn_wide.2 C0.out).mono ?_⟩
  rintro e w' ⟨rfl, hw'⟩
  subst w'
  clear r0 r1 r2 r3
  gi_wp2
  have hS7 := HS7.out
  have h1 := hsz
  refine wpIn_rangeFunc_ownF (F := Fence.wide) (n := 5) rfl (by decide) (gf := 47) (lb := #[.pointer (some ⟨w4.heap.size + 1 + 1, 0, none⟩), .pointer (some ⟨w4.heap.size + 1, 0, none⟩)]) rfl trivial (enters_of Try.func47 (by kernel_rfl) rfl) HSEQ.out
    (fun h k => h.trans k) (Same.put (fun k hk => by
      simp only [List.mem_cons, List.mem_nil_iff, or_false] at hk
      rcases hk with rfl | rfl | rfl <;> omega)) (Below.refl _ _) (fun _ => rfl)
    (fun (pre : List (Fin N)) W' => W'.heap[g]? = some (.cells (ints (mixR W ⟨rx, ry, m, N⟩ q l (pre.map (·.1)))).toArray 3 (0, 0)) ∧ Touch w7 W' [g])
    (fun _ _ _ => False)
    (own_row (α := Fin N) (w := w7) (g := g) (by omega) 3 (fun (pre : List (Fin N)) => (ints (mixR W ⟨rx, ry, m, N⟩ q l (pre.map (·.1)))).toArray))
    (fun _ _ _ _ _ hs _ _ => hs)
    ⟨by rw [List.map_nil, mixR_nil]; exact HS7.out.row, Touch.of_below (Below.refl _ _) _⟩
    (fun x => { tmps := #[.pointer (some ⟨b, 0, none⟩), .agg #[.int .i64 rx, .int .i64 ry, .int .i64 m, .int .i64 N], .int .i64 c, undef, .pointer (some ⟨w.heap.size, 0, none⟩), undef, .int .i64 0, .pointer (some ⟨w4.heap.size, 0, none⟩), undef, cutV g M (rowO W ⟨rx, ry, m, N⟩ x.1) ((m : Int).toNat), .pointer (some ⟨b, 0, none⟩), .agg #[.int .i64 rx, .int .i64 ry, .int .i64 m, .int .i64 N], .bool true, .bool false, .int .i64 c, .bool false, .int .i64 c, .slice (some ⟨w2.heap.size, 0, none⟩) 1 1, .pointer (some ⟨w.heap.size, 2, none⟩), .int .i64 m, .slice (some ⟨w2.heap.size + 1, 0, none⟩) m m, .pointer (some ⟨b, 0, none⟩), .agg #[.int .i64 rx, .int .i64 ry, .int .i64 m, .int .i64 N], .func (.func 47) #[] #[.pointer (some ⟨w4.heap.size + 1 + 1, 0, none⟩), .pointer (some ⟨w4.heap.size + 1, 0, none⟩)], .int .i64 (x.1 : Int), cutV g M (rowO W ⟨rx, ry, m, N⟩ x.1) ((m : Int).toNat), undef, undef, undef], defers := [] }) ?assign ?body ?done ?stop
  case assign =>
    intro l x W K hK
    simp only [rowE]
    gi_wp2
    exact hK
  case body =>
    rintro l2 pre ⟨k, hkN⟩ W2 ⟨hrow, ht⟩ _
    have e2 := (rowO_in HOK.out HR.out (i := k) (by simp only; omega)).2.1
    rw [HM.out] at e2
    have hne : w4.heap.size ∉ [g] := by simp; omega
    have d1 := ht.cell (by omega) hne p7
    obtain ⟨W3, hcp, hrow3, ht3, hk3⟩ := copy_run W2 g M (rowO W ⟨rx, ry, m, N⟩ k) ((m : Int).toNat) (mixR W ⟨rx, ry, m, N⟩ q l (pre.map (·.1))) (by rw [mixR_length]; exact HM.out) hrow e2
      (some ⟨w2.heap.size + 1, 0, none⟩) m m m (by rw [Int.toNat_natCast]; omega) (fun j => c) (fun h0 => ⟨w2.heap.size + 1, 0, rfl, fun j hj => by
        rw [Nat.zero_add]
        exact SRC.out W2 ht j hj⟩)
    rw [mixR_step HOK.out HR.out (by simp only; omega) q (pre.map (·.1)) M m HM.out rfl _ (fun j hj => HQ.out k j hkN hj)] at hrow3
    dsimp only
    generalize cutV g M (rowO W ⟨rx, ry, m, N⟩ k) ((m : Int).toNat) = CV at *
    have HRO := Lib.hid hrow3
    have HT3 := Lib.hid ht3
    have HK3 := Lib.hid hk3
    have HT := Lib.hid ht
    clear e2 hne hrow ht hrow3 ht3 hk3 SRC HSEQ C0 p7 hw5 hw6 hw7 hS7 hm4 hN4
    gi_wp2
    refine ⟨HK3.out, fun k hk => HT3.out.block k ?_ ?_, ?_, HT.out.trans2 HT3.out⟩
    · have := HT.out.size
      simp only [List.mem_cons, List.mem_nil_iff, or_false] at hk
      rcases hk with rfl | rfl | rfl <;> omega
    · simp only [List.mem_cons, List.mem_nil_iff, or_false] at hk ⊢
      rcases hk with rfl | rfl | rfl
      · omega
      · omega
      · exact HS7.out.ne
    · have := HRO.out
      rwa [List.map_append]
  case done =>
    rintro D ys W2 hD rfl ⟨hrow, ht⟩ hK
    have HK := Lib.hid hK
    have HT := Lib.hid ht
    have HRW := Lib.hid hrow
    clear hK ht hrow hS7
    gi_wp2
    refine ⟨by simp, .inl ⟨_, _, rfl, run_takeDeferred HK.out, ?_⟩⟩
    have hw := (HT.out.put D (.deferred none) hD)
    refine ⟨_, results_tmp rfl _ _ _, rfl, ⟨HBL.out, HS7.out.ne, ?_, ?_⟩, ?_⟩
    · rw [hw.block b (by omega) (by simpa using HS7.out.ne)]
      have := HS7.out.head
      unfold fillL
      rw [gen_length]
      exact this
    · have hgd : g ≠ D := by omega
      rw [World.putObj_heap_other hgd, HRW.out]
      rw [mixR_all rfl, HFB.out]
    · exact ⟨hw.os.trans B7.out.os, hw.tape.trans B7.out.tape, hw.output.trans B7.out.output, Nat.le_trans B7.out.size hw.size, fun k hk hm => (hw.block k (by omega) hm).trans (B7.out.block k hk)⟩
  case stop =>
    rintro D c pre W2 _ _ hf _
    exact hf.elim
end Go.Proofs.Ytlamdgdegmjljaa.Scr
