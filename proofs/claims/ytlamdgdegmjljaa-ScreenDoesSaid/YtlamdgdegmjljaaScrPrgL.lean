/-
  The program's Move, Part, Image.
-/
import Derived.Test.YtlamdgdegmjljaaScrPrgK
namespace Go.Proofs.Ytlamdgdegmjljaa.Scr
open Go.ChangeShapes Go.WideShapes Go.ChangeAt Go.RowKit Lz RowG RegVal Reg
set_option linter.unusedVariables false
set_option maxRecDepth 100000

theorem move_any {w : World} {b : Nat} {W H : Int} {l : List Int} {F : List Nat} (h : lies w b W H l F) (r s : Rc) : Calls Try.prog 17 #[ptr b, r.v, s.v] w (Drew lies w b W H (moveS W H r s l) F (moveE W H r s)) := by
  obtain ⟨g, rfl, h⟩ := h
  unfold moveS moveE
  cases hr : insB r W H with
  | false => exact (move_out1 h r s hr).mono fun e w' ⟨he, hb⟩ => ⟨he, drew_same h hb⟩
  | true =>
    cases hs : insB s W H with
    | false => exact (move_out2 h r s hr hs).mono fun e w' ⟨he, hb⟩ => ⟨he, drew_same h hb⟩
    | true =>
      cases ha : alike r s with
      | false => exact (move_not h r s hr hs ha).mono fun e w' ⟨he, hb⟩ => ⟨he, drew_same h hb⟩
      | true => exact (move_in h r s hr hs ha).mono fun e w' ⟨he, h1, h2⟩ => ⟨he, drew_new h1 h2⟩
set_option maxHeartbeats 1000000 in
theorem part_any {w : World} {b : Nat} {W H : Int} {l : List Int} {F : List Nat} (h : lies w b W H l F) (r : Rc) : Calls Try.prog 21 #[ptr b, r.v] w fun e w' => ∃ u, e = .returned (.tuple #[u, .int .i64 (partE W H r)]) ∧ IntsAt w.heap.size w' u (partS W H r l) ∧ Below w.heap.size w w' := by
  obtain ⟨g, rfl, h⟩ := h
  unfold partS partE
  have i1 := RAt.box w r 35
  have b1 := (Below.refl w.heap.size w).alloc (Nat.le_refl _) (.cells #[.int .i64 r.x, .int .i64 r.y, .int .i64 r.w, .int .i64 r.h] 35)
  have z1 := alloc_size w (.cells #[.int .i64 r.x, .int .i64 r.y, .int .i64 r.w, .int .i64 r.h] 35)
  have C1 := Lib.hid (has_any (h.below b1 (Nat.le_refl _)) r)
  cases hr : insB r W H with
  | false =>
    rw [hr] at C1
    obtain ⟨rx, ry, rw', rh⟩ := r
    unfold Rc.v ptr at *
    simp only at *
    obtain ⟨w1, hw1⟩ : ∃ w1, w.alloc (.cells #[.int .i64 rx, .int .i64 ry, .int .i64 rw', .int .i64 rh] 35) = w1 := ⟨_, rfl⟩
    rw [hw1] at i1 b1 C1
    obtain ⟨r0, r1, r2, r3⟩ := i1
    simp only at r0 r1 r2 r3
    have B1 := Lib.hid b1
    clear b1 h hr
    go_enter Try.func21, Try.ntmps21
    go_wp2_with fail
    refine C1.out.mono ?_
    rintro e w2 ⟨rfl, b2⟩
    have B2 := Lib.hid (below_n B1.out b2)
    clear b2
    go_wp2_with fail
    go_ret2
    exact ⟨_, rfl, RowAt.nil _ _ _ _, B2.out⟩
  | true =>
    rw [hr] at C1
    have KT := Lib.hid (fun W0 (k : Below w.heap.size w W0) => take_any (h.below k (Nat.le_refl _)) r hr)
    show Calls _ _ _ _ (fun e w' => ∃ u, e = .returned (.tuple #[u, .int .i64 0]) ∧ IntsAt w.heap.size w' u (partL W r l) ∧ Below w.heap.size w w')
    generalize partL W r l = q at *
    obtain ⟨rx, ry, rw', rh⟩ := r
    unfold Rc.v ptr at *
    simp only at *
    obtain ⟨w1, hw1⟩ : ∃ w1, w.alloc (.cells #[.int .i64 rx, .int .i64 ry, .int .i64 rw', .int .i64 rh] 35) = w1 := ⟨_, rfl⟩
    rw [hw1] at i1 b1 C1 z1
    have I1 := Lib.hid i1
    obtain ⟨r0, r1, r2, r3⟩ := i1
    simp only at r0 r1 r2 r3
    have B1 := Lib.hid b1
    clear b1 h hr
    go_enter Try.func21, Try.ntmps21
    go_wp2_with fail
    refine C1.out.mono ?_
    rintro e w2 ⟨rfl, b2⟩
    have B2 := Lib.hid (below_n B1.out b2)
    have i2 := I1.out.below b2 (by omega)
    have C2 := Lib.hid (KT.out w2 B2.out)
    clear b2 r0 r1 r2 r3 C1 KT
    obtain ⟨r0, r1, r2, r3⟩ := i2
    simp only at r0 r1 r2 r3
    go_wp2_with fail
    refine C2.out.mono ?_
    rintro e w3 ⟨u, rfl, hu, b3⟩
    have HU := Lib.hid (RowAt.base hu B2.out.size)
    have B3 := Lib.hid (below_n B2.out b3)
    obtain ⟨ua, un, uc, rfl⟩ := shape4 hu
    clear hu b3 r0 r1 r2 r3 C2
    go_wp2_with fail
    go_ret2
    exact ⟨_, rfl, HU.out, B3.out⟩
theorem whole_part {W H : Int} {l : List Int} (ok : ImOk W H l) : partL W ⟨0, 0, W, H⟩ l = l := by
  have hw := ok.w
  have hh := ok.h
  have hr : insB ⟨0, 0, W, H⟩ W H = true := ins_iff.2 (by simp only; omega)
  have hl := part_length ok hr
  refine row_ext ?_ (fun i hi => ?_)
  · have := ok.n
    simp only at hl
    omega
  · have hn := ok.n
    simp only at hl
    obtain ⟨p0, p1, p2, p3, p4⟩ := ok.place (i := i) (by omega)
    have hin : inB ⟨0, 0, W, H⟩ ((i : Int) % W) ((i : Int) / W) = true := in_iff.2 (by simp only; omega)
    have := part_at ok hr hin
    simp only [Int.sub_zero] at this
    rw [p4, Int.toNat_natCast] at this
    exact this
set_option maxHeartbeats 1000000 in
theorem image_any {w : World} {b : Nat} {W H : Int} {l : List Int} {F : List Nat} (h : lies w b W H l F) : Calls Try.prog 26 #[ptr b] w fun e w' => ∃ u, e = .returned (imgV W H u) ∧ IntsAt w.heap.size w' u l ∧ Below w.heap.size w w' := by
  obtain ⟨g, rfl, h⟩ := h
  have z1 := alloc_size w (.cells #[.int .i64 0, .int .i64 0, .slice none 0 0] 32)
  have o1 := heap_alloc_new w (.cells #[.int .i64 0, .int .i64 0, .slice none 0 0] 32)
  have b1 := (Below.refl w.heap.size w).alloc (Nat.le_refl _) (.cells #[.int .i64 0, .int .i64 0, .slice none 0 0] 32)
  have C1 := Lib.hid (size_any (h.below b1 (Nat.le_refl _)))
  have C2 := Lib.hid (fun W0 => whole_any W H W0)
  have KT := Lib.hid (fun W0 (k : Below w.heap.size w W0) => take_any (h.below k (Nat.le_refl _)) ⟨0, 0, W, H⟩ (ins_iff.2 (by have := h.ok.w; have := h.ok.h; simp only; omega)))
  rw [whole_part h.ok] at KT
  obtain ⟨w1, hw1⟩ : ∃ w1, w.alloc (.cells #[.int .i64 0, .int .i64 0, .slice none 0 0] 32) = w1 := ⟨_, rfl⟩
  rw [hw1] at z1 o1 b1 C1
  unfold Rc.v ptr at *
  simp only at *
  have B1 := Lib.hid b1
  have O1 := Lib.hid o1
  clear b1 o1 h
  go_enter Try.func26, Try.ntmps26
  go_wp2_with fail
  refine C1.out.mono ?_
  rintro e w' ⟨rfl, q, rfl⟩
  have B2 := Lib.hid (below_q B1.out q)
  have O2 : RowKit.Hid ((w1.drewN q).heap[w.heap.size]? = _) := Lib.hid O1.out
  have Z2 : RowKit.Hid ((w1.drewN q).heap.size = _) := Lib.hid z1
  clear B1 O1 C1
  generalize w1.drewN q = w2 at *
  have D2 := Lib.hid (C2.out w2)
  go_wp2_with fail
  refine D2.out.mono ?_
  rintro e w3 ⟨rfl, b3⟩
  have B3 := Lib.hid (below_n B2.out b3)
  have O3 := Lib.hid ((b3.block w.heap.size (by rw [Z2.out]; omega)).trans O2.out)
  have Z3 : RowKit.Hid (w.heap.size < w3.heap.size) := Lib.hid (by have := b3.size; have := Z2.out; omega)
  have D3 := Lib.hid (KT.out w3 B3.out)
  clear b3 D2 C2 KT
  go_wp2_with fail
  refine D3.out.mono ?_
  rintro e w4 ⟨u, rfl, hu, b4⟩
  have HU := Lib.hid (RowAt.base hu B3.out.size)
  have hb0 := hu.2.1
  have o4 := (b4.block w.heap.size Z3.out).trans O3.out
  have B4 := Lib.hid (below_n B3.out b4)
  have HNE : RowKit.Hid (∀ k, u.ownBlock = some k → k ≠ w.heap.size) := Lib.hid (fun k hk e => by have := hb0 k hk; have := Z3.out; omega)
  obtain ⟨ua, un, uc, rfl⟩ := shape4 hu
  have HO := Lib.hid o4
  have x0 := cell_of_row w4 w.heap.size 0 _ _ _ o4
  have x1 := cell_of_row w4 w.heap.size 1 _ _ _ o4
  have x2 := cell_of_row w4 w.heap.size 2 _ _ _ o4
  have fz : ∀ i, w4.frozen? ⟨w.heap.size, i, none⟩ = false := fun i => frozen_of_row w4 w.heap.size i _ _ o4
  simp at x0 x1 x2
  clear hu b4 D3 hb0 o4
  go_wp2_with fail
  refine bodyPost_ret (Ret.ret_cell rfl _ _ w.heap.size 32 _ (0, 0) _ rfl (store3 HO.out _ _ _) Try.underlying32 rfl (by kernel_rfl)) rfl ⟨_, rfl, ?_, below_store3 B4.out (Nat.le_refl _) _ _ _⟩
  have hown := HU.out
  refine ⟨own_block hown.1 (fun k hk => ?_), hown.2⟩
  have hne := HNE.out k hk
  rw [heap_setCell_other _ _ _ _ (by simpa using hne), heap_setCell_other _ _ _ _ (by simpa using hne), heap_setCell_other _ _ _ _ (by simpa using hne)]
end Go.Proofs.Ytlamdgdegmjljaa.Scr
