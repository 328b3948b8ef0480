/-
  Contracts of the scales of symbols, and of Length, LengthOf, Distance and DistanceOf.
-/
import Derived.Test.YtikfenimgjeplaaLzRow
import Derived.Test.YtikfenimgjeplaaSymMath
namespace Go.Proofs.Ytikfenimgjeplaa.Sym
open Go.ChangeShapes Go.WideShapes Go.ChangeAt Go.RowKit
set_option linter.unusedVariables false

/-- A scale's value. -/
def sc (f c a k : Nat) : Array Value := #[.int .i64 f, .int .i64 c, .int .i64 a, .int .i64 k]

theorem bits_any (f c a k i : Nat) (hk : k = 4 ∨ k = 2) (hi : i ≤ 1000000) (w : World) :
    Calls Try.prog 66 #[.agg (sc f c a k), .int .i64 i] w fun e w' => e = .returned (.int .i64 (bt k i : Nat)) ∧ Below w.heap.size w w' := by
  unfold sc
  have e1 : max ((i : Int) / 4 - 1) 0 = (bt 4 i : Nat) := by unfold bt; omega
  have e2 : max ((i : Int) / 2 - 1) 0 = (bt 2 i : Nat) := by unfold bt; omega
  have H1 := Lib.hid e1
  have H2 := Lib.hid e2
  clear e1 e2
  rcases hk with rfl | rfl
  · go_enter Try.func66, Try.ntmps66
    go_wp2
    all_goals (go_ret; exact ⟨congrArg Ending.returned (congrArg (Value.int .i64) (by unfold bt; omega)), (Below.refl _ _).alloc (Nat.le_refl _) _⟩)
  · go_enter Try.func66, Try.ntmps66
    go_wp2
    all_goals (go_ret; exact ⟨congrArg Ending.returned (congrArg (Value.int .i64) (by unfold bt; omega)), (Below.refl _ _).alloc (Nat.le_refl _) _⟩)

theorem symbol_low (f c a k : Nat) (n : Int) (h : n < a) (w : World) :
    Calls Try.prog 40 #[.agg (sc f c a k), .int .i64 n] w fun e w' => e = .returned (.tuple #[.int .i64 0, .int .i64 0, .int .i64 0]) ∧ Below w.heap.size w w' := by
  unfold sc
  go_enter Try.func40, Try.ntmps40
  go_wp2
  go_ret3
  exact ⟨rfl, (Below.refl _ _).alloc (Nat.le_refl _) _⟩

theorem sc_cells {w : World} {B f c a k : Nat} {T : TypeId} (h : w.heap[B]? = some (.cells #[.int .i64 f, .int .i64 c, .int .i64 a, .int .i64 k] T (0, 0))) :
    w.cell? ⟨B, 0, none⟩ = some (.int .i64 f) ∧ w.cell? ⟨B, 1, none⟩ = some (.int .i64 c) ∧ w.cell? ⟨B, 2, none⟩ = some (.int .i64 a) ∧ w.cell? ⟨B, 3, none⟩ = some (.int .i64 k) := by
  refine ⟨?_, ?_, ?_, ?_⟩
  · rw [cell_of_row w _ 0 _ _ _ h]; rfl
  · rw [cell_of_row w _ 1 _ _ _ h]; rfl
  · rw [cell_of_row w _ 2 _ _ _ h]; rfl
  · rw [cell_of_row w _ 3 _ _ _ h]; rfl
theorem bs_small {a k : Nat} (hk : k = 4 ∨ k = 2) (ha : a ≤ 3) : ∀ j, j ≤ 31 → bs a k j ≤ 3 + j * 16384
  | 0, _ => by show a ≤ _; omega
  | j + 1, h => by
    have h1 := bs_small hk ha j (by omega)
    obtain ⟨P, e1, e2, e3, e4⟩ := (⟨2 ^ bt k j, rfl, rfl, trivial, Nat.le_trans (Nat.pow_le_pow_right (by decide) (show bt k j ≤ 14 by unfold bt; rcases hk with rfl | rfl <;> omega)) (by decide)⟩ : ∃ P : Nat, 2 ^ bt k j = P ∧ P = P ∧ True ∧ P ≤ 16384)
    show bs a k j + 2 ^ bt k j ≤ _
    omega

theorem bt_le {k i : Nat} (hk : k = 4 ∨ k = 2) (hi : i ≤ 30) : bt k i ≤ 14 := by unfold bt; rcases hk with rfl | rfl <;> omega
theorem pow_lay (q : Nat) (h : q ≤ 14) : ∃ P : Nat, 2 ^ q = P ∧ (2 : Int) ^ q = P ∧ 1 ≤ P ∧ P ≤ 16384 :=
  ⟨2 ^ q, rfl, by push_cast; rfl, Nat.one_le_two_pow, Nat.le_trans (Nat.pow_le_pow_right (by decide) h) (by decide)⟩

set_option maxHeartbeats 1000000 in
theorem symbol_any (f c a k J : Nat) (n r1 r2 r3 : Int) (hk : k = 4 ∨ k = 2) (hf : f ≤ 300) (hc : c ≤ 30) (hn0 : a ≤ n) (hn : n ≤ 9223372036854775807) (hJ : J ≤ c) (ha : a ≤ 3)
    (h1 : ∀ j, j < J → (bs a k (j + 1) : Int) ≤ n) (h2 : J < c → n < bs a k (J + 1) ∧ r1 = (f + J : Nat) ∧ r2 = n - bs a k J ∧ r3 = bt k J) (h3 : J = c → r1 = 0 ∧ r2 = 0 ∧ r3 = 0) (w : World) :
    Calls Try.prog 40 #[.agg (sc f c a k), .int .i64 n] w fun e w' => e = .returned (.tuple #[.int .i64 r1, .int .i64 r2, .int .i64 r3]) ∧ Below w.heap.size w w' := by
  have H1 := Lib.hid h1
  have H2 := Lib.hid h2
  have H3 := Lib.hid h3
  clear h1 h2 h3
  go_enter Try.func40, Try.ntmps40
  unfold sc
  have hwa : IntKind.i64.wrap (n - a) = n - a := IntWalk.i64_in _ (by omega)
  go_wp2_with fail
  have hB0 : (w.alloc (.cells #[.int .i64 f, .int .i64 c, .int .i64 a, .int .i64 k] 69)).heap[w.heap.size]? = some (.cells #[.int .i64 f, .int .i64 c, .int .i64 a, .int .i64 k] 69 (0, 0)) := heap_alloc_new _ _
  have bb : Below w.heap.size w (w.alloc (.cells #[.int .i64 f, .int .i64 c, .int .i64 a, .int .i64 k] 69)) := (Below.refl _ _).alloc (Nat.le_refl _) _
  have hsz : (w.alloc (.cells #[.int .i64 f, .int .i64 c, .int .i64 a, .int .i64 k] 69)).heap.size = w.heap.size + 1 := by simp
  generalize w.alloc (.cells #[.int .i64 f, .int .i64 c, .int .i64 a, .int .i64 k] 69) = w1 at *
  have hlw : w.heap.size < w1.heap.size := by omega
  have BB := Lib.hid bb
  have HB0 := Lib.hid hB0
  clear hsz bb hB0
  generalize hBw : w.heap.size = B at *
  have HBW := Lib.hid hBw
  clear hBw
  go_loopw [1, 19] (fun v i wr => ∃ j, j ≤ J ∧ v = .int .i64 (n - bs a k j) ∧ i = .int .i64 j ∧ Below w1.heap.size w1 wr) (fun _ i _ => J - (intOf i).toNat)
  case atStart => exact ⟨0, Nat.zero_le _, rfl, rfl, Below.refl _ _⟩
  case round =>
    obtain ⟨j, hj, rfl, rfl, hbx⟩ := hrel
    have hblk : wr.heap[B]? = some (.cells #[.int .i64 f, .int .i64 c, .int .i64 a, .int .i64 k] 69 (0, 0)) := (hbx.block B hlw).trans HB0.out
    obtain ⟨cb0, cb1, cb2, cb3⟩ := sc_cells hblk
    have hmo := bs_small (a := a) hk ha j (by omega)
    by_cases hlt : j < J
    · have hbj := H1.out j hlt
      have hbt := bt_le (k := k) (i := j) hk (by omega)
      have CB := Lib.hid (fun w => bits_any f c a k j hk (by omega) w)
      unfold sc at CB
      have hup : bs a k (j + 1) = bs a k j + 2 ^ bt k j := rfl
      obtain ⟨P, hP1, hP2, hP3, hP4⟩ := pow_lay _ hbt
      rw [hP1] at hup
      have hw1 : IntKind.i64.wrap P = P := IntWalk.i64_in _ (by omega)
      have hge : ¬ (n - bs a k j < P) := by omega
      have hge2 : decide (n - bs a k j < (P : Int)) = false := by simp; omega
      have hw2 : IntKind.i64.wrap (n - bs a k j - P) = n - bs a k j - P := IntWalk.i64_in _ (by omega)
      have HX := Lib.hid hbx
      clear hbx hbj
      go_wp2_with fail
      refine (CB.out _).mono ?_
      rintro r w2 ⟨rfl, b2⟩
      have HX2 := Lib.hid (HX.out.trans (b2.mono HX.out.size))
      clear b2 HX
      go_wp2_with fail
      refine ⟨⟨j + 1, by omega, ?_, by go_num, HX2.out⟩, ?_⟩
      · rw [hup]; congr 1; push_cast; omega
      · simp [intOf]; omega
    · obtain rfl : j = J := by omega
      by_cases hJc : j < c
      · obtain ⟨g1, g2, g3, g4⟩ := H2.out hJc
        have hbt := bt_le (k := k) (i := j) hk (by omega)
        have CB := Lib.hid (fun w => bits_any f c a k j hk (by omega) w)
        unfold sc at CB
        have hup : bs a k (j + 1) = bs a k j + 2 ^ bt k j := rfl
        obtain ⟨P, hP1, hP2, hP3, hP4⟩ := pow_lay _ hbt
        rw [hP1] at hup
        have hw1 : IntKind.i64.wrap P = P := IntWalk.i64_in _ (by omega)
        have hge : n - bs a k j < P := by omega
        have hge2 : decide (n - bs a k j < (P : Int)) = true := by simp; omega
        have hw3 : IntKind.i64.wrap ((f : Int) + j) = r1 := by rw [g2]; push_cast; exact IntWalk.i64_in _ (by omega)
        have HX := Lib.hid hbx
        have G3 := Lib.hid g3
        have G4 := Lib.hid g4
        clear hbx g2 g3 g4 g1 hup
        go_wp2_with fail
        refine (CB.out _).mono ?_
        rintro r w2 ⟨rfl, b2⟩
        have hx2 := HX.out.trans (b2.mono HX.out.size)
        have hblk2 : w2.heap[B]? = some (.cells #[.int .i64 f, .int .i64 c, .int .i64 a, .int .i64 k] 69 (0, 0)) := (hx2.block B hlw).trans HB0.out
        have hc2 := sc_cells hblk2
        have hl2 : B < w2.heap.size := by have := hx2.size; omega
        have HX2 := Lib.hid hx2
        have HBL2 := Lib.hid hblk2
        clear b2 HX hx2 hblk cb0 cb1 cb2 cb3 hblk2
        go_wp2_with fail
        go_region_held3 (fun w' => w'.cell? ⟨B, 0, none⟩ = some (.int .i64 f) ∧ w'.cell? ⟨B, 1, none⟩ = some (.int .i64 c) ∧ w'.cell? ⟨B, 2, none⟩ = some (.int .i64 a) ∧ w'.cell? ⟨B, 3, none⟩ = some (.int .i64 k)) (first | exact hc2 | exact hk3)
          (first
            | (go_at_call 66; refine (CB.out _).mono ?_; rintro r w3 ⟨rfl, b3⟩; have hk3 := sc_cells ((b3.block B hl2).trans HBL2.out)))
        have HB3 := Lib.hid ((BB.out.trans (HX2.out.mono (Nat.le_of_lt hlw))).trans ((show Below w2.heap.size w2 w3 from ⟨b3.os, b3.tape, b3.output, b3.size, b3.block⟩).mono (by have := HX2.out.size; have := BB.out.size; omega)))
        clear b3 hk3 hc2
        go_wp2
        go_ret3
        exact ⟨by rw [G3.out, G4.out]; rfl, by rw [HBW.out]; exact HB3.out⟩
      · obtain ⟨rfl, rfl, rfl⟩ := H3.out (by omega)
        have HB3 := Lib.hid (BB.out.trans (hbx.mono (Nat.le_of_lt hlw)))
        clear hbx
        go_wp2
        go_ret3
        exact ⟨rfl, by rw [HBW.out]; exact HB3.out⟩

theorem of_bad (f c a k : Nat) (s : Int) (hf : f ≤ 300) (hc : c ≤ 30) (h : s < f ∨ (f + c : Nat) ≤ s) (w : World) :
    Calls Try.prog 43 #[.agg (sc f c a k), .int .i64 s] w fun e w' => e = .returned (.tuple #[.int .i64 0, .int .i64 0]) ∧ Below w.heap.size w w' := by
  unfold sc
  have hw : IntKind.i64.wrap ((f : Int) + c) = ((f + c : Nat) : Int) := by push_cast; exact IntWalk.i64_in _ (by omega)
  by_cases h1 : s < f
  · go_enter Try.func43, Try.ntmps43
    go_wp2
    go_ret2
    exact ⟨rfl, (Below.refl _ _).alloc (Nat.le_refl _) _⟩
  · have h2 : ((f + c : Nat) : Int) ≤ s := by omega
    generalize f + c = fc at *
    have d1 : decide (s < (f : Int)) = false := by simp; omega
    have d2 : decide ((fc : Int) ≤ s) = true := by simp; omega
    go_enter Try.func43, Try.ntmps43
    go_wp2
    go_ret2
    exact ⟨rfl, (Below.refl _ _).alloc (Nat.le_refl _) _⟩

set_option maxHeartbeats 1000000 in
theorem of_any (f c a k J : Nat) (hk : k = 4 ∨ k = 2) (hf : f ≤ 300) (hc : c ≤ 30) (hJ : J < c) (ha : a ≤ 3) (w : World) :
    Calls Try.prog 43 #[.agg (sc f c a k), .int .i64 (f + J : Nat)] w fun e w' => e = .returned (.tuple #[.int .i64 (bs a k J : Nat), .int .i64 (bt k J : Nat)]) ∧ Below w.heap.size w w' := by
  unfold sc
  have hw : IntKind.i64.wrap ((f : Int) + c) = ((f + c : Nat) : Int) := by push_cast; exact IntWalk.i64_in _ (by omega)
  have d1 : decide (((f + J : Nat) : Int) < (f : Int)) = false := by simp; omega
  have d2 : decide (((f + c : Nat) : Int) ≤ ((f + J : Nat) : Int)) = false := by simp; omega
  have hwj : IntKind.i64.wrap (((f + J : Nat) : Int) - f) = J := by push_cast; rw [show (f : Int) + J - f = J by omega]; exact IntWalk.i64_in _ (by omega)
  have hsym1 : ¬ (((f + J : Nat) : Int) < f) := by omega
  have hsym2 : ¬ (((f + c : Nat) : Int) ≤ ((f + J : Nat) : Int)) := by omega
  generalize f + c = fc at *
  generalize f + J = fj at *
  go_enter Try.func43, Try.ntmps43
  go_wp2_with fail
  have hB0 : (w.alloc (.cells #[.int .i64 f, .int .i64 c, .int .i64 a, .int .i64 k] 69)).heap[w.heap.size]? = some (.cells #[.int .i64 f, .int .i64 c, .int .i64 a, .int .i64 k] 69 (0, 0)) := heap_alloc_new _ _
  have bb : Below w.heap.size w (w.alloc (.cells #[.int .i64 f, .int .i64 c, .int .i64 a, .int .i64 k] 69)) := (Below.refl _ _).alloc (Nat.le_refl _) _
  have hsz : (w.alloc (.cells #[.int .i64 f, .int .i64 c, .int .i64 a, .int .i64 k] 69)).heap.size = w.heap.size + 1 := by simp
  generalize w.alloc (.cells #[.int .i64 f, .int .i64 c, .int .i64 a, .int .i64 k] 69) = w1 at *
  have hlw : w.heap.size < w1.heap.size := by omega
  have BB := Lib.hid bb
  have HB0 := Lib.hid hB0
  clear hsz bb hB0
  generalize hBw : w.heap.size = B at *
  have HBW := Lib.hid hBw
  clear hBw
  go_loopw [4, 26] (fun v i wr => ∃ j, j ≤ J ∧ v = .int .i64 (bs a k j) ∧ i = .int .i64 j ∧ Below w1.heap.size w1 wr) (fun _ i _ => J - (intOf i).toNat)
  case atStart => exact ⟨0, Nat.zero_le _, rfl, rfl, Below.refl _ _⟩
  case round =>
    obtain ⟨j, hj, rfl, rfl, hbx⟩ := hrel
    have hblk : wr.heap[B]? = some (.cells #[.int .i64 f, .int .i64 c, .int .i64 a, .int .i64 k] 69 (0, 0)) := (hbx.block B hlw).trans HB0.out
    obtain ⟨cb0, cb1, cb2, cb3⟩ := sc_cells hblk
    have hmo := bs_small (a := a) hk ha j (by omega)
    have hbt := bt_le (k := k) (i := j) hk (by omega)
    have CB := Lib.hid (fun w => bits_any f c a k j hk (by omega) w)
    unfold sc at CB
    by_cases hlt : j < J
    · have hup : bs a k (j + 1) = bs a k j + 2 ^ bt k j := rfl
      obtain ⟨P, hP1, hP2, hP3, hP4⟩ := pow_lay _ hbt
      rw [hP1] at hup
      have hw1 : IntKind.i64.wrap P = P := IntWalk.i64_in _ (by omega)
      have hw2 : IntKind.i64.wrap ((bs a k j : Int) + P) = bs a k j + P := IntWalk.i64_in _ (by omega)
      have HX := Lib.hid hbx
      clear hbx
      go_wp2_with fail
      refine (CB.out _).mono ?_
      rintro r w2 ⟨rfl, b2⟩
      have HX2 := Lib.hid (HX.out.trans (b2.mono HX.out.size))
      clear b2 HX
      go_wp2_with fail
      refine ⟨⟨j + 1, by omega, ?_, by go_num, HX2.out⟩, ?_⟩
      · rw [hup]; congr 1; 
      · simp [intOf]; omega
    · obtain rfl : j = J := by omega
      have HX := Lib.hid hbx
      have hl2 : B < wr.heap.size := by have := hbx.size; omega
      have HBL2 := Lib.hid hblk
      have hc2 := sc_cells hblk
      clear hbx hblk
      go_wp2_with fail
      refine (CB.out _).mono ?_
      rintro r w3 ⟨rfl, b3⟩
      have HB3 := Lib.hid ((BB.out.trans (HX.out.mono (Nat.le_of_lt hlw))).trans (b3.mono (by have := HX.out.size; have := BB.out.size; omega)))
      clear b3 hc2
      go_wp2
      go_ret2
      exact ⟨rfl, by rw [HBW.out]; exact HB3.out⟩

theorem ret_sc3 (tmps : Array Value) (w : World) (R : Nat) (hp : tmps.getD 0 undef = .pointer (some ⟨R, 0, none⟩)) (hg : w.heap[R]? = some (.cells (sc 257 28 3 4) 69 (0, 0))) :
    (results Try.f39 tmps).run Try.prog w = .ok (.agg (sc 257 28 3 4)) w :=
  results_cell_row rfl tmps w R 69 (sc 257 28 3 4) (0, 0) _ hp hg Try.underlying69 rfl (by kernel_rfl)
theorem ret_sc1 (tmps : Array Value) (w : World) (R : Nat) (hp : tmps.getD 0 undef = .pointer (some ⟨R, 0, none⟩)) (hg : w.heap[R]? = some (.cells (sc 0 30 1 2) 69 (0, 0))) :
    (results Try.f42 tmps).run Try.prog w = .ok (.agg (sc 0 30 1 2)) w :=
  results_cell_row rfl tmps w R 69 (sc 0 30 1 2) (0, 0) _ hp hg Try.underlying69 rfl (by kernel_rfl)

theorem ofLengths_any (w : World) :
    Calls Try.prog 39 #[] w fun e w' => e = .returned (.agg (sc 257 28 3 4)) ∧ Below w.heap.size w w' := by
  go_enter Try.func39, Try.ntmps39
  go_wp2
  refine bodyPost_ret (v := .agg (sc 257 28 3 4)) (ret_sc3 _ _ _ rfl (heap_alloc_new _ _)) rfl ?_
  exact ⟨rfl, (Below.refl _ _).alloc (Nat.le_refl _) _⟩
theorem ofDistances_any (w : World) :
    Calls Try.prog 42 #[] w fun e w' => e = .returned (.agg (sc 0 30 1 2)) ∧ Below w.heap.size w w' := by
  go_enter Try.func42, Try.ntmps42
  go_wp2
  refine bodyPost_ret (v := .agg (sc 0 30 1 2)) (ret_sc1 _ _ _ rfl (heap_alloc_new _ _)) rfl ?_
  exact ⟨rfl, (Below.refl _ _).alloc (Nat.le_refl _) _⟩
end Go.Proofs.Ytikfenimgjeplaa.Sym
