/-
  Contracts of symbols.Length, LengthOf, Distance and DistanceOf.
-/
import Derived.Test.YtikfenimgjeplaaSymNum
namespace Go.Proofs.Ytikfenimgjeplaa.Sym
open Go.ChangeShapes Go.WideShapes Go.ChangeAt Go.RowKit
set_option linter.unusedVariables false

/-- A symbol, its extra number and its bits as they are handed back. -/
def trip (x : Nat × Nat × Nat) : Value := .tuple #[.int .i64 x.1, .int .i64 x.2.1, .int .i64 x.2.2]
def pairN (x : Nat × Nat) : Value := .tuple #[.int .i64 x.1, .int .i64 x.2]

theorem scale_len (n : Int) (h : n ≠ 258) (hn : n ≤ 9223372036854775807) (w : World) :
    Calls Try.prog 40 #[.agg (sc 257 28 3 4), .int .i64 n] w fun e w' => e = .returned (trip (lenS n)) ∧ Below w.heap.size w w' := by
  by_cases h1 : n < 3
  · refine (symbol_low 257 28 3 4 n (by omega) w).mono ?_
    rintro r w' ⟨rfl, hb⟩
    refine ⟨?_, hb⟩
    unfold lenS; rw [if_neg (by omega)]; rfl
  · by_cases h2 : n < 258
    · obtain ⟨i, hi, g1, g2⟩ := find_bs 3 4 n.toNat (by omega) 28 (by rw [bs_l]; omega)
      have hli := li_is n.toNat i (by omega) hi g1 g2
      have hup : ∀ j, j < i → (bs 3 4 (j + 1) : Int) ≤ n := fun j hj => by
        have := bs_le (a := 3) (k := 4) (i := j + 1) (j := i) hj; omega
      refine (symbol_any 257 28 3 4 i n (257 + i : Nat) (n - bs 3 4 i) (bt 4 i) (.inl rfl) (by omega) (by omega) (by omega) hn (by omega) (by omega) hup (fun _ => ⟨by omega, rfl, rfl, rfl⟩) (fun h => by omega) w).mono ?_
      rintro r w' ⟨rfl, hb⟩
      refine ⟨?_, hb⟩
      unfold lenS trip
      rw [if_pos ⟨by omega, by omega⟩, hli, (LB_eq ⟨i, hi⟩).1, (LB_eq ⟨i, hi⟩).2]
      rw [show n - (bs 3 4 i : Int) = ((n.toNat - bs 3 4 i : Nat) : Int) by omega]
    · have hup : ∀ j, j < 28 → (bs 3 4 (j + 1) : Int) ≤ n := fun j hj => by
        have := bs_le (a := 3) (k := 4) (i := j + 1) (j := 28) hj
        rw [bs_l] at this; omega
      refine (symbol_any 257 28 3 4 28 n 0 0 0 (.inl rfl) (by omega) (by omega) (by omega) hn (by omega) (by omega) hup (fun h => by omega) (fun h => ⟨rfl, rfl, rfl⟩) w).mono ?_
      rintro r w' ⟨rfl, hb⟩
      refine ⟨?_, hb⟩
      unfold lenS; rw [if_neg (by omega)]; rfl

theorem scale_dist (n : Int) (hn : n ≤ 9223372036854775807) (w : World) :
    Calls Try.prog 40 #[.agg (sc 0 30 1 2), .int .i64 n] w fun e w' => e = .returned (trip (distS n)) ∧ Below w.heap.size w w' := by
  by_cases h1 : n < 1
  · refine (symbol_low 0 30 1 2 n (by omega) w).mono ?_
    rintro r w' ⟨rfl, hb⟩
    refine ⟨?_, hb⟩
    unfold distS; rw [if_neg (by omega)]; rfl
  · by_cases h2 : n < 32769
    · obtain ⟨i, hi, g1, g2⟩ := find_bs 1 2 n.toNat (by omega) 30 (by rw [bs_d]; omega)
      have hli := di_is n.toNat i hi g1 g2
      have hup : ∀ j, j < i → (bs 1 2 (j + 1) : Int) ≤ n := fun j hj => by
        have := bs_le (a := 1) (k := 2) (i := j + 1) (j := i) hj; omega
      refine (symbol_any 0 30 1 2 i n (0 + i : Nat) (n - bs 1 2 i) (bt 2 i) (.inr rfl) (by omega) (by omega) (by omega) hn (by omega) (by omega) hup (fun _ => ⟨by omega, rfl, rfl, rfl⟩) (fun h => by omega) w).mono ?_
      rintro r w' ⟨rfl, hb⟩
      refine ⟨?_, hb⟩
      unfold distS trip
      rw [if_pos ⟨by omega, by omega⟩, hli, (DB_eq ⟨i, hi⟩).1, (DB_eq ⟨i, hi⟩).2, Nat.zero_add]
      rw [show n - (bs 1 2 i : Int) = ((n.toNat - bs 1 2 i : Nat) : Int) by omega]
    · have hup : ∀ j, j < 30 → (bs 1 2 (j + 1) : Int) ≤ n := fun j hj => by
        have := bs_le (a := 1) (k := 2) (i := j + 1) (j := 30) hj
        rw [bs_d] at this; omega
      refine (symbol_any 0 30 1 2 30 n 0 0 0 (.inr rfl) (by omega) (by omega) (by omega) hn (by omega) (by omega) hup (fun h => by omega) (fun h => ⟨rfl, rfl, rfl⟩) w).mono ?_
      rintro r w' ⟨rfl, hb⟩
      refine ⟨?_, hb⟩
      unfold distS; rw [if_neg (by omega)]; rfl

theorem scale_lenO (s : Int) (h : s ≠ 285) (w : World) :
    Calls Try.prog 43 #[.agg (sc 257 28 3 4), .int .i64 s] w fun e w' => e = .returned (pairN (lenO s)) ∧ Below w.heap.size w w' := by
  by_cases h1 : s < 257 ∨ 285 ≤ s
  · refine (of_bad 257 28 3 4 s (by omega) (by omega) (by omega) w).mono ?_
    rintro r w' ⟨rfl, hb⟩
    refine ⟨?_, hb⟩
    unfold lenO; rw [if_neg (by omega)]; rfl
  · obtain ⟨J, rfl⟩ : ∃ J : Nat, s = (257 + J : Nat) := ⟨s.toNat - 257, by omega⟩
    refine (of_any 257 28 3 4 J (.inl rfl) (by omega) (by omega) (by omega) (by omega) w).mono ?_
    rintro r w' ⟨rfl, hb⟩
    refine ⟨?_, hb⟩
    unfold lenO pairN
    rw [if_pos ⟨by omega, by omega⟩, show (((257 + J : Nat) : Int).toNat - 257) = J by omega, (LB_eq ⟨J, by omega⟩).1, (LB_eq ⟨J, by omega⟩).2]
theorem scale_distO (s : Int) (w : World) :
    Calls Try.prog 43 #[.agg (sc 0 30 1 2), .int .i64 s] w fun e w' => e = .returned (pairN (distO s)) ∧ Below w.heap.size w w' := by
  by_cases h1 : s < 0 ∨ 30 ≤ s
  · refine (of_bad 0 30 1 2 s (by omega) (by omega) (by omega) w).mono ?_
    rintro r w' ⟨rfl, hb⟩
    refine ⟨?_, hb⟩
    unfold distO; rw [if_neg (by omega)]; rfl
  · obtain ⟨J, rfl⟩ : ∃ J : Nat, s = (0 + J : Nat) := ⟨s.toNat, by omega⟩
    refine (of_any 0 30 1 2 J (.inr rfl) (by omega) (by omega) (by omega) (by omega) w).mono ?_
    rintro r w' ⟨rfl, hb⟩
    refine ⟨?_, hb⟩
    unfold distO pairN
    rw [if_pos ⟨by omega, by omega⟩, show (((0 + J : Nat) : Int).toNat) = J by omega, (DB_eq ⟨J, by omega⟩).1, (DB_eq ⟨J, by omega⟩).2]

theorem lenS_258 : lenS 258 = (285, 0, 0) := by decide +kernel
theorem lenO_285 : lenO 285 = (258, 0) := by decide +kernel

theorem length_any (n : Int) (hn : n ≤ 9223372036854775807) (w : World) :
    Calls Try.prog 10 #[.int .i64 n] w fun e w' => e = .returned (trip (lenS n)) ∧ Below w.heap.size w w' := by
  by_cases h : n = 258
  · subst h
    rw [lenS_258]
    go_enter Try.func10, Try.ntmps10
    go_wp2
    go_ret3
    exact ⟨rfl, Below.refl _ _⟩
  · have CS := Lib.hid (fun w => scale_len n h hn w)
    have h2 : (n == 258) = false := by simpa using h
    generalize lenS n = x at *
    obtain ⟨x1, x2, x3⟩ := x
    unfold trip at *
    go_enter Try.func10, Try.ntmps10
    go_wp2_with fail
    refine (ofLengths_any _).mono ?_
    rintro r w1 ⟨rfl, b1⟩
    go_wp2_with fail
    refine (CS.out _).mono ?_
    rintro r w2 ⟨rfl, b2⟩
    have HB := Lib.hid (b1.trans (b2.mono b1.size))
    clear b1 b2
    go_wp2_with fail
    go_ret3
    exact ⟨rfl, HB.out⟩
theorem distance_any (n : Int) (hn : n ≤ 9223372036854775807) (w : World) :
    Calls Try.prog 12 #[.int .i64 n] w fun e w' => e = .returned (trip (distS n)) ∧ Below w.heap.size w w' := by
  have CS := Lib.hid (fun w => scale_dist n hn w)
  generalize distS n = x at *
  obtain ⟨x1, x2, x3⟩ := x
  unfold trip at *
  go_enter Try.func12, Try.ntmps12
  go_wp2_with fail
  refine (ofDistances_any _).mono ?_
  rintro r w1 ⟨rfl, b1⟩
  go_wp2_with fail
  refine (CS.out _).mono ?_
  rintro r w2 ⟨rfl, b2⟩
  have HB := Lib.hid (b1.trans (b2.mono b1.size))
  clear b1 b2
  go_wp2_with fail
  go_ret3
  exact ⟨rfl, HB.out⟩
theorem lengthOf_any (s : Int) (w : World) :
    Calls Try.prog 16 #[.int .i64 s] w fun e w' => e = .returned (pairN (lenO s)) ∧ Below w.heap.size w w' := by
  by_cases h : s = 285
  · subst h
    rw [lenO_285]
    go_enter Try.func16, Try.ntmps16
    go_wp2
    go_ret2
    exact ⟨rfl, Below.refl _ _⟩
  · have CS := Lib.hid (fun w => scale_lenO s h w)
    have h2 : (s == 285) = false := by simpa using h
    generalize lenO s = x at *
    obtain ⟨x1, x2⟩ := x
    unfold pairN at *
    go_enter Try.func16, Try.ntmps16
    go_wp2_with fail
    refine (ofLengths_any _).mono ?_
    rintro r w1 ⟨rfl, b1⟩
    go_wp2_with fail
    refine (CS.out _).mono ?_
    rintro r w2 ⟨rfl, b2⟩
    have HB := Lib.hid (b1.trans (b2.mono b1.size))
    clear b1 b2
    go_wp2_with fail
    go_ret2
    exact ⟨rfl, HB.out⟩
theorem distanceOf_any (s : Int) (w : World) :
    Calls Try.prog 18 #[.int .i64 s] w fun e w' => e = .returned (pairN (distO s)) ∧ Below w.heap.size w w' := by
  have CS := Lib.hid (fun w => scale_distO s w)
  generalize distO s = x at *
  obtain ⟨x1, x2⟩ := x
  unfold pairN at *
  go_enter Try.func18, Try.ntmps18
  go_wp2_with fail
  refine (ofDistances_any _).mono ?_
  rintro r w1 ⟨rfl, b1⟩
  go_wp2_with fail
  refine (CS.out _).mono ?_
  rintro r w2 ⟨rfl, b2⟩
  have HB := Lib.hid (b1.trans (b2.mono b1.size))
  clear b1 b2
  go_wp2_with fail
  go_ret2
  exact ⟨rfl, HB.out⟩
end Go.Proofs.Ytikfenimgjeplaa.Sym
