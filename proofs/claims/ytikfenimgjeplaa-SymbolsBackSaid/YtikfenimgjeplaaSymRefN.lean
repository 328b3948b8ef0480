/-
  Contracts of the reference's tables of symbols: Lengths, Distances, Of, Find, Length, Distance.
-/
import Derived.Test.YtikfenimgjeplaaSymNumB
import Derived.Test.YtikfenimgjeplaaHufBase
namespace Go.Proofs.Ytikfenimgjeplaa.Sym
open Go.ChangeShapes Go.WideShapes Go.ChangeAt Go.RowKit
open Go.Proofs.Ytikfenimgjeplaa.Huf (IsInts)
set_option linter.unusedVariables false

/-- Numbers as they lie in a row. -/
def ints (l : List Nat) : List Int := l.map fun (x : Nat) => (x : Int)
theorem ints_length (l : List Nat) : (ints l).length = l.length := by simp [ints]
theorem ints_get (l : List Nat) (i : Nat) (h : i < l.length) : (ints l)[i]'(by rw [ints_length]; exact h) = ((l.getD i 0 : Nat) : Int) := by
  simp [ints, List.getD_eq_getElem?_getD, h]

theorem isInts_lit (w : World) (T : TypeId) (L : List Int) : IsInts (w.alloc (.cells ((L.map fun x => Value.int .i64 x).toArray) T)) (some ⟨w.heap.size, 0, none⟩) L := by
  intro h0
  refine ⟨w.heap.size, 0, rfl, by simp, fun i hi => ?_⟩
  rw [Nat.zero_add, cell_of_row _ _ i _ _ _ (heap_alloc_new _ _)]
  simp [hi]
theorem isInts_lit2 (w : World) (T : TypeId) (L : List Int) (g : Nat) (hg : w.heap.size = g) : IsInts (w.alloc (.cells ((L.map fun x => Value.int .i64 x).toArray) T)) (some ⟨g, 0, none⟩) L := by
  subst hg; exact isInts_lit w T L
theorem ints_at {w : World} {a : Option Addr} {l : List Nat} {n : Nat} (h : IsInts w a (ints l)) (hn : l.length = n) (h0 : 0 < n) : ∃ g off, a = some ⟨g, off, none⟩ ∧ g < w.heap.size ∧ ∀ i, i < n → w.cell? ⟨g, off + i, none⟩ = some (.int .i64 (l.getD i 0 : Nat)) := by
  obtain ⟨g, off, e, hg, hc⟩ := h (by rw [ints_length]; omega)
  exact ⟨g, off, e, hg, fun i hi => by rw [hc i (by rw [ints_length]; omega), ints_get l i (by omega)]⟩

theorem refLengths_any (w : World) :
    Calls Try.prog 14 #[] w fun e w' => ∃ a b, e = .returned (.tuple #[.slice (some ⟨a, 0, none⟩) 29 29, .slice (some ⟨b, 0, none⟩) 29 29]) ∧ IsInts w' (some ⟨a, 0, none⟩) (ints LBt) ∧ IsInts w' (some ⟨b, 0, none⟩) (ints LXt) ∧ Below w.heap.size w w' := by
  go_enter Try.func14, Try.ntmps14
  go_wp2
  go_ret2
  have b1 := (Below.refl w.heap.size w).alloc (Nat.le_refl _) (.cells ((ints LBt).map fun x => Value.int .i64 x).toArray 3)
  refine ⟨_, _, rfl, ?_, ?_, ?_⟩
  · exact (isInts_lit w 3 (ints LBt)).below (Below.refl _ _ |>.alloc (Nat.le_refl _) _) (Nat.le_refl _)
  · exact isInts_lit2 _ 3 (ints LXt) _ (by simp)
  · exact b1.alloc (by simp) _
theorem refDistances_any (w : World) :
    Calls Try.prog 15 #[] w fun e w' => ∃ a b, e = .returned (.tuple #[.slice (some ⟨a, 0, none⟩) 30 30, .slice (some ⟨b, 0, none⟩) 30 30]) ∧ IsInts w' (some ⟨a, 0, none⟩) (ints DBt) ∧ IsInts w' (some ⟨b, 0, none⟩) (ints DXt) ∧ Below w.heap.size w w' := by
  go_enter Try.func15, Try.ntmps15
  go_wp2
  go_ret2
  have b1 := (Below.refl w.heap.size w).alloc (Nat.le_refl _) (.cells ((ints DBt).map fun x => Value.int .i64 x).toArray 3)
  refine ⟨_, _, rfl, ?_, ?_, ?_⟩
  · exact (isInts_lit w 3 (ints DBt)).below (Below.refl _ _ |>.alloc (Nat.le_refl _) _) (Nat.le_refl _)
  · exact isInts_lit2 _ 3 (ints DXt) _ (by simp)
  · exact b1.alloc (by simp) _

set_option maxHeartbeats 1000000 in
theorem refOf_any (a b : Option Addr) (n c1 c2 f : Nat) (l m : List Nat) (s : Int) (w : World) (hl : l.length = n) (hm : m.length = n) (h1 : IsInts w a (ints l)) (h2 : IsInts w b (ints m)) (hn : n ≤ 1000) (hs : s ≤ 9223372036854775807) :
    Calls Try.prog 17 #[.slice a n c1, .slice b n c2, .int .i64 s, .int .i64 f] w fun e w' =>
      e = .returned (pairN (if (f : Int) ≤ s ∧ s < f + n then (l.getD (s.toNat - f) 0, m.getD (s.toNat - f) 0) else (0, 0))) ∧ ∃ q, w' = w.drewN q := by
  by_cases h : s < f
  · rw [if_neg (by omega)]
    unfold pairN
    go_enter Try.func17, Try.ntmps17
    go_wp2
    go_ret2
    exact ⟨rfl, 0, rfl⟩
  · obtain ⟨i, rfl⟩ : ∃ i : Nat, s = ((f + i : Nat) : Int) := ⟨s.toNat - f, by omega⟩
    have hw : IntKind.i64.wrap (((f + i : Nat) : Int) - f) = i := by push_cast; rw [show (f : Int) + i - f = i by omega]; exact IntWalk.i64_in _ (by omega)
    rw [show ((f + i : Nat) : Int).toNat - f = i by omega]
    by_cases hi : i < n
    · rw [if_pos (by omega)]
      obtain ⟨g1, o1, rfl, _, q1⟩ := ints_at h1 hl (by omega)
      obtain ⟨g2, o2, rfl, _, q2⟩ := ints_at h2 hm (by omega)
      have e1 := q1 i hi
      have e2 := q2 i hi
      have d1 : decide (((f + i : Nat) : Int) < (f : Int)) = false := by simp; omega
      have d2 : decide ((n : Int) ≤ (i : Int)) = false := by simp; omega
      generalize l.getD i 0 = x at *
      generalize m.getD i 0 = y at *
      generalize f + i = fi at *
      unfold pairN
      clear h1 h2 q1 q2
      go_enter Try.func17, Try.ntmps17
      go_wp2_with fail
      go_quiet (fail)
      go_wp2_with fail
      go_ret2
      exact ⟨rfl, _, rfl⟩
    · rw [if_neg (by omega)]
      have d1 : decide (((f + i : Nat) : Int) < (f : Int)) = false := by simp; omega
      have d2 : decide ((n : Int) ≤ (i : Int)) = true := by simp; omega
      generalize f + i = fi at *
      unfold pairN
      go_enter Try.func17, Try.ntmps17
      go_wp2_with fail
      go_ret2
      exact ⟨rfl, 0, rfl⟩

set_option maxHeartbeats 1000000 in
theorem refFind_any (a b : Option Addr) (c c1 c2 f : Nat) (l m : List Nat) (n : Int) (most : Int) (w : World) (hl : l.length = c) (hm : m.length = c) (h1 : IsInts w a (ints l)) (h2 : IsInts w b (ints m)) (hc : 0 < c) (hc2 : c ≤ 1000) (hf : f ≤ 1000) (hn : n ≤ 9223372036854775807)
    (hsm : ∀ i, l.getD i 0 ≤ 1000000) (h0 : l.getD 0 0 = 1 ∨ l.getD 0 0 = 3) :
    Calls Try.prog 41 #[.slice a c c1, .slice b c c2, .int .i64 f, .int .i64 n, .int .i64 most] w fun e w' =>
      e = .returned (trip (if (l.getD 0 0 : Int) ≤ n ∧ n ≤ most then (f + lastIx (fun i => l.getD i 0) n.toNat c, n.toNat - l.getD (lastIx (fun i => l.getD i 0) n.toNat c) 0, m.getD (lastIx (fun i => l.getD i 0) n.toNat c) 0) else (0, 0, 0))) ∧ ∃ q, w' = w.drewN q := by
  obtain ⟨g1, o1, rfl, _, q1⟩ := ints_at h1 hl hc
  obtain ⟨g2, o2, rfl, _, q2⟩ := ints_at h2 hm hc
  have e0 := q1 0 hc
  rw [Nat.add_zero] at e0
  have hc' : (0 : Int) < c := by omega
  obtain ⟨x0, hx0⟩ : ∃ x0, l.getD 0 0 = x0 := ⟨_, rfl⟩
  rw [hx0] at e0 h0 ⊢
  clear h1 h2
  by_cases hlo : n < x0
  · rw [if_neg (by omega)]
    have d1 : decide (n < (x0 : Int)) = true := by simp; omega
    unfold trip
    clear q1 q2
    go_enter Try.func41, Try.ntmps41
    go_wp2_with fail
    go_ret3
    exact ⟨rfl, 0, rfl⟩
  have d1 : decide (n < (x0 : Int)) = false := by simp; omega
  by_cases hhi : most < n
  · rw [if_neg (by omega)]
    have d2 : decide (most < n) = true := by simp; omega
    unfold trip
    clear q1 q2
    go_enter Try.func41, Try.ntmps41
    go_wp2_with fail
    go_ret3
    exact ⟨rfl, 0, rfl⟩
  have d2 : decide (most < n) = false := by simp; omega
  rw [if_pos (by omega)]
  obtain ⟨N, rfl⟩ : ∃ N : Nat, n = N := ⟨n.toNat, by omega⟩
  rw [Int.toNat_natCast]
  obtain ⟨y, hy⟩ : ∃ y, lastIx (fun i => l.getD i 0) N c = y := ⟨_, rfl⟩
  have hylt := lastIx_lt (fun i => l.getD i 0) N c hc
  have hyle : l.getD y 0 ≤ N := by
    have key : ∀ c, l.getD (lastIx (fun i => l.getD i 0) N c) 0 ≤ N := by
      intro c
      induction c with
      | zero => show l.getD 0 0 ≤ N; rw [hx0]; omega
      | succ c ih => unfold lastIx; split
                     · assumption
                     · exact ih
    rw [← hy]; exact key c
  rw [hy] at hylt ⊢
  have hs1 := hsm y
  have ey1 := q1 y hylt
  have ey2 := q2 y hylt
  obtain ⟨X, hX⟩ : ∃ X, l.getD y 0 = X := ⟨_, rfl⟩
  obtain ⟨Z, hZ⟩ : ∃ Z, m.getD y 0 = Z := ⟨_, rfl⟩
  rw [hX] at hyle hs1 ey1 ⊢
  rw [hZ] at ey2 ⊢
  have hw1 : IntKind.i64.wrap ((f : Int) + y) = ((f + y : Nat) : Int) := by push_cast; exact IntWalk.i64_in _ (by omega)
  have hw2 : IntKind.i64.wrap ((N : Int) - X) = ((N - X : Nat) : Int) := by rw [show (N : Int) - X = ((N - X : Nat) : Int) by omega]; exact IntWalk.i64_in _ (by omega)
  have hy' : (y : Int) < c := by omega
  generalize f + y = fy at *
  generalize N - X = nx at *
  have HY := Lib.hid hy
  clear hy hX hZ hs1 hyle hylt
  have HX0 := Lib.hid hx0
  have Q1 := Lib.hid q1
  have Q2 := Lib.hid q2
  have HSM := Lib.hid hsm
  clear q1 q2 hx0 hsm
  unfold trip
  go_enter Try.func41, Try.ntmps41
  go_wp2_with fail
  go_loopw [13, 14] (fun v i wr => ∃ k : Nat, k ≤ c ∧ i = .int .i64 k ∧ v = .int .i64 (lastIx (fun i => l.getD i 0) N k : Nat) ∧ wr = w) (fun _ i _ => c - (intOf i).toNat)
  case atStart => exact ⟨0, Nat.zero_le _, rfl, rfl, rfl⟩
  case round =>
    obtain ⟨k, hk, rfl, rfl, rfl⟩ := hrel
    by_cases hlt : k < c
    · have hlt' : (k : Int) < c := by omega
      have ek := Q1.out k hlt
      have hs : lastIx (fun i => l.getD i 0) N (k + 1) = if l.getD k 0 ≤ N then k else lastIx (fun i => l.getD i 0) N k := rfl
      have HS := Lib.hid hs
      clear hs
      generalize l.getD k 0 = x at *
      generalize lastIx (fun i => l.getD i 0) N k = y at *
      by_cases hx : x ≤ N
      · have hx2 : (x : Int) ≤ N := by omega
        go_wp2_with fail
        refine ⟨⟨k + 1, by omega, by go_num, by rw [HS.out, if_pos hx], by first | trivial | rfl⟩, ?_⟩
        simp [intOf]; omega
      · have hx2 : ¬ ((x : Int) ≤ N) := by omega
        go_wp2_with fail
        refine ⟨⟨k + 1, by omega, by go_num, by rw [HS.out, if_neg hx], by first | trivial | rfl⟩, ?_⟩
        simp [intOf]; omega
    · obtain rfl : k = c := by omega
      rw [HY.out]
      go_wp2_with fail
      go_quiet (fail)
      go_wp2_with fail
      go_ret3
      exact ⟨rfl, _, rfl⟩

theorem table_small : (∀ i, LBt.getD i 0 ≤ 1000000) ∧ (∀ i, DBt.getD i 0 ≤ 1000000) := by
  refine ⟨fun i => ?_, fun i => ?_⟩
  · by_cases h : i < 29
    · have := (LB_pos ⟨i, h⟩).2; exact Nat.le_trans this (by decide)
    · rw [List.getD_eq_getElem?_getD, List.getElem?_eq_none (by show 29 ≤ i; omega)]; decide
  · by_cases h : i < 30
    · have := (DB_pos ⟨i, h⟩).2; exact Nat.le_trans this (by decide)
    · rw [List.getD_eq_getElem?_getD, List.getElem?_eq_none (by show 30 ≤ i; omega)]; decide

theorem refLength_any (n : Int) (hn : n ≤ 9223372036854775807) (w : World) :
    Calls Try.prog 11 #[.int .i64 n] w fun e w' => e = .returned (trip (lenS n)) ∧ Below w.heap.size w w' := by
  obtain ⟨x, hx⟩ : ∃ x, lenS n = x := ⟨_, rfl⟩
  have CF := Lib.hid (fun a b w h1 h2 => refFind_any a b 29 29 29 257 LBt LXt n 258 w rfl rfl h1 h2 (by decide) (by decide) (by decide) hn table_small.1 (.inr rfl))
  have hx' : (if ((LBt.getD 0 0 : Nat) : Int) ≤ n ∧ n ≤ 258 then (257 + lastIx (fun i => LBt.getD i 0) n.toNat 29, n.toNat - LBt.getD (lastIx (fun i => LBt.getD i 0) n.toNat 29) 0, LXt.getD (lastIx (fun i => LBt.getD i 0) n.toNat 29) 0) else (0, 0, 0)) = x := hx
  rw [hx'] at CF
  rw [hx]
  clear hx hx'
  obtain ⟨x1, x2, x3⟩ := x
  unfold trip at *
  go_enter Try.func11, Try.ntmps11
  go_wp2_with fail
  refine (refLengths_any _).mono ?_
  rintro r w1 ⟨a, b, rfl, h1, h2, b1⟩
  go_wp2_with fail
  refine (CF.out _ _ _ h1 h2).mono ?_
  rintro r w2 ⟨rfl, q, rfl⟩
  have HB : Hid (Below w.heap.size w (w1.drewN q)) := Lib.hid ⟨b1.os, b1.tape, b1.output, b1.size, b1.block⟩
  clear b1 h1 h2
  go_wp2_with fail
  go_ret3
  exact ⟨rfl, HB.out⟩
theorem refDistance_any (n : Int) (hn : n ≤ 9223372036854775807) (w : World) :
    Calls Try.prog 13 #[.int .i64 n] w fun e w' => e = .returned (trip (distS n)) ∧ Below w.heap.size w w' := by
  obtain ⟨x, hx⟩ : ∃ x, distS n = x := ⟨_, rfl⟩
  have CF := Lib.hid (fun a b w h1 h2 => refFind_any a b 30 30 30 0 DBt DXt n 32768 w rfl rfl h1 h2 (by decide) (by decide) (by decide) hn table_small.2 (.inl rfl))
  have hx' : (if ((DBt.getD 0 0 : Nat) : Int) ≤ n ∧ n ≤ 32768 then (0 + lastIx (fun i => DBt.getD i 0) n.toNat 30, n.toNat - DBt.getD (lastIx (fun i => DBt.getD i 0) n.toNat 30) 0, DXt.getD (lastIx (fun i => DBt.getD i 0) n.toNat 30) 0) else (0, 0, 0)) = x := by
    rw [← hx]
    unfold distS di DB DX
    rw [Nat.zero_add]
    rfl
  rw [hx'] at CF
  rw [hx]
  clear hx hx'
  obtain ⟨x1, x2, x3⟩ := x
  unfold trip at *
  go_enter Try.func13, Try.ntmps13
  go_wp2_with fail
  refine (refDistances_any _).mono ?_
  rintro r w1 ⟨a, b, rfl, h1, h2, b1⟩
  go_wp2_with fail
  refine (CF.out _ _ _ h1 h2).mono ?_
  rintro r w2 ⟨rfl, q, rfl⟩
  have HB : Hid (Below w.heap.size w (w1.drewN q)) := Lib.hid ⟨b1.os, b1.tape, b1.output, b1.size, b1.block⟩
  clear b1 h1 h2
  go_wp2_with fail
  go_ret3
  exact ⟨rfl, HB.out⟩
end Go.Proofs.Ytikfenimgjeplaa.Sym
