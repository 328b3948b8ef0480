/-
  Contracts of the reference of layer 11: guesses, bytes of a row, weights; and which rows are right.
-/
import Derived.Test.YtcjloklilabblaaFltGuess
namespace Go.Proofs.Ytcjloklilabblaa.Flt
open Go.ChangeShapes Go.WideShapes Go.ChangeAt Go.RowKit
set_option linter.unusedVariables false

theorem far_any (a b : Int) (ha : -1000 < a ∧ a < 1000) (hb : -1000 < b ∧ b < 1000) (w : World) :
    Calls Try.prog 21 #[.int .i64 a, .int .i64 b] w fun e w' => e = .returned (.int .i64 (farI a b)) ∧ w = w' := by
  obtain ⟨m, hm⟩ : ∃ m, (if a - b < b - a then b - a else a - b) = m := ⟨_, rfl⟩
  have e : farI a b = m := hm
  rw [e]
  have HM := Lib.hid hm
  go_enter Try.func21, Try.ntmps21
  go_wp2_with fail
  go_ret
  exact ⟨rfl, rfl⟩

set_option maxHeartbeats 1000000 in
theorem refGuess_any (k a b c : Int) (ha : 0 ≤ a ∧ a < 256) (hb : 0 ≤ b ∧ b < 256) (hc : 0 ≤ c ∧ c < 256) (w : World) :
    Calls Try.prog 10 #[.int .i64 k, .int .i64 a, .int .i64 b, .int .i64 c] w fun e w' => e = .returned (.int .i64 (guessI k a b c)) ∧ w = w' := by
  by_cases h1 : k = 1
  · subst h1
    go_enter Try.func10, Try.ntmps10
    go_wp2_with fail
    go_ret
    exact ⟨ret_num (guess_sub a b c).symm, rfl⟩
  by_cases h2 : k = 2
  · subst h2
    go_enter Try.func10, Try.ntmps10
    go_wp2_with fail
    go_ret
    exact ⟨ret_num (guess_up a b c).symm, rfl⟩
  by_cases h3 : k = 3
  · subst h3
    go_enter Try.func10, Try.ntmps10
    go_wp2_with fail
    go_ret
    exact ⟨ret_num (by unfold guessI; simp), rfl⟩
  by_cases h4 : k = 4
  · subst h4
    have C1 := Lib.hid (far_any (a + b - c) a (by omega) (by omega) w)
    have C2 := Lib.hid (far_any (a + b - c) b (by omega) (by omega) w)
    have C3 := Lib.hid (far_any (a + b - c) c (by omega) (by omega) w)
    have E : Hid (guessI 4 a b c = if farI (a + b - c) a ≤ farI (a + b - c) b ∧ farI (a + b - c) a ≤ farI (a + b - c) c then a else if farI (a + b - c) b ≤ farI (a + b - c) c then b else c) := Lib.hid (by unfold guessI; simp)
    generalize farI (a + b - c) a = x at *
    generalize farI (a + b - c) b = y at *
    generalize farI (a + b - c) c = z at *
    generalize guessI 4 a b c = g at *
    obtain ⟨p, hp⟩ : ∃ p, a + b - c = p := ⟨_, rfl⟩
    rw [hp] at C1 C2 C3
    go_enter Try.func10, Try.ntmps10
    go_wp2_with fail
    refine C1.out.mono ?_
    rintro r w' ⟨rfl, rfl⟩
    go_wp2_with fail
    refine C2.out.mono ?_
    rintro r w' ⟨rfl, rfl⟩
    by_cases q1 : x ≤ y
    · have d1 : decide (x ≤ y) = true := by simp; omega
      go_wp2_with fail
      refine C1.out.mono ?_
      rintro r w' ⟨rfl, rfl⟩
      go_wp2_with fail
      refine C3.out.mono ?_
      rintro r w' ⟨rfl, rfl⟩
      by_cases q2 : x ≤ z
      · have d2 : decide (x ≤ z) = true := by simp; omega
        go_wp2_with fail
        go_ret
        exact ⟨ret_num (by rw [E.out, if_pos ⟨q1, q2⟩]), rfl⟩
      · have d2 : decide (x ≤ z) = false := by simp; omega
        go_wp2_with fail
        refine C2.out.mono ?_
        rintro r w' ⟨rfl, rfl⟩
        go_wp2_with fail
        refine C3.out.mono ?_
        rintro r w' ⟨rfl, rfl⟩
        by_cases q3 : y ≤ z
        · have d3 : decide (y ≤ z) = true := by simp; omega
          go_wp2_with fail
          go_ret
          exact ⟨ret_num (by rw [E.out, if_neg (by omega), if_pos q3]), rfl⟩
        · have d3 : decide (y ≤ z) = false := by simp; omega
          go_wp2_with fail
          go_ret
          exact ⟨ret_num (by rw [E.out, if_neg (by omega), if_neg (by omega)]), rfl⟩
    · have d1 : decide (x ≤ y) = false := by simp; omega
      go_wp2_with fail
      refine C2.out.mono ?_
      rintro r w' ⟨rfl, rfl⟩
      go_wp2_with fail
      refine C3.out.mono ?_
      rintro r w' ⟨rfl, rfl⟩
      by_cases q3 : y ≤ z
      · have d3 : decide (y ≤ z) = true := by simp; omega
        go_wp2_with fail
        go_ret
        exact ⟨ret_num (by rw [E.out, if_neg (by omega), if_pos q3]), rfl⟩
      · have d3 : decide (y ≤ z) = false := by simp; omega
        go_wp2_with fail
        go_ret
        exact ⟨ret_num (by rw [E.out, if_neg (by omega), if_neg (by omega)]), rfl⟩
  have d1 : (k == 1) = false := by simp; omega
  have d2 : (k == 2) = false := by simp; omega
  have d3 : (k == 3) = false := by simp; omega
  have d4 : (k == 4) = false := by simp; omega
  go_enter Try.func10, Try.ntmps10
  go_wp2_with fail
  go_ret
  exact ⟨ret_num (by unfold guessI; rw [if_neg h1, if_neg h2, if_neg h3, if_pos h4]), rfl⟩

theorem at_any (s : ByteArray) (i : Int) (hs : s.size ≤ maxLen) (w : World) :
    Calls Try.prog 26 #[.string s, .int .i64 i] w fun e w' => e = .returned (.int .i64 (atB s.data.toList i)) ∧ w = w' := by
  unfold maxLen at hs
  by_cases h1 : i < 0
  · have d1 : decide (i < 0) = true := by simp; omega
    go_enter Try.func26, Try.ntmps26
    go_wp2_with fail
    go_ret
    exact ⟨ret_num (atB_low _ h1).symm, rfl⟩
  have d1 : decide (i < 0) = false := by simp; omega
  obtain ⟨n, rfl⟩ : ∃ n : Nat, i = n := ⟨i.toNat, by omega⟩
  by_cases h2 : s.size ≤ n
  · have d2 : decide (s.size ≤ n) = true := by simp; omega
    go_enter Try.func26, Try.ntmps26
    go_wp2_with fail
    go_ret
    exact ⟨ret_num (atB_past (by simp; omega)).symm, rfl⟩
  have d2 : decide (s.size ≤ n) = false := by simp; omega
  have hlt : n < s.size := by omega
  go_enter Try.func26, Try.ntmps26
  go_wp2_with fail
  go_ret
  exact ⟨ret_num (by have := (s[n]).toNat_lt; rw [atB_in (by simpa using hlt), IntWalk.wrap64_in _ (by omega)]; rfl), rfl⟩

/-- May it be asked? -/
def rightB (k st : Int) (p r : ByteArray) : Bool := decide (0 ≤ k ∧ k ≤ 4 ∧ 1 ≤ st ∧ (p.size = 0 ∨ p.size = r.size))
theorem empty_size (p : ByteArray) : p.toList.isEmpty = decide (p.size = 0) := by
  rw [Go.ByteArray.toList_eq, show p.size = p.data.toList.length by simp]
  cases p.data.toList <;> simp

theorem ret_bool {a b : Bool} (h : a = b) : Ending.returned (Value.bool a) = Ending.returned (.bool b) := by rw [h]
theorem right_any (k st : Int) (p r : ByteArray) (hp : p.size ≤ maxLen) (hr : r.size ≤ maxLen) (w : World) :
    Calls Try.prog 22 #[.int .i64 k, .int .i64 st, .string p, .string r] w fun e w' => e = .returned (.bool (rightB k st p r)) ∧ w = w' := by
  unfold maxLen at hp hr
  have ee := empty_size p
  by_cases h1 : 0 ≤ k
  · have d1 : decide (0 ≤ k) = true := by simp; omega
    by_cases h2 : k < 5
    · have d2 : decide (k < 5) = true := by simp; omega
      by_cases h3 : 1 ≤ st
      · have d3 : decide (1 ≤ st) = true := by simp; omega
        by_cases h4 : p.size = 0
        · have d4 : p.toList.isEmpty = true := by rw [ee]; simp [h4]
          clear ee
          go_enter Try.func22, Try.ntmps22
          go_wp2_with fail
          go_ret
          exact ⟨ret_bool ((decide_eq_true (by omega)).symm), rfl⟩
        · have d4 : p.toList.isEmpty = false := by rw [ee]; simp [h4]
          clear ee
          go_enter Try.func22, Try.ntmps22
          go_wp2_with fail
          go_ret
          exact ⟨ret_bool (by unfold rightB; rw [Bool.eq_iff_iff, beq_iff_eq, decide_eq_true_iff]; omega), rfl⟩
      · have d3 : decide (1 ≤ st) = false := by simp; omega
        go_enter Try.func22, Try.ntmps22
        go_wp2_with fail
        go_ret
        exact ⟨ret_bool ((decide_eq_false (by omega)).symm), rfl⟩
    · have d2 : decide (k < 5) = false := by simp; omega
      go_enter Try.func22, Try.ntmps22
      go_wp2_with fail
      go_ret
      exact ⟨ret_bool ((decide_eq_false (by omega)).symm), rfl⟩
  · have d1 : decide (0 ≤ k) = false := by simp; omega
    go_enter Try.func22, Try.ntmps22
    go_wp2_with fail
    go_ret
    exact ⟨ret_bool ((decide_eq_false (by omega)).symm), rfl⟩

theorem refRight_any (k st : Int) (p r : ByteArray) (hp : p.size ≤ maxLen) (hr : r.size ≤ maxLen) (w : World) :
    Calls Try.prog 25 #[.int .i64 k, .int .i64 st, .string p, .string r] w fun e w' => e = .returned (.bool (rightB k st p r)) ∧ w = w' := by
  unfold maxLen at hp hr
  have ee := empty_size p
  by_cases h1 : 0 ≤ k
  · have d1 : decide (0 ≤ k) = true := by simp; omega
    by_cases h2 : k ≤ 4
    · have d2 : decide (k ≤ 4) = true := by simp; omega
      by_cases h3 : 1 ≤ st
      · have d3 : decide (1 ≤ st) = true := by simp; omega
        by_cases h4 : p.size = 0
        · have d4 : p.toList.isEmpty = true := by rw [ee]; simp [h4]
          clear ee
          go_enter Try.func25, Try.ntmps25
          go_wp2_with fail
          go_ret
          exact ⟨ret_bool ((decide_eq_true (by omega)).symm), rfl⟩
        · have d4 : p.toList.isEmpty = false := by rw [ee]; simp [h4]
          clear ee
          go_enter Try.func25, Try.ntmps25
          go_wp2_with fail
          go_ret
          exact ⟨ret_bool (by unfold rightB; rw [Bool.eq_iff_iff, beq_iff_eq, decide_eq_true_iff]; omega), rfl⟩
      · have d3 : decide (1 ≤ st) = false := by simp; omega
        go_enter Try.func25, Try.ntmps25
        go_wp2_with fail
        go_ret
        exact ⟨ret_bool ((decide_eq_false (by omega)).symm), rfl⟩
    · have d2 : decide (k ≤ 4) = false := by simp; omega
      go_enter Try.func25, Try.ntmps25
      go_wp2_with fail
      go_ret
      exact ⟨ret_bool ((decide_eq_false (by omega)).symm), rfl⟩
  · have d1 : decide (0 ≤ k) = false := by simp; omega
    go_enter Try.func25, Try.ntmps25
    go_wp2_with fail
    go_ret
    exact ⟨ret_bool ((decide_eq_false (by omega)).symm), rfl⟩

/-- What a byte weighs, as the code reckons it. -/
theorem wt_val (A : Nat) (b : UInt8) (hA : A ≤ 100000000) : wrap64 ((A : Int) + if wrap64 (256 - wrap64 b.toNat) < wrap64 b.toNat then wrap64 (256 - wrap64 b.toNat) else wrap64 b.toNat) = ((A + wtB b : Nat) : Int) := by
  have h := b.toNat_lt
  rw [IntWalk.wrap64_in (b.toNat : Int) (by omega), IntWalk.wrap64_in ((256 : Int) - _) (by omega)]
  unfold wtB
  rw [IntWalk.wrap64_in _ (by split <;> omega)]
  split <;> split <;> omega
theorem wt_step (l : List UInt8) (k : Nat) (h : k < l.length) : wtL (l.take (k + 1)) = wtL (l.take k) + wtB l[k] := by
  rw [List.take_succ_eq_append_getElem h, wtL_append]
  simp [wtL]

set_option maxHeartbeats 1000000 in
theorem refWeight_any (s : ByteArray) (hs : s.size ≤ 100000) (w : World) :
    Calls Try.prog 18 #[.string s] w fun e w' => e = .returned (.int .i64 (wtL s.data.toList)) ∧ w = w' := by
  go_enter Try.func18, Try.ntmps18
  go_wp2_with fail
  go_loop [3, 4] (fun x i => ∃ k : Nat, k ≤ s.size ∧ i = .int .i64 k ∧ x = .int .i64 (wtL (s.data.toList.take k))) (fun _ i => s.size - (intOf i).toNat)
  case atStart => exact ⟨0, Nat.zero_le _, rfl, rfl⟩
  case round =>
    obtain ⟨k, hk, rfl, rfl⟩ := hrel
    by_cases hlt : k < s.size
    · have e1 := Lib.hid (wt_step s.data.toList k (by simpa using hlt))
      have b1 := wtL_le (s.data.toList.take k)
      have b2 : (s.data.toList.take k).length ≤ 100000 := by rw [List.length_take]; omega
      generalize wtL (s.data.toList.take k) = A at *
      go_wp2_with fail
      refine ⟨⟨k + 1, by omega, by go_num, ?_⟩, ?_⟩
      · rw [e1.out]; exact val_num (wt_val A _ (by omega))
      · simp [intOf]; omega
    · obtain rfl : k = s.size := by omega
      have e : s.data.toList.take s.size = s.data.toList := List.take_of_length_le (by simp)
      rw [e]
      go_wp2_with fail
      go_ret
      exact ⟨rfl, rfl⟩


set_option maxHeartbeats 1000000 in
theorem weight_any (s : ByteArray) (hs : s.size ≤ 100000) (w : World) :
    Calls Try.prog 28 #[.string s] w fun e w' => e = .returned (.int .i64 (wtL s.data.toList)) ∧ ∃ n, w' = w.drewN n := by
  go_enter Try.func28, Try.ntmps28
  go_wp2_with fail
  go_loopw [3, 7] (fun x i wr => ∃ k n : Nat, k ≤ s.size ∧ i = .int .i64 k ∧ x = .int .i64 (wtL (s.data.toList.take k)) ∧ wr = w.drewN n) (fun _ i _ => s.size - (intOf i).toNat)
  case atStart => exact ⟨0, 0, Nat.zero_le _, rfl, rfl, rfl⟩
  case round =>
    obtain ⟨k, n, hk, rfl, rfl, rfl⟩ := hrel
    by_cases hlt : k < s.size
    · have e1 := Lib.hid (wt_step s.data.toList k (by simpa using hlt))
      have b1 := wtL_le (s.data.toList.take k)
      have b2 : (s.data.toList.take k).length ≤ 100000 := by rw [List.length_take]; omega
      generalize wtL (s.data.toList.take k) = A at *
      go_wp2_with fail
      go_quiet (fail)
      go_wp2_with fail
      refine ⟨⟨k + 1, n + nq, by omega, by go_num, ?_, rfl⟩, ?_⟩
      · rw [e1.out]; exact val_num (wt_val A _ (by omega))
      · simp [intOf]; omega
    · obtain rfl : k = s.size := by omega
      have e : s.data.toList.take s.size = s.data.toList := List.take_of_length_le (by simp)
      rw [e]
      go_wp2_with fail
      go_ret
      exact ⟨rfl, _, rfl⟩
end Go.Proofs.Ytcjloklilabblaa.Flt
