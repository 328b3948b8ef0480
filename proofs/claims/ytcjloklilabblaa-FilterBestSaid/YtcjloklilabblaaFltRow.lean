/-
  The program's rows of layer 11: the guesses handed on to a closure, rows filtered and unfiltered, the best kind.
-/
import Derived.Test.YtcjloklilabblaaFltRefF
import Derived.Lib.ConvBytes
import Derived.Laws.MakeOwn
namespace Go.Proofs.Ytcjloklilabblaa.Flt
open Go.ChangeShapes Go.WideShapes Go.ChangeAt Go.RowKit
set_option linter.unusedVariables false

/-- What the byte n is guessed to be, of a line as it stands. -/
def gB (k st : Int) (p l : List UInt8) (n : Nat) : Int := guessI k (atB l (n - st)) (atB p n) (atB p (n - st))
theorem at_empty (p : ByteArray) (h : p.size = 0) (i : Int) : atB p.data.toList i = 0 := by
  have e : p.data.toList = [] := List.eq_nil_of_length_eq_zero (by simpa using h)
  rw [e, atB_nil]
theorem at_wrap (p : ByteArray) (n : Nat) (h : n < p.size) : wrap64 ((p[n]'h).toNat : Int) = atB p.data.toList n := by
  have := (p[n]'h).toNat_lt
  rw [atB_in (by simpa using h), IntWalk.wrap64_in _ (by omega)]; rfl
theorem u8_wrap (x : Int) (h : 0 ≤ x ∧ x < 256) : x % 256 = x := Int.emod_eq_of_lt h.1 h.2

set_option maxHeartbeats 4000000 in
theorem guessesF_any (k st : Int) (p : ByteArray) (len gl cl x y : Nat) (row : Nat → List UInt8) (St : Nat → World → Prop) (hlen : len ≤ 400) (hst : 1 ≤ st ∧ st ≤ 9223372036854775807) (hp : p.size = 0 ∨ p.size = len) (hl : ∀ n, (row n).length = len)
    (hrow : ∀ n w, n < len → St n w → ∀ i, i < len → w.cell? ⟨gl, i, none⟩ = some (.int .u8 ((row n).getD i 0).toNat))
    (hstep : ∀ n w w1, n < len → St n w → Below w.heap.size w w1 → Calls Try.prog 24 #[.int .i64 n, .int .u8 (gB k st p.data.toList (row n) n), .pointer (some ⟨x, 0, none⟩), .pointer (some ⟨y, 0, none⟩)] w1 fun e w' => e = .returned (.tuple #[]) ∧ St (n + 1) w')
    (w : World) (h0 : St 0 w) : Calls Try.prog 23 #[.int .i64 k, .int .i64 st, .string p, .slice (some ⟨gl, 0, none⟩) len cl, .func (.func 24) #[] #[.pointer (some ⟨x, 0, none⟩), .pointer (some ⟨y, 0, none⟩)]] w fun e w' => e = .returned (.tuple #[]) ∧ St len w' := by
  have ee := empty_size p
  have H0 := Lib.hid h0
  have HROW := Lib.hid hrow
  have HSTEP := Lib.hid hstep
  have HL := Lib.hid hl
  clear h0 hrow hstep hl
  obtain ⟨s0, s1⟩ := hst
  go_enter Try.func23, Try.ntmps23
  go_wp2_with fail
  go_loopw [16] (fun i wr => ∃ n : Nat, n ≤ len ∧ i = .int .i64 n ∧ St n wr) (fun i _ => len - (intOf i).toNat)
  case atStart => exact ⟨0, Nat.zero_le _, rfl, H0.out⟩
  case round =>
    obtain ⟨n, hn, rfl, hS⟩ := hrel
    by_cases hlt : n < len
    · have ST := Lib.hid (HSTEP.out n wr)
      have ROW := Lib.hid (HROW.out n wr hlt hS)
      have HLn := Lib.hid (HL.out n)
      have HS := Lib.hid hS
      clear hS H0 HSTEP HROW HL
      generalize row n = R at *
      have ST2 : Hid (∀ g, g = gB k st p.data.toList R n → ∀ w1, Below wr.heap.size wr w1 → Calls Try.prog 24 #[.int .i64 n, .int .u8 g, .pointer (some ⟨x, 0, none⟩), .pointer (some ⟨y, 0, none⟩)] w1 fun e w' => e = .returned (.tuple #[]) ∧ St (n + 1) w') := Lib.hid fun g hg w1 hb => by rw [hg]; exact ST.out w1 hlt HS.out hb
      clear ST
      by_cases h1 : p.size = 0
      · have d1 : p.toList.isEmpty = true := by rw [ee]; simp [h1]
        by_cases h2 : st ≤ n
        · have d2 : decide (st ≤ (n : Int)) = true := by simp; omega
          obtain ⟨m, hm⟩ : ∃ m : Nat, (n : Int) - st = m := ⟨((n : Int) - st).toNat, by omega⟩
          have hm2 : m < len := by omega
          have c1 := ROW.out m hm2
          have e1 : atB R m = ((R.getD m 0).toNat : Int) := by rw [atB_in (by rw [HLn.out]; exact hm2), List.getD_eq_getElem?_getD, List.getElem?_eq_getElem (by rw [HLn.out]; exact hm2)]; rfl
          have l1 := (R.getD m 0).toNat_lt
          have e3 : wrap64 ((R.getD m 0).toNat : Int) = atB R m := by rw [IntWalk.wrap64_in _ (by omega), e1]
          have g0 : 0 ≤ guessI k (atB R m) 0 0 ∧ guessI k (atB R m) 0 0 < 256 := guess_byte (atB_byte _ _) (show (0 : Int) ≤ 0 ∧ (0 : Int) < 256 by decide) (show (0 : Int) ≤ 0 ∧ (0 : Int) < 256 by decide)
          have G := Lib.hid (guess_any k (atB R m) 0 0 (atB_byte _ _) (show (0 : Int) ≤ 0 ∧ (0 : Int) < 256 by decide) (show (0 : Int) ≤ 0 ∧ (0 : Int) < 256 by decide) wr)
          have ST3 := Lib.hid (ST2.out (guessI k (atB R m) 0 0) (by unfold gB; rw [hm, at_empty p h1, at_empty p h1]))
          clear ST2 ee e1 l1
          generalize hg : guessI k (atB R m) 0 0 = g at *
          clear hg
          have u1 := u8_wrap g g0
          generalize atB R m = a at *
          generalize (R.getD m 0).toNat = q at *
          go_wp2_with fail
          try rw [e3]
          refine G.out.mono ?_
          rintro r w' ⟨rfl, bel⟩
          have S4 := Lib.hid (ST3.out w' bel)
          clear ST3 G bel
          go_wp2_with fail
          refine S4.out.mono ?_
          rintro r w2 ⟨rfl, hS2⟩
          have HS2 := Lib.hid hS2
          clear hS2
          go_wp2_with fail
          exact ⟨⟨n + 1, by omega, by go_num, HS2.out⟩, by simp [intOf]; omega⟩
        · have d2 : decide (st ≤ (n : Int)) = false := by simp; omega
          have zl := atB_low R (show (n : Int) - st < 0 by omega)
          have zp := atB_low p.data.toList (show (n : Int) - st < 0 by omega)
          have g0 : 0 ≤ guessI k 0 0 0 ∧ guessI k 0 0 0 < 256 := guess_byte (show (0 : Int) ≤ 0 ∧ (0 : Int) < 256 by decide) (show (0 : Int) ≤ 0 ∧ (0 : Int) < 256 by decide) (show (0 : Int) ≤ 0 ∧ (0 : Int) < 256 by decide)
          have G := Lib.hid (guess_any k 0 0 0 (show (0 : Int) ≤ 0 ∧ (0 : Int) < 256 by decide) (show (0 : Int) ≤ 0 ∧ (0 : Int) < 256 by decide) (show (0 : Int) ≤ 0 ∧ (0 : Int) < 256 by decide) wr)
          have ST3 := Lib.hid (ST2.out (guessI k 0 0 0) (by unfold gB; rw [zl, at_empty p h1, at_empty p h1]))
          clear ST2 ee zl zp
          generalize hg : guessI k 0 0 0 = g at *
          clear hg
          have u1 := u8_wrap g g0
          go_wp2_with fail
          refine G.out.mono ?_
          rintro r w' ⟨rfl, bel⟩
          have S4 := Lib.hid (ST3.out w' bel)
          clear ST3 G bel
          go_wp2_with fail
          refine S4.out.mono ?_
          rintro r w2 ⟨rfl, hS2⟩
          have HS2 := Lib.hid hS2
          clear hS2
          go_wp2_with fail
          exact ⟨⟨n + 1, by omega, by go_num, HS2.out⟩, by simp [intOf]; omega⟩
      · have d1 : p.toList.isEmpty = false := by rw [ee]; simp [h1]
        have hps : p.size = len := by omega
        have hnp : n < p.size := by omega
        by_cases h2 : st ≤ n
        · have z2 := at_wrap p n (by omega)
          have d2 : decide (st ≤ (n : Int)) = true := by simp; omega
          obtain ⟨m, hm⟩ : ∃ m : Nat, (n : Int) - st = m := ⟨((n : Int) - st).toNat, by omega⟩
          have hm2 : m < len := by omega
          have c1 := ROW.out m hm2
          have e1 : atB R m = ((R.getD m 0).toNat : Int) := by rw [atB_in (by rw [HLn.out]; exact hm2), List.getD_eq_getElem?_getD, List.getElem?_eq_getElem (by rw [HLn.out]; exact hm2)]; rfl
          have l1 := (R.getD m 0).toNat_lt
          have e3 : wrap64 ((R.getD m 0).toNat : Int) = atB R m := by rw [IntWalk.wrap64_in _ (by omega), e1]
          have z3 := at_wrap p m (by omega)
          have g0 : 0 ≤ guessI k (atB R m) (atB p.data.toList n) (atB p.data.toList m) ∧ guessI k (atB R m) (atB p.data.toList n) (atB p.data.toList m) < 256 := guess_byte (atB_byte _ _) (atB_byte _ _) (atB_byte _ _)
          have G := Lib.hid (guess_any k (atB R m) (atB p.data.toList n) (atB p.data.toList m) (atB_byte _ _) (atB_byte _ _) (atB_byte _ _) wr)
          have ST3 := Lib.hid (ST2.out (guessI k (atB R m) (atB p.data.toList n) (atB p.data.toList m)) (by unfold gB; rw [hm]))
          clear ST2 ee e1 l1
          generalize hg : guessI k (atB R m) (atB p.data.toList n) (atB p.data.toList m) = g at *
          clear hg
          have u1 := u8_wrap g g0
          generalize atB R m = a at *
          generalize (R.getD m 0).toNat = q at *
          generalize atB p.data.toList n = b at *
          generalize atB p.data.toList m = c at *
          go_wp2_with fail
          try rw [e3]
          try rw [z2]
          try rw [z3]
          refine G.out.mono ?_
          rintro r w' ⟨rfl, bel⟩
          have S4 := Lib.hid (ST3.out w' bel)
          clear ST3 G bel
          go_wp2_with fail
          refine S4.out.mono ?_
          rintro r w2 ⟨rfl, hS2⟩
          have HS2 := Lib.hid hS2
          clear hS2
          go_wp2_with fail
          exact ⟨⟨n + 1, by omega, by go_num, HS2.out⟩, by simp [intOf]; omega⟩
        · have z2 := at_wrap p n (by omega)
          have d2 : decide (st ≤ (n : Int)) = false := by simp; omega
          have zl := atB_low R (show (n : Int) - st < 0 by omega)
          have zp := atB_low p.data.toList (show (n : Int) - st < 0 by omega)
          have g0 : 0 ≤ guessI k 0 (atB p.data.toList n) 0 ∧ guessI k 0 (atB p.data.toList n) 0 < 256 := guess_byte (show (0 : Int) ≤ 0 ∧ (0 : Int) < 256 by decide) (atB_byte _ _) (show (0 : Int) ≤ 0 ∧ (0 : Int) < 256 by decide)
          have G := Lib.hid (guess_any k 0 (atB p.data.toList n) 0 (show (0 : Int) ≤ 0 ∧ (0 : Int) < 256 by decide) (atB_byte _ _) (show (0 : Int) ≤ 0 ∧ (0 : Int) < 256 by decide) wr)
          have ST3 := Lib.hid (ST2.out (guessI k 0 (atB p.data.toList n) 0) (by unfold gB; rw [zl, zp]))
          clear ST2 ee zl zp
          generalize hg : guessI k 0 (atB p.data.toList n) 0 = g at *
          clear hg
          have u1 := u8_wrap g g0
          generalize atB p.data.toList n = b at *
          go_wp2_with fail
          try rw [z2]
          refine G.out.mono ?_
          rintro r w' ⟨rfl, bel⟩
          have S4 := Lib.hid (ST3.out w' bel)
          clear ST3 G bel
          go_wp2_with fail
          refine S4.out.mono ?_
          rintro r w2 ⟨rfl, hS2⟩
          have HS2 := Lib.hid hS2
          clear hS2
          go_wp2_with fail
          exact ⟨⟨n + 1, by omega, by go_num, HS2.out⟩, by simp [intOf]; omega⟩
    · obtain rfl : n = len := by omega
      go_wp2_with fail
      go_end0
      exact ⟨rfl, hS⟩

set_option maxHeartbeats 4000000 in
theorem guessesU_any (k st : Int) (p : ByteArray) (len gl cl x : Nat) (row : Nat → List UInt8) (St : Nat → World → Prop) (hlen : len ≤ 400) (hst : 1 ≤ st ∧ st ≤ 9223372036854775807) (hp : p.size = 0 ∨ p.size = len) (hl : ∀ n, (row n).length = len)
    (hrow : ∀ n w, n < len → St n w → ∀ i, i < len → w.cell? ⟨gl, i, none⟩ = some (.int .u8 ((row n).getD i 0).toNat))
    (hstep : ∀ n w w1, n < len → St n w → Below w.heap.size w w1 → Calls Try.prog 27 #[.int .i64 n, .int .u8 (gB k st p.data.toList (row n) n), .pointer (some ⟨x, 0, none⟩)] w1 fun e w' => e = .returned (.tuple #[]) ∧ St (n + 1) w')
    (w : World) (h0 : St 0 w) : Calls Try.prog 23 #[.int .i64 k, .int .i64 st, .string p, .slice (some ⟨gl, 0, none⟩) len cl, .func (.func 27) #[] #[.pointer (some ⟨x, 0, none⟩)]] w fun e w' => e = .returned (.tuple #[]) ∧ St len w' := by
  have ee := empty_size p
  have H0 := Lib.hid h0
  have HROW := Lib.hid hrow
  have HSTEP := Lib.hid hstep
  have HL := Lib.hid hl
  clear h0 hrow hstep hl
  obtain ⟨s0, s1⟩ := hst
  go_enter Try.func23, Try.ntmps23
  go_wp2_with fail
  go_loopw [16] (fun i wr => ∃ n : Nat, n ≤ len ∧ i = .int .i64 n ∧ St n wr) (fun i _ => len - (intOf i).toNat)
  case atStart => exact ⟨0, Nat.zero_le _, rfl, H0.out⟩
  case round =>
    obtain ⟨n, hn, rfl, hS⟩ := hrel
    by_cases hlt : n < len
    · have ST := Lib.hid (HSTEP.out n wr)
      have ROW := Lib.hid (HROW.out n wr hlt hS)
      have HLn := Lib.hid (HL.out n)
      have HS := Lib.hid hS
      clear hS H0 HSTEP HROW HL
      generalize row n = R at *
      have ST2 : Hid (∀ g, g = gB k st p.data.toList R n → ∀ w1, Below wr.heap.size wr w1 → Calls Try.prog 27 #[.int .i64 n, .int .u8 g, .pointer (some ⟨x, 0, none⟩)] w1 fun e w' => e = .returned (.tuple #[]) ∧ St (n + 1) w') := Lib.hid fun g hg w1 hb => by rw [hg]; exact ST.out w1 hlt HS.out hb
      clear ST
      by_cases h1 : p.size = 0
      · have d1 : p.toList.isEmpty = true := by rw [ee]; simp [h1]
        by_cases h2 : st ≤ n
        · have d2 : decide (st ≤ (n : Int)) = true := by simp; omega
          obtain ⟨m, hm⟩ : ∃ m : Nat, (n : Int) - st = m := ⟨((n : Int) - st).toNat, by omega⟩
          have hm2 : m < len := by omega
          have c1 := ROW.out m hm2
          have e1 : atB R m = ((R.getD m 0).toNat : Int) := by rw [atB_in (by rw [HLn.out]; exact hm2), List.getD_eq_getElem?_getD, List.getElem?_eq_getElem (by rw [HLn.out]; exact hm2)]; rfl
          have l1 := (R.getD m 0).toNat_lt
          have e3 : wrap64 ((R.getD m 0).toNat : Int) = atB R m := by rw [IntWalk.wrap64_in _ (by omega), e1]
          have g0 : 0 ≤ guessI k (atB R m) 0 0 ∧ guessI k (atB R m) 0 0 < 256 := guess_byte (atB_byte _ _) (show (0 : Int) ≤ 0 ∧ (0 : Int) < 256 by decide) (show (0 : Int) ≤ 0 ∧ (0 : Int) < 256 by decide)
          have G := Lib.hid (guess_any k (atB R m) 0 0 (atB_byte _ _) (show (0 : Int) ≤ 0 ∧ (0 : Int) < 256 by decide) (show (0 : Int) ≤ 0 ∧ (0 : Int) < 256 by decide) wr)
          have ST3 := Lib.hid (ST2.out (guessI k (atB R m) 0 0) (by unfold gB; rw [hm, at_empty p h1, at_empty p h1]))
          clear ST2 ee e1 l1
          generalize hg : guessI k (atB R m) 0 0 = g at *
          clear hg
          have u1 := u8_wrap g g0
          generalize atB R m = a at *
          generalize (R.getD m 0).toNat = q at *
          go_wp2_with fail
          try rw [e3]
          refine G.out.mono ?_
          rintro r w' ⟨rfl, bel⟩
          have S4 := Lib.hid (ST3.out w' bel)
          clear ST3 G bel
          go_wp2_with fail
          refine S4.out.mono ?_
          rintro r w2 ⟨rfl, hS2⟩
          have HS2 := Lib.hid hS2
          clear hS2
          go_wp2_with fail
          exact ⟨⟨n + 1, by omega, by go_num, HS2.out⟩, by simp [intOf]; omega⟩
        · have d2 : decide (st ≤ (n : Int)) = false := by simp; omega
          have zl := atB_low R (show (n : Int) - st < 0 by omega)
          have zp := atB_low p.data.toList (show (n : Int) - st < 0 by omega)
          have g0 : 0 ≤ guessI k 0 0 0 ∧ guessI k 0 0 0 < 256 := guess_byte (show (0 : Int) ≤ 0 ∧ (0 : Int) < 256 by decide) (show (0 : Int) ≤ 0 ∧ (0 : Int) < 256 by decide) (show (0 : Int) ≤ 0 ∧ (0 : Int) < 256 by decide)
          have G := Lib.hid (guess_any k 0 0 0 (show (0 : Int) ≤ 0 ∧ (0 : Int) < 256 by decide) (show (0 : Int) ≤ 0 ∧ (0 : Int) < 256 by decide) (show (0 : Int) ≤ 0 ∧ (0 : Int) < 256 by decide) wr)
          have ST3 := Lib.hid (ST2.out (guessI k 0 0 0) (by unfold gB; rw [zl, at_empty p h1, at_empty p h1]))
          clear ST2 ee zl zp
          generalize hg : guessI k 0 0 0 = g at *
          clear hg
          have u1 := u8_wrap g g0
          go_wp2_with fail
          refine G.out.mono ?_
          rintro r w' ⟨rfl, bel⟩
          have S4 := Lib.hid (ST3.out w' bel)
          clear ST3 G bel
          go_wp2_with fail
          refine S4.out.mono ?_
          rintro r w2 ⟨rfl, hS2⟩
          have HS2 := Lib.hid hS2
          clear hS2
          go_wp2_with fail
          exact ⟨⟨n + 1, by omega, by go_num, HS2.out⟩, by simp [intOf]; omega⟩
      · have d1 : p.toList.isEmpty = false := by rw [ee]; simp [h1]
        have hps : p.size = len := by omega
        have hnp : n < p.size := by omega
        by_cases h2 : st ≤ n
        · have z2 := at_wrap p n (by omega)
          have d2 : decide (st ≤ (n : Int)) = true := by simp; omega
          obtain ⟨m, hm⟩ : ∃ m : Nat, (n : Int) - st = m := ⟨((n : Int) - st).toNat, by omega⟩
          have hm2 : m < len := by omega
          have c1 := ROW.out m hm2
          have e1 : atB R m = ((R.getD m 0).toNat : Int) := by rw [atB_in (by rw [HLn.out]; exact hm2), List.getD_eq_getElem?_getD, List.getElem?_eq_getElem (by rw [HLn.out]; exact hm2)]; rfl
          have l1 := (R.getD m 0).toNat_lt
          have e3 : wrap64 ((R.getD m 0).toNat : Int) = atB R m := by rw [IntWalk.wrap64_in _ (by omega), e1]
          have z3 := at_wrap p m (by omega)
          have g0 : 0 ≤ guessI k (atB R m) (atB p.data.toList n) (atB p.data.toList m) ∧ guessI k (atB R m) (atB p.data.toList n) (atB p.data.toList m) < 256 := guess_byte (atB_byte _ _) (atB_byte _ _) (atB_byte _ _)
          have G := Lib.hid (guess_any k (atB R m) (atB p.data.toList n) (atB p.data.toList m) (atB_byte _ _) (atB_byte _ _) (atB_byte _ _) wr)
          have ST3 := Lib.hid (ST2.out (guessI k (atB R m) (atB p.data.toList n) (atB p.data.toList m)) (by unfold gB; rw [hm]))
          clear ST2 ee e1 l1
          generalize hg : guessI k (atB R m) (atB p.data.toList n) (atB p.data.toList m) = g at *
          clear hg
          have u1 := u8_wrap g g0
          generalize atB R m = a at *
          generalize (R.getD m 0).toNat = q at *
          generalize atB p.data.toList n = b at *
          generalize atB p.data.toList m = c at *
          go_wp2_with fail
          try rw [e3]
          try rw [z2]
          try rw [z3]
          refine G.out.mono ?_
          rintro r w' ⟨rfl, bel⟩
          have S4 := Lib.hid (ST3.out w' bel)
          clear ST3 G bel
          go_wp2_with fail
          refine S4.out.mono ?_
          rintro r w2 ⟨rfl, hS2⟩
          have HS2 := Lib.hid hS2
          clear hS2
          go_wp2_with fail
          exact ⟨⟨n + 1, by omega, by go_num, HS2.out⟩, by simp [intOf]; omega⟩
        · have z2 := at_wrap p n (by omega)
          have d2 : decide (st ≤ (n : Int)) = false := by simp; omega
          have zl := atB_low R (show (n : Int) - st < 0 by omega)
          have zp := atB_low p.data.toList (show (n : Int) - st < 0 by omega)
          have g0 : 0 ≤ guessI k 0 (atB p.data.toList n) 0 ∧ guessI k 0 (atB p.data.toList n) 0 < 256 := guess_byte (show (0 : Int) ≤ 0 ∧ (0 : Int) < 256 by decide) (atB_byte _ _) (show (0 : Int) ≤ 0 ∧ (0 : Int) < 256 by decide)
          have G := Lib.hid (guess_any k 0 (atB p.data.toList n) 0 (show (0 : Int) ≤ 0 ∧ (0 : Int) < 256 by decide) (atB_byte _ _) (show (0 : Int) ≤ 0 ∧ (0 : Int) < 256 by decide) wr)
          have ST3 := Lib.hid (ST2.out (guessI k 0 (atB p.data.toList n) 0) (by unfold gB; rw [zl, zp]))
          clear ST2 ee zl zp
          generalize hg : guessI k 0 (atB p.data.toList n) 0 = g at *
          clear hg
          have u1 := u8_wrap g g0
          generalize atB p.data.toList n = b at *
          go_wp2_with fail
          try rw [z2]
          refine G.out.mono ?_
          rintro r w' ⟨rfl, bel⟩
          have S4 := Lib.hid (ST3.out w' bel)
          clear ST3 G bel
          go_wp2_with fail
          refine S4.out.mono ?_
          rintro r w2 ⟨rfl, hS2⟩
          have HS2 := Lib.hid hS2
          clear hS2
          go_wp2_with fail
          exact ⟨⟨n + 1, by omega, by go_num, HS2.out⟩, by simp [intOf]; omega⟩
    · obtain rfl : n = len := by omega
      go_wp2_with fail
      go_end0
      exact ⟨rfl, hS⟩
end Go.Proofs.Ytcjloklilabblaa.Flt
