/-
  Contracts of the reference of layer 11: rows filtered and unfiltered, and the best kind.
-/
import Derived.Test.YtcjloklilabblaaFltRef
import Derived.Test.YtcjloklilabblaaOctMath
namespace Go.Proofs.Ytcjloklilabblaa.Flt
open Go.ChangeShapes Go.WideShapes Go.ChangeAt Go.RowKit
set_option linter.unusedVariables false

/-- A byte less what is guessed, as the reference reckons it. -/
theorem sub_val (b : UInt8) (g : Int) (h : 0 ≤ g ∧ g < 256) : (wrap64 (wrap64 (wrap64 b.toNat - g) + 256)).tmod 256 % 256 = ((byteI (b.toNat - g + 256)).toNat : Int) := by
  have := b.toNat_lt
  rw [byteI_val, IntWalk.wrap64_in (b.toNat : Int) (by omega), IntWalk.wrap64_in ((b.toNat : Int) - g) (by omega), IntWalk.wrap64_in _ (by omega), Int.tmod_eq_emod_of_nonneg (by omega)]
  omega
/-- 'string' of one byte that was just made. -/
theorem one_str (w : World) (X : Int) (b : UInt8) (h : X = b.toNat) :
    (convert 33 9 (.slice (some ⟨w.heap.size, 0, none⟩) 1 1)).run Try.prog (w.alloc (.cells #[.int .u8 X] 5)) = .ok (.string ⟨#[b]⟩) (w.alloc (.cells #[.int .u8 X] 5)) := by
  subst h
  exact Oct.run_string_of _ _ _ 5 _ _ [b] 1 rfl (by kernel_rfl) (by kernel_rfl) (by kernel_rfl) (fun j hj => by
    obtain rfl : j = 0 := by omega
    rw [Oct.addr_add]
    show (w.alloc (.cells #[.int .u8 b.toNat] 5)).cell? _ = _
    simp)

theorem str_snoc (L : List UInt8) (b : UInt8) : Value.string ((⟨L.toArray⟩ : ByteArray) ++ ⟨#[b]⟩) = .string ⟨(L ++ [b]).toArray⟩ := by
  congr 1

set_option maxHeartbeats 2000000 in
theorem refFilter_any (k st : Int) (p r : ByteArray) (hp : p.size ≤ 400) (hr : r.size ≤ 400) (hw : (Lit.int .i64 st).wf = true) (w : World) :
    Calls Try.prog 13 #[.int .i64 k, .int .i64 st, .string p, .string r] w fun e w' =>
      e = .returned (.tuple #[.string (if rightB k st p r then ⟨(filL k st p.data.toList r.data.toList r.size).toArray⟩ else ByteArray.empty), .int .i64 (if rightB k st p r then 0 else 1)]) ∧ Below w.heap.size w w' := by
  have R := Lib.hid (refRight_any k st p r (by unfold maxLen; omega) (by unfold maxLen; omega) w)
  have hst : rightB k st p r = true → 1 ≤ st ∧ st ≤ 9223372036854775807 := by
    intro h
    have e1 : IntKind.i64.max = 9223372036854775807 := rfl
    simp [rightB] at h
    simp [Lit.wf] at hw
    omega
  generalize rightB k st p r = b at *
  cases b with
  | false =>
    go_enter Try.func13, Try.ntmps13
    go_wp2_with fail
    refine R.out.mono ?_
    rintro e w' ⟨rfl, rfl⟩
    go_wp2_with fail
    go_ret2
    exact ⟨rfl, Below.refl _ _⟩
  | true =>
    obtain ⟨s0, s1⟩ := hst rfl
    clear hst hw
    go_enter Try.func13, Try.ntmps13
    go_wp2_with fail
    refine R.out.mono ?_
    rintro e w' ⟨rfl, rfl⟩
    clear R
    go_wp2_with fail
    go_loopw [10, 11] (fun o i wr => Below w.heap.size w wr ∧ ∃ n : Nat, n ≤ r.size ∧ i = .int .i64 n ∧ o = .string ⟨(filL k st p.data.toList r.data.toList n).toArray⟩) (fun _ i _ => r.size - (intOf i).toNat)
    case atStart => exact ⟨Below.refl _ _, 0, Nat.zero_le _, rfl, rfl⟩
    case round =>
      obtain ⟨bel, n, hn, rfl, rfl⟩ := hrel
      by_cases hlt : n < r.size
      · have A1 := Lib.hid (at_any r (n - st) (by unfold maxLen; omega) wr)
        have A2 := Lib.hid (at_any p n (by unfold maxLen; omega) wr)
        have A3 := Lib.hid (at_any p (n - st) (by unfold maxLen; omega) wr)
        have G := Lib.hid (refGuess_any k (atB r.data.toList (n - st)) (atB p.data.toList n) (atB p.data.toList (n - st)) (atB_byte _ _) (atB_byte _ _) (atB_byte _ _) wr)
        have e : Hid (filL k st p.data.toList r.data.toList (n + 1) = filL k st p.data.toList r.data.toList n ++ [byteI (r[n].toNat - guessI k (atB r.data.toList (n - st)) (atB p.data.toList n) (atB p.data.toList (n - st)) + 256)]) := Lib.hid (by
          show _ ++ [filB _ _ _ _ _] = _
          unfold filB
          rw [atB_in (show n < r.data.toList.length by simpa using hlt)]; rfl)
        have g0 := guess_byte (k := k) (atB_byte r.data.toList (n - st)) (atB_byte p.data.toList n) (atB_byte p.data.toList (n - st))
        have hl := filL_length k st p.data.toList r.data.toList n
        generalize guessI k (atB r.data.toList (n - st)) (atB p.data.toList n) (atB p.data.toList (n - st)) = g at *
        generalize atB r.data.toList (n - st) = x1 at *
        generalize atB p.data.toList (n - st) = x3 at *
        generalize atB p.data.toList n = x2 at *
        generalize filL k st p.data.toList r.data.toList n = L at *
        go_wp2_with fail
        refine A1.out.mono ?_
        rintro e w' ⟨rfl, rfl⟩
        go_wp2_with fail
        refine A2.out.mono ?_
        rintro e w' ⟨rfl, rfl⟩
        go_wp2_with fail
        refine A3.out.mono ?_
        rintro e w' ⟨rfl, rfl⟩
        go_wp2_with fail
        refine G.out.mono ?_
        rintro e w' ⟨rfl, rfl⟩
        clear A1 A2 A3 G
        have hcv := one_str wr _ _ (sub_val r[n] g g0)
        have z1 : (⟨L.toArray⟩ : ByteArray).size = n := hl
        have z2 : (⟨#[byteI (r[n].toNat - g + 256)]⟩ : ByteArray).size = 1 := rfl
        go_wp2_with fail
        refine ⟨⟨bel.alloc bel.size _, n + 1, by omega, by go_num, ?_⟩, ?_⟩
        · rw [e.out, str_snoc]
        · simp [intOf]; omega
      · obtain rfl : n = r.size := by omega
        go_wp2_with fail
        go_ret2
        exact ⟨rfl, bel⟩
/-- A byte and what is guessed, as the reference reckons it. -/
theorem add_val (b : UInt8) (g : Int) (h : 0 ≤ g ∧ g < 256) : (wrap64 (wrap64 b.toNat + g)).tmod 256 % 256 = ((byteI (b.toNat + g)).toNat : Int) := by
  have := b.toNat_lt
  rw [byteI_val, IntWalk.wrap64_in (b.toNat : Int) (by omega), IntWalk.wrap64_in _ (by omega), Int.tmod_eq_emod_of_nonneg (by omega)]
  omega

set_option maxHeartbeats 2000000 in
theorem refUnfilter_any (k st : Int) (p r : ByteArray) (hp : p.size ≤ 400) (hr : r.size ≤ 400) (hw : (Lit.int .i64 st).wf = true) (w : World) :
    Calls Try.prog 15 #[.int .i64 k, .int .i64 st, .string p, .string r] w fun e w' =>
      e = .returned (.tuple #[.string (if rightB k st p r then ⟨(unfL k st p.data.toList r.data.toList r.size).toArray⟩ else ByteArray.empty), .int .i64 (if rightB k st p r then 0 else 1)]) ∧ Below w.heap.size w w' := by
  have R := Lib.hid (refRight_any k st p r (by unfold maxLen; omega) (by unfold maxLen; omega) w)
  have hst : rightB k st p r = true → 1 ≤ st ∧ st ≤ 9223372036854775807 := by
    intro h
    have e1 : IntKind.i64.max = 9223372036854775807 := rfl
    simp [rightB] at h
    simp [Lit.wf] at hw
    omega
  generalize rightB k st p r = b at *
  cases b with
  | false =>
    go_enter Try.func15, Try.ntmps15
    go_wp2_with fail
    refine R.out.mono ?_
    rintro e w' ⟨rfl, rfl⟩
    go_wp2_with fail
    go_ret2
    exact ⟨rfl, Below.refl _ _⟩
  | true =>
    obtain ⟨s0, s1⟩ := hst rfl
    clear hst hw
    go_enter Try.func15, Try.ntmps15
    go_wp2_with fail
    refine R.out.mono ?_
    rintro e w' ⟨rfl, rfl⟩
    clear R
    go_wp2_with fail
    go_loopw [10, 11] (fun o i wr => Below w.heap.size w wr ∧ ∃ n : Nat, n ≤ r.size ∧ i = .int .i64 n ∧ o = .string ⟨(unfL k st p.data.toList r.data.toList n).toArray⟩) (fun _ i _ => r.size - (intOf i).toNat)
    case atStart => exact ⟨Below.refl _ _, 0, Nat.zero_le _, rfl, rfl⟩
    case round =>
      obtain ⟨bel, n, hn, rfl, rfl⟩ := hrel
      by_cases hlt : n < r.size
      · have e : Hid (unfL k st p.data.toList r.data.toList (n + 1) = unfL k st p.data.toList r.data.toList n ++ [byteI (r[n].toNat + guessI k (atB (unfL k st p.data.toList r.data.toList n) (n - st)) (atB p.data.toList n) (atB p.data.toList (n - st)))]) := Lib.hid (by
          rw [unfL_succ, atB_in (show n < r.data.toList.length by simpa using hlt)]; rfl)
        have hl := unfL_length k st p.data.toList r.data.toList n
        generalize unfL k st p.data.toList r.data.toList n = L at *
        have A1 : Hid (Calls Try.prog 26 #[.string ⟨L.toArray⟩, .int .i64 (n - st)] wr fun e w' => e = .returned (.int .i64 (atB L (n - st))) ∧ wr = w') := Lib.hid (at_any ⟨L.toArray⟩ (n - st) (by unfold maxLen; show L.length ≤ _; omega) wr)
        have A2 := Lib.hid (at_any p n (by unfold maxLen; omega) wr)
        have A3 := Lib.hid (at_any p (n - st) (by unfold maxLen; omega) wr)
        have G := Lib.hid (refGuess_any k (atB L (n - st)) (atB p.data.toList n) (atB p.data.toList (n - st)) (atB_byte _ _) (atB_byte _ _) (atB_byte _ _) wr)
        have g0 := guess_byte (k := k) (atB_byte L (n - st)) (atB_byte p.data.toList n) (atB_byte p.data.toList (n - st))
        generalize guessI k (atB L (n - st)) (atB p.data.toList n) (atB p.data.toList (n - st)) = g at *
        generalize atB L (n - st) = x1 at *
        generalize atB p.data.toList (n - st) = x3 at *
        generalize atB p.data.toList n = x2 at *
        go_wp2_with fail
        refine A1.out.mono ?_
        rintro e w' ⟨rfl, rfl⟩
        go_wp2_with fail
        refine A2.out.mono ?_
        rintro e w' ⟨rfl, rfl⟩
        go_wp2_with fail
        refine A3.out.mono ?_
        rintro e w' ⟨rfl, rfl⟩
        go_wp2_with fail
        refine G.out.mono ?_
        rintro e w' ⟨rfl, rfl⟩
        clear A1 A2 A3 G
        have hcv := one_str wr _ _ (add_val r[n] g g0)
        have z1 : (⟨L.toArray⟩ : ByteArray).size = n := hl
        have z2 : (⟨#[byteI (r[n].toNat + g)]⟩ : ByteArray).size = 1 := rfl
        go_wp2_with fail
        refine ⟨⟨bel.alloc bel.size _, n + 1, by omega, by go_num, ?_⟩, ?_⟩
        · rw [e.out, str_snoc]
        · simp [intOf]; omega
      · obtain rfl : n = r.size := by omega
        go_wp2_with fail
        go_ret2
        exact ⟨rfl, bel⟩

theorem rightB_of (k j : Nat) (st : Int) (p r : ByteArray) (hk : k ≤ 4) (hj : j ≤ 4) : rightB k st p r = rightB j st p r := by
  unfold rightB
  rw [Bool.eq_iff_iff, decide_eq_true_iff, decide_eq_true_iff]
  omega
/-- What a kind weighs. -/
def wtK (st : Int) (p r : ByteArray) (k : Nat) : Nat := wtL (filL k st p.data.toList r.data.toList r.size)
theorem wtK_le (st : Int) (p r : ByteArray) (k : Nat) : wtK st p r k ≤ r.size * 128 := by
  have := wtL_le (filL k st p.data.toList r.data.toList r.size)
  rw [filL_length] at this
  exact this
/-- The best kind. -/
def bestK (st : Int) (p r : ByteArray) : Nat := if rightB 0 st p r then pick (wtK st p r) 4 else 0

set_option maxHeartbeats 2000000 in
theorem refChoose_any (st : Int) (p r : ByteArray) (hp : p.size ≤ 400) (hr : r.size ≤ 400) (hw : (Lit.int .i64 st).wf = true) (w : World) :
    Calls Try.prog 17 #[.int .i64 st, .string p, .string r] w fun e w' => e = .returned (.int .i64 (bestK st p r)) ∧ Below w.heap.size w w' := by
  unfold bestK
  have R : ∀ k : Nat, k ≤ 4 → rightB k st p r = rightB ((0 : Nat) : Int) st p r := fun k hk => rightB_of k 0 st p r hk (by omega)
  have F : Hid (∀ (k : Nat) (w : World), k ≤ 4 → Calls Try.prog 13 #[.int .i64 k, .int .i64 st, .string p, .string r] w fun e w' =>
      e = .returned (.tuple #[.string (if rightB ((0 : Nat) : Int) st p r then ⟨(filL k st p.data.toList r.data.toList r.size).toArray⟩ else ByteArray.empty), .int .i64 (if rightB ((0 : Nat) : Int) st p r then 0 else 1)]) ∧ Below w.heap.size w w') := Lib.hid fun k w hk => by
    rw [← R k hk]; exact refFilter_any k st p r hp hr hw w
  have W : Hid (∀ (k : Nat) (w : World), Calls Try.prog 18 #[.string ⟨(filL k st p.data.toList r.data.toList r.size).toArray⟩] w fun e w' => e = .returned (.int .i64 (wtK st p r k)) ∧ w = w') := Lib.hid fun k w =>
    refWeight_any ⟨(filL k st p.data.toList r.data.toList r.size).toArray⟩ (by show (filL k st p.data.toList r.data.toList r.size).length ≤ _; rw [filL_length]; omega) w
  have B := wtK_le st p r
  have B : Hid (∀ k, wtK st p r k ≤ 51200) := Lib.hid fun k => by have := B k; omega
  clear R hw hp hr
  show Calls _ _ _ _ fun e w' => e = .returned (.int .i64 ((if rightB ((0 : Nat) : Int) st p r = true then pick (wtK st p r) 4 else 0 : Nat) : Int)) ∧ _
  generalize rightB ((0 : Nat) : Int) st p r = b at *
  have W2 := W
  generalize hf : wtK st p r = f at *
  clear hf
  cases b with
  | false =>
    go_enter Try.func17, Try.ntmps17
    go_wp2_with fail
    go_loopw [7, 8, 9] (fun m l k wr => Below w.heap.size w wr ∧ ∃ j : Nat, j ≤ 5 ∧ k = .int .i64 j ∧ m = .int .i64 0 ∧ l = .int .i64 (-1)) (fun _ _ k _ => 5 - (intOf k).toNat)
    case atStart => exact ⟨Below.refl _ _, 0, Nat.zero_le _, rfl, rfl, rfl⟩
    case round =>
      obtain ⟨bel, j, hj, rfl, rfl, rfl⟩ := hrel
      by_cases hlt : j < 5
      · go_wp2_with fail
        refine (F.out j wr (by omega)).mono ?_
        rintro e w' ⟨rfl, b2⟩
        have b3 := bel.trans (b2.mono bel.size)
        clear b2 bel
        go_wp2_with fail
        exact ⟨⟨b3, j + 1, by omega, by go_num, rfl, rfl⟩, by simp [intOf]; omega⟩
      · obtain rfl : j = 5 := by omega
        go_wp2_with fail
        go_ret
        exact ⟨rfl, bel⟩
  | true =>
    go_enter Try.func17, Try.ntmps17
    go_wp2_with fail
    go_loopw [7, 8, 9] (fun m l k wr => Below w.heap.size w wr ∧ ∃ j : Nat, j ≤ 5 ∧ k = .int .i64 j ∧ ((j = 0 ∧ m = .int .i64 0 ∧ l = .int .i64 (-1)) ∨ ∃ i, j = i + 1 ∧ m = .int .i64 (pick f i) ∧ l = .int .i64 (f (pick f i)))) (fun _ _ k _ => 5 - (intOf k).toNat)
    case atStart => exact ⟨Below.refl _ _, 0, Nat.zero_le _, rfl, .inl ⟨rfl, rfl, rfl⟩⟩
    case round =>
      obtain ⟨bel, j, hj, rfl, hj2⟩ := hrel
      by_cases hlt : j < 5
      · have FF := Lib.hid (F.out j wr (by omega))
        have bj := B.out j
        rcases hj2 with ⟨rfl, rfl, rfl⟩ | ⟨i, rfl, rfl, rfl⟩
        · go_wp2_with fail
          refine FF.out.mono ?_
          rintro e w' ⟨rfl, b2⟩
          have b3 := bel.trans (b2.mono bel.size)
          clear b2 bel FF
          go_wp2_with fail
          refine (W.out 0 w').mono ?_
          rintro e w2 ⟨rfl, rfl⟩
          go_wp2_with fail
          exact ⟨⟨b3, 1, by omega, by go_num, .inr ⟨0, rfl, rfl, rfl⟩⟩, by simp [intOf]⟩
        · have bi := B.out (pick f i)
          have hpk : pick f (i + 1) = if f (i + 1) < f (pick f i) then i + 1 else pick f i := rfl
          have PK := Lib.hid hpk
          clear hpk
          generalize hP : pick f i = P at *
          generalize hG : f P = G at *
          generalize hH : f (i + 1) = H at *
          clear hP
          go_wp2_with fail
          refine FF.out.mono ?_
          rintro e w' ⟨rfl, b2⟩
          have b3 := bel.trans (b2.mono bel.size)
          clear b2 bel FF
          have WW := Lib.hid (W.out (i + 1) w')
          rw [hH] at WW
          have HG := Lib.hid hG
          have HH := Lib.hid hH
          clear hG hH
          go_wp2_with fail
          refine WW.out.mono ?_
          rintro e w2 ⟨rfl, rfl⟩
          by_cases h1 : H < G
          · have d1 : decide ((H : Int) < G) = true := by simp; omega
            have d2 : decide (H < G) = true := by simp; omega
            go_wp2_with fail
            refine WW.out.mono ?_
            rintro e w2 ⟨rfl, rfl⟩
            go_wp2_with fail
            refine ⟨⟨b3, i + 1 + 1, by omega, by go_num, .inr ⟨i + 1, rfl, ?_, ?_⟩⟩, by simp [intOf]; omega⟩
            · rw [PK.out, if_pos h1]; rfl
            · rw [PK.out, if_pos h1, HH.out]
          · have d1 : decide ((H : Int) < G) = false := by simp; omega
            have d2 : decide (H < G) = false := by simp; omega
            go_wp2_with fail
            refine ⟨⟨b3, i + 1 + 1, by omega, by go_num, .inr ⟨i + 1, rfl, ?_, ?_⟩⟩, by simp [intOf]; omega⟩
            · rw [PK.out, if_neg h1]
            · rw [PK.out, if_neg h1, HG.out]
      · rcases hj2 with ⟨rfl, rfl, rfl⟩ | ⟨i, rfl, rfl, rfl⟩
        · omega
        · obtain rfl : i = 4 := by omega
          go_wp2_with fail
          go_ret
          exact ⟨rfl, bel⟩
end Go.Proofs.Ytcjloklilabblaa.Flt
