/-
  Plain facts: what is written is read again.
-/
import Derived.Test.YtbdlmcpdplmdnaaOctWorks
namespace Go.Proofs.Ytbdlmcpdplmdnaa.Oct
open Go.RowKit
set_option linter.unusedVariables false

theorem leL_succ (s : Nat) (n : Int) : leL (s + 1) n = leL s n ++ [byt n s] := by simp [leL, List.range_succ]

theorem valL_leL (s : Nat) (n : Nat) : valL (leL s n) = ((n % 2 ^ (8 * s) : Nat) : Int) := by
  induction s with
  | zero => simp [leL, valL, Nat.mod_one]
  | succ s ih =>
    have hb := byt_toNat n s
    rw [leL_succ, valL_snoc, ih, leL_length, hb, show 8 * (s + 1) = 8 * s + 8 by omega, Nat.pow_add, Nat.mod_mul]
    simp only [Int.natCast_add, Int.natCast_mul, Int.natCast_emod, Int.natCast_ediv, Int.natCast_pow]
    rw [Int.mul_comm]
    rfl

theorem val_ok {s n : Int} (h : okB s n = true) : valL (leL s.toNat n) = n := by
  obtain ⟨h1, h2, h3⟩ := okB_parts h
  obtain ⟨k, rfl⟩ : ∃ k : Nat, n = k := ⟨n.toNat, by omega⟩
  rw [valL_leL]
  have h4 : k < 2 ^ (8 * s.toNat) := by
    rcases sizeB_cases h1 with rfl | rfl | rfl <;> simp [fitsB] at h3 ⊢ <;> omega
  rw [Nat.mod_eq_of_lt h4]

theorem ext_mid (x y z : ByteArray) : (x ++ y ++ z).extract x.size (x.size + y.size) = y := by
  apply ByteArray.ext
  rw [ByteArray.data_extract, ByteArray.data_append, ByteArray.data_append]
  apply Array.ext'
  have hx : x.size = x.data.toList.length := by simp
  have hy : y.size = y.data.toList.length := by simp
  rw [Array.toList_extract, List.extract_eq_take_drop, Array.toList_append, Array.toList_append, hx, hy, List.append_assoc, List.drop_left, Nat.add_sub_cancel_left, List.take_left]

/-- What 'Bytes' gives of a text, at the place where y stands. -/
theorem by_mid (x y z : ByteArray) : byE (x ++ y ++ z) x.size 0 y.size = 0 ∧ byS (x ++ y ++ z) x.size 0 y.size = y ∧ byI (x ++ y ++ z) x.size 0 y.size = x.size + y.size := by
  have hs : (x ++ y ++ z).size = x.size + y.size + z.size := by simp
  have h : byE (x ++ y ++ z) x.size 0 y.size = 0 := by
    simp only [byE, if_true, if_neg (show ¬ ((y.size : Int) < 0) by omega)]
    rw [hs, if_neg (by push_cast; omega)]
  refine ⟨h, ?_, by simp [byI, h]⟩
  simp only [byS, h, if_true]
  rw [show ((x.size : Int) + (y.size : Int)).toNat = x.size + y.size by omega, Int.toNat_natCast, ext_mid]

theorem num_mid {x y z : ByteArray} {n : Int} (hs : sizeB n = true) (hy : (y.size : Int) = n) :
    numE (x ++ y ++ z) x.size 0 n = 0 ∧ numI (x ++ y ++ z) x.size 0 n = x.size + y.size ∧ intV (x ++ y ++ z) x.size 0 n = valL y.data.toList.reverse ∧ litV (x ++ y ++ z) x.size 0 n = valL y.data.toList := by
  subst hy
  obtain ⟨h1, h2, h3⟩ := by_mid x y z
  simp [numE, numI, intV, litV, hs, h1, h2, h3]

theorem putS_ok {s n : Int} (h : okB s n = true) : ((putS s n).size : Int) = s ∧ valL (putS s n).data.toList.reverse = n ∧ ((litS s n).size : Int) = s ∧ valL (litS s n).data.toList = n ∧ putE s n = 0 := by
  have hs := sizeB_cases (okB_parts h).1
  have hv := val_ok h
  refine ⟨?_, ?_, ?_, ?_, by simp [putE, h]⟩
  · show (((putS s n).data.size : Nat) : Int) = s
    simp [putS, h, beL_length]; omega
  · simp [putS, h, beL, hv]
  · show (((litS s n).data.size : Nat) : Int) = s
    simp [litS, h, leL_length]; omega
  · simp [litS, h, hv]

theorem putS_bad {s n : Int} (h : okB s n = false) : putS s n = ⟨#[]⟩ ∧ litS s n = ⟨#[]⟩ ∧ putE s n = 1 := by simp [putS, litS, putE, h]

theorem ok4 {v : Int} (h0 : 0 ≤ v) (h1 : v < 4294967296) : okB 4 v = true := by
  have h2 : fitsB 4 v = true := by simp [fitsB]; omega
  have h3 : sizeB 4 = true := by decide
  simp [okB, h2, h3, h0]

theorem sgn_ok {m : Int} (h : ¬ (m < -2147483648 ∨ 2147483647 < m)) : (sgnS m).size = 4 ∧ minI (valL (sgnS m).data.toList.reverse) = m := by
  have e : sgnS m = putS 4 (sgnI m) := by simp only [sgnS, if_neg h]
  have hk : okB 4 (sgnI m) = true := by
    apply ok4 <;> (unfold sgnI; split <;> omega)
  obtain ⟨h1, h2, _⟩ := putS_ok hk
  rw [e]
  refine ⟨by omega, ?_⟩
  rw [h2]
  unfold sgnI minI
  split <;> split <;> omega

theorem sgn_bad {m : Int} (h : m < -2147483648 ∨ 2147483647 < m) : sgnS m = ⟨#[]⟩ := by simp only [sgnS, if_pos h]

theorem emp_append (x : ByteArray) : (⟨#[]⟩ : ByteArray) ++ x = x := by apply ByteArray.ext; simp

/-- All that is asked of the text of OctetsBack. -/
theorem back_facts {s n : Int} (hok : okB s n = true) (m : Int) (tail T : ByteArray) (hT : putS s n ++ litS s n ++ sgnS m ++ tail = T) :
    (intV T 0 0 s = n ∧ numI T 0 0 s = s ∧ numE T 0 0 s = 0) ∧ (litV T s 0 s = n ∧ numI T s 0 s = s + s ∧ numE T s 0 s = 0) ∧ (T.size : Int) = s + s + (sgnS m).size + tail.size ∧
    (¬ (m < -2147483648 ∨ 2147483647 < m) → minI (intV T (s + s) 0 4) = m ∧ numI T (s + s) 0 4 = s + s + 4 ∧ numE T (s + s) 0 4 = 0 ∧ byS T (s + s + 4) 0 tail.size = tail ∧ byI T (s + s + 4) 0 tail.size = s + s + 4 + tail.size ∧ byE T (s + s + 4) 0 tail.size = 0 ∧ endE T (s + s + 4 + tail.size) 0 = 0) := by
  obtain ⟨p1, p2, p3, p4, p5⟩ := putS_ok hok
  have hsz := (okB_parts hok).1
  have hs : (T.size : Int) = s + s + (sgnS m).size + tail.size := by rw [← hT]; simp; omega
  have h1 := num_mid (x := ⟨#[]⟩) (y := putS s n) (z := litS s n ++ sgnS m ++ tail) hsz p1
  have e1 : (⟨#[]⟩ : ByteArray) ++ putS s n ++ (litS s n ++ sgnS m ++ tail) = T := by rw [emp_append, ← ByteArray.append_assoc, ← ByteArray.append_assoc]; exact hT
  rw [e1, p2] at h1
  have h2 := num_mid (x := putS s n) (y := litS s n) (z := sgnS m ++ tail) hsz p3
  rw [← ByteArray.append_assoc, hT, p4, p1, p3] at h2
  refine ⟨⟨h1.2.2.1, ?_, h1.1⟩, ⟨h2.2.2.2, h2.2.1, h2.1⟩, hs, fun hm => ?_⟩
  · have := h1.2.1
    rw [p1, show (((ByteArray.mk #[]).size : Nat) : Int) = 0 from rfl, Int.zero_add] at this
    exact this
  · obtain ⟨g1, g2⟩ := sgn_ok hm
    have h3 := num_mid (x := putS s n ++ litS s n) (y := sgnS m) (z := tail) (n := 4) (by decide) (by rw [g1]; rfl)
    have e2 : ((putS s n ++ litS s n).size : Int) = s + s := by simp; omega
    rw [hT, e2, g1] at h3
    have h4 := by_mid (putS s n ++ litS s n ++ sgnS m) tail ⟨#[]⟩
    have e3 : ((putS s n ++ litS s n ++ sgnS m).size : Int) = s + s + 4 := by simp; omega
    have e4 : putS s n ++ litS s n ++ sgnS m ++ tail ++ ⟨#[]⟩ = T := by rw [← hT]; apply ByteArray.ext; simp
    rw [e4, e3] at h4
    refine ⟨by rw [h3.2.2.1]; exact g2, h3.2.1, h3.1, h4.2.1, h4.2.2, h4.1, ?_⟩
    simp only [endE, if_true]
    rw [if_neg (by omega)]

theorem quiet_w {P : Program} {f : FuncId} {args : Array Value} {w : World} {n : Nat} {v : Value}
    (h : Calls P f args (w.drewN n) fun e w' => e = .returned v ∧ w.drewN n = w') : Calls P f args (w.drewN n) fun e w'' => e = .returned v ∧ ∃ m, w'' = w.drewN m :=
  h.mono fun _ _ ⟨he, hm⟩ => ⟨he, n, hm.symm⟩

theorem by_more {t u : ByteArray} {i v : Int} (h0 : 0 ≤ i) (h1 : i ≤ t.size) (h : byE t i 0 v = 0) :
    byE (t ++ u) i 0 v = 0 ∧ byS (t ++ u) i 0 v = byS t i 0 v ∧ byI (t ++ u) i 0 v = i + v ∧ byI t i 0 v = i + v ∧ ((byS t i 0 v).size : Int) = v ∧ 0 ≤ v ∧ i + v ≤ t.size := by
  have h2 : 0 ≤ v ∧ v ≤ t.size - i := by
    simp only [byE, if_true] at h
    by_cases hn : v < 0
    · simp [hn] at h
    · by_cases hl : t.size - i < v
      · simp [hn, hl] at h
      · omega
  have hz : (t ++ u).size = t.size + u.size := by simp
  have h3 : byE (t ++ u) i 0 v = 0 := by
    simp only [byE, if_true, if_neg (show ¬ v < 0 by omega)]
    rw [hz, if_neg (by push_cast; omega)]
  have hsz := (intsz t i 0 v h0 h1).2.2
  rw [if_pos h] at hsz
  refine ⟨h3, ?_, by simp [byI, h3], by simp [byI, h], by omega, h2.1, by omega⟩
  simp only [byS, h, h3, if_true]
  apply ByteArray.ext
  rw [ByteArray.data_extract, ByteArray.data_extract, ByteArray.data_append]
  apply Array.ext'
  rw [Array.toList_extract, Array.toList_extract, List.extract_eq_take_drop, List.extract_eq_take_drop, Array.toList_append, List.drop_append_of_le_length (by simp; omega), List.take_append_of_le_length (by simp; omega)]

theorem by_stop {t : ByteArray} {i e v : Int} (he : ¬ e = 0) : byS t i e v = ⟨#[]⟩ ∧ byI t i e v = i ∧ byE t i e v = e ∧ intV t i e 1 = 0 ∧ numI t i e 1 = i ∧ numE t i e 1 = e ∧ minI (intV t i e 4) = 0 ∧ numI t i e 4 = i ∧ numE t i e 4 = e := by
  have h : ∀ v, ¬ byE t i e v = 0 := fun v => by rw [byE_err he]; exact he
  have z : valL (ByteArray.mk #[]).data.toList.reverse = 0 := rfl
  have y1 : sizeB 1 = true := by decide
  have y4 : sizeB 4 = true := by decide
  have m0 : minI 0 = 0 := by decide
  simp only [intV, numI, numE, y1, y4, if_true]
  rw [byS_err (h v), byI_err (h v), byS_err (h 1), byI_err (h 1), byE_err he, byS_err (h 4), byI_err (h 4), byE_err he, byE_err he, z]
  exact ⟨rfl, rfl, rfl, rfl, rfl, rfl, m0, rfl, rfl⟩

end Go.Proofs.Ytbdlmcpdplmdnaa.Oct
