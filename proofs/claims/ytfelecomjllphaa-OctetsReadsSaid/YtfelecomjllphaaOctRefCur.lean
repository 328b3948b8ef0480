/-
  Contracts of the reference's cursor.
-/
import Derived.Test.YtfelecomjllphaaOctRead
namespace Go.Proofs.Ytfelecomjllphaa.Oct
open Go.ChangeShapes Go.WideShapes Go.ChangeAt Go.RowKit
set_option linter.unusedVariables false

set_option maxHeartbeats 1000000 in
theorem refBytes_any (b : Nat) (t : ByteArray) (i e n : Int) (w : World) (h : CurAt 34 w b t i e) (h0 : 0 ≤ i) (h1 : i ≤ t.size) (ht : t.size ≤ 1000000) :
    Calls Try.prog 23 #[.pointer (some ⟨b, 0, none⟩), .int .i64 n] w fun r w' => r = .returned (.string (byS t i e n)) ∧ CurAt 34 w' b t (byI t i e n) (byE t i e n) ∧ w.grownBy w' (some b) := by
  obtain ⟨c0, c1, c2, f1, f2⟩ := h.cells
  have H := Lib.hid h
  clear h
  by_cases he : e = 0
  · subst he
    by_cases hn : n < 0
    · have hk : byE t i 0 n = 1 := by simp [byE, hn]
      rw [byS_err (by omega), byI_err (by omega), hk]; clear hk
      go_enter Try.func23, Try.ntmps23
      go_wp2_with fail
      go_ret
      exact ⟨rfl, H.out.set2 1, grown_set _ _ _ _⟩
    · obtain ⟨j, rfl⟩ : ∃ j : Nat, i = j := ⟨i.toNat, by omega⟩
      have d1 : IntKind.i64.wrap ((t.size : Int) - (j : Int)) = t.size - j := IntWalk.i64_in _ (by omega)
      by_cases hl : t.size - (j : Int) < n
      · have hk : byE t j 0 n = 2 := by simp [byE, hn, hl]
        rw [byS_err (by omega), byI_err (by omega), hk]; clear hk
        go_enter Try.func23, Try.ntmps23
        go_wp2_with fail
        go_quiet (fail)
        go_wp2_with fail
        go_ret
        refine ⟨rfl, CurAt.set2 (show CurAt _ (w.drewN nq) b t j 0 from H.out) _, ?_⟩
        exact grown_set_drewN _ _ _ _ _
      · have hk : byE t j 0 n = 0 := by simp [byE, hn, hl]
        have hS : byS t j 0 n = t.extract (j : Int).toNat ((j : Int) + n).toNat := by simp [byS, hk]
        have hI : byI t j 0 n = j + n := by simp [byI, hk]
        rw [hS, hI, hk]; clear hk hS hI
        obtain ⟨m, rfl⟩ : ∃ m : Nat, n = m := ⟨n.toNat, by omega⟩
        have q1 : j + m ≤ t.size := by omega
        have e1 : IntKind.i64.wrap ((j : Int) + (m : Int)) = j + m := IntWalk.i64_in _ (by omega)
        go_enter Try.func23, Try.ntmps23
        go_wp2_with fail
        go_quiet (fail)
        go_wp2_with fail
        go_quiet (fail)
        go_wp2_with fail
        go_ret
        rw [show ((j : Int) + (m : Int)).toNat = j + m by omega]
        refine ⟨rfl, CurAt.set1 (show CurAt _ (w.drewN _) b t j 0 from H.out) _, ?_⟩
        exact grown_set_drewN _ _ _ _ _
  · have hne : ¬ byE t i e n = 0 := by rw [byE_err he]; exact he
    rw [byS_err hne, byI_err hne, byE_err he]
    have he' : (e != 0) = true := by simp [he]
    clear hne
    go_enter Try.func23, Try.ntmps23
    go_wp2_with fail
    go_ret
    exact ⟨rfl, H.out, rfl, rfl, rfl, Nat.le_refl _, fun _ _ _ => rfl⟩

def valB (l : List UInt8) : Int := l.foldl (fun n b => n * 256 + b.toNat) 0

theorem foldl_val (l : List UInt8) : ∀ n : Int, l.foldl (fun n b => n * 256 + (b.toNat : Int)) n = n * 2 ^ (8 * l.length) + valL l.reverse := by
  induction l with
  | nil => intro n; simp [valL]
  | cons b r ih =>
    intro n
    have e : (2 : Int) ^ (8 * (r.length + 1)) = 256 * 2 ^ (8 * r.length) := by rw [show 8 * (r.length + 1) = 8 + 8 * r.length by omega, Int.pow_add]; rfl
    simp only [List.foldl_cons, List.reverse_cons, List.length_cons]
    rw [ih, valL_snoc, e, List.length_reverse, Int.add_mul, Int.mul_assoc]
    omega

theorem valB_eq (l : List UInt8) : valB l = valL l.reverse := by unfold valB; rw [foldl_val]; simp

theorem valB_snoc (l : List UInt8) (b : UInt8) : valB (l ++ [b]) = valB l * 256 + b.toNat := by simp [valB]

set_option maxHeartbeats 1000000 in
theorem refInt_any (t : ByteArray) (w : World) (ht : t.size ≤ 4) :
    Calls Try.prog 35 #[.string t] w fun e w' => e = .returned (.int .i64 (valL t.data.toList.reverse)) ∧ w = w' := by
  go_enter Try.func35, Try.ntmps35
  go_wp2
  go_loop [3, 4] (fun n i => ∃ k : Nat, k ≤ t.size ∧ i = .int .i64 k ∧ n = .int .i64 (valB (t.data.toList.take k))) (fun _ i => t.size - (intOf i).toNat)
  case atStart => exact ⟨0, Nat.zero_le _, rfl, by simp [valB]⟩
  case round =>
    obtain ⟨k, hk, rfl, rfl⟩ := hrel
    by_cases hlt : k < t.size
    · have hl : (t.data.toList.take k).length = k := by simp; omega
      have hv : 0 ≤ valB (t.data.toList.take k) ∧ valB (t.data.toList.take k) ≤ 16777215 := by
        rw [valB_eq]
        have hv := valL_bd (t.data.toList.take k).reverse
        rw [List.length_reverse, hl] at hv
        refine ⟨hv.1, ?_⟩
        have : (2 : Int) ^ (8 * k) ≤ 2 ^ 24 := by
          have := Nat.pow_le_pow_right (n := 2) (by decide) (show 8 * k ≤ 24 by omega)
          exact_mod_cast this
        have h24 : (2 : Int) ^ 24 = 16777216 := by decide
        omega
      have hs : valB (t.data.toList.take (k + 1)) = valB (t.data.toList.take k) * 256 + t[k].toNat := by
        rw [List.take_succ_eq_append_getElem (by simpa using hlt), valB_snoc]; rfl
      have hb := t[k].toNat_lt
      have HS := Lib.hid hs
      clear hs hl
      obtain ⟨v0, v1⟩ := hv
      go_wp2
      refine ⟨⟨k + 1, by omega, by go_num, ?_⟩, ?_⟩
      · rw [HS.out]
      · simp [intOf]; omega
    · obtain rfl : k = t.size := by omega
      go_wp2
      go_ret
      exact ⟨by rw [List.take_of_length_le (by simp), valB_eq]; rfl, rfl⟩

theorem refMinus_any (n : Int) (w : World) (h0 : 0 ≤ n) (h1 : n < 4294967296) :
    Calls Try.prog 36 #[.int .i64 n] w fun e w' => e = .returned (.int .i64 (minI n)) ∧ w = w' := by
  by_cases h : 2147483647 < n
  · have e : minI n = n - 4294967296 := by simp [minI, h]
    rw [e]; clear e
    go_enter Try.func36, Try.ntmps36
    go_wp2
    go_ret
    exact ⟨rfl, rfl⟩
  · have e : minI n = n := by simp [minI, h]
    rw [e]; clear e
    go_enter Try.func36, Try.ntmps36
    go_wp2
    go_ret
    exact ⟨rfl, rfl⟩

theorem refEnd_any (b : Nat) (t : ByteArray) (i e : Int) (w : World) (h : CurAt 34 w b t i e) (h0 : 0 ≤ i) (h1 : i ≤ t.size) (ht : t.size ≤ 1000000) :
    Calls Try.prog 28 #[.pointer (some ⟨b, 0, none⟩)] w fun r w' => r = .returned (.int .i64 (endE t i e)) ∧ ∃ n, w' = w.drewN n := by
  obtain ⟨c0, c1, c2, f1, f2⟩ := h.cells
  clear h
  by_cases he : e = 0
  · subst he
    by_cases hi : i < t.size
    · have hk : endE t i 0 = 3 := by simp [endE, hi]
      rw [hk]; clear hk
      go_enter Try.func28, Try.ntmps28
      go_wp2
      go_quiet (fail)
      go_wp2
      go_ret
      exact ⟨rfl, _, rfl⟩
    · have hk : endE t i 0 = 0 := by simp [endE, hi]
      rw [hk]; clear hk
      have hd : decide (i < t.size) = false := by simp; omega
      go_enter Try.func28, Try.ntmps28
      go_wp2
      go_quiet (fail)
      go_wp2
      go_ret
      exact ⟨rfl, _, rfl⟩
  · have he' : (e == 0) = false := by simp [he]
    have hk : endE t i e = e := by simp [endE, he]
    rw [hk]; clear hk he
    go_enter Try.func28, Try.ntmps28
    go_wp2
    go_quiet (fail)
    go_wp2
    go_ret
    exact ⟨rfl, _, rfl⟩

theorem byE_keep (t : ByteArray) (i e n : Int) : byE t i (keepE e 1) n = keepE e 1 ∧ ¬ keepE e 1 = 0 := by
  have h : ¬ keepE e 1 = 0 := by unfold keepE; split <;> omega
  exact ⟨byE_err h, h⟩

theorem revS_data (t : ByteArray) : (revS t).data.toList = t.data.toList.reverse := by simp [revS]
theorem revS_size (t : ByteArray) : (revS t).size = t.size := by show (t.data.toList.reverse.toArray).size = _; simp

theorem refCInt_any (b : Nat) (t : ByteArray) (i e n : Int) (w : World) (h : CurAt 34 w b t i e) (h0 : 0 ≤ i) (h1 : i ≤ t.size) (ht : t.size ≤ 1000000) :
    Calls Try.prog 17 #[.pointer (some ⟨b, 0, none⟩), .int .i64 n] w fun r w' => r = .returned (.int .i64 (intV t i e n)) ∧ CurAt 34 w' b t (numI t i e n) (numE t i e n) ∧ w.grownBy w' (some b) := by
  by_cases hs : sizeB n = true
  · have hz := byS_size4 (e := e) hs h0 h1
    have e1 : intV t i e n = valL (byS t i e n).data.toList.reverse := by simp [intV, hs]
    have e2 : numI t i e n = byI t i e n := by simp [numI, hs]
    have e3 : numE t i e n = byE t i e n := by simp [numE, hs]
    rw [e1, e2, e3]; clear e1 e2 e3
    obtain ⟨c0, c1, c2, f1, f2⟩ := h.cells
    by_cases he : (e == 0) = true
    all_goals
      first | replace he : (e == 0) = false := by simpa using he
            | skip
      go_enter Try.func17, Try.ntmps17
      go_wp2_with (go_at_call 31; refine (refSize_any _ _).mono ?_; rintro r w' ⟨rfl, rfl⟩)
      refine (refBytes_any _ _ _ _ _ _ h h0 h1 ht).mono ?_
      rintro r w' ⟨rfl, hc', hg⟩
      have HC := Lib.hid hc'
      have HG := Lib.hid hg
      clear hc' hg
      go_wp2_with fail
      refine (refInt_any _ _ hz.1).mono ?_
      rintro r w'' ⟨rfl, rfl⟩
      go_wp2_with fail
      go_ret
      exact ⟨rfl, HC.out, HG.out⟩
  · have e1 : intV t i e n = 0 := by simp [intV, hs]
    have e2 : numI t i e n = i := by simp [numI, hs]
    have e3 : numE t i e n = keepE e 1 := by simp [numE, hs]
    rw [e1, e2, e3]; clear e1 e2 e3
    have hs' : sizeB n = false := by simpa using hs
    clear hs
    obtain ⟨c0, c1, c2, f1, f2⟩ := h.cells
    have hb := byE_keep t i e n
    have hS : byS t i (keepE e 1) n = ⟨#[]⟩ := byS_err (by rw [hb.1]; exact hb.2)
    have hI : byI t i (keepE e 1) n = i := byI_err (by rw [hb.1]; exact hb.2)
    have hE := hb.1
    have H := Lib.hid h
    by_cases he : e = 0
    · subst he
      have hk : keepE 0 1 = 1 := rfl
      rw [hk] at hS hI hE ⊢
      have HS := Lib.hid (And.intro hS (And.intro hI hE))
      clear hS hI hE hb h hk
      go_enter Try.func17, Try.ntmps17
      go_wp2_with (go_at_call 31; refine (refSize_any _ _).mono ?_; rintro r w' ⟨rfl, rfl⟩)
      refine (refBytes_any _ _ _ _ _ _ (H.out.set2 1) h0 h1 ht).mono ?_
      rintro r w' ⟨rfl, hc', hg⟩
      rw [HS.out.1]
      rw [HS.out.2.1, HS.out.2.2] at hc'
      have HC := Lib.hid hc'
      have HG := Lib.hid hg
      clear hc' hg
      go_wp2_with fail
      refine (refInt_any _ _ (by decide)).mono ?_
      rintro r w'' ⟨rfl, rfl⟩
      go_wp2_with fail
      go_ret
      exact ⟨rfl, HC.out, grown_trans (grown_set _ _ _ _) HG.out⟩
    · have hk : keepE e 1 = e := by simp [keepE, he]
      rw [hk] at hS hI hE ⊢
      have he' : (e == 0) = false := by simpa using he
      have HS := Lib.hid (And.intro hS (And.intro hI hE))
      clear hS hI hE hb hk he h
      go_enter Try.func17, Try.ntmps17
      go_wp2_with (go_at_call 31; refine (refSize_any _ _).mono ?_; rintro r w' ⟨rfl, rfl⟩)
      refine (refBytes_any _ _ _ _ _ _ H.out h0 h1 ht).mono ?_
      rintro r w' ⟨rfl, hc', hg⟩
      rw [HS.out.1]
      rw [HS.out.2.1, HS.out.2.2] at hc'
      have HC := Lib.hid hc'
      have HG := Lib.hid hg
      clear hc' hg
      go_wp2_with fail
      refine (refInt_any _ _ (by decide)).mono ?_
      rintro r w'' ⟨rfl, rfl⟩
      go_wp2_with fail
      go_ret
      exact ⟨rfl, HC.out, HG.out⟩

theorem refCLittle_any (b : Nat) (t : ByteArray) (i e n : Int) (w : World) (h : CurAt 34 w b t i e) (h0 : 0 ≤ i) (h1 : i ≤ t.size) (ht : t.size ≤ 1000000) :
    Calls Try.prog 19 #[.pointer (some ⟨b, 0, none⟩), .int .i64 n] w fun r w' => r = .returned (.int .i64 (litV t i e n)) ∧ CurAt 34 w' b t (numI t i e n) (numE t i e n) ∧ w.grownBy w' (some b) := by
  by_cases hs : sizeB n = true
  · have hz := byS_size4 (e := e) hs h0 h1
    have e1 : litV t i e n = valL (byS t i e n).data.toList := by simp [litV, hs]
    have e2 : numI t i e n = byI t i e n := by simp [numI, hs]
    have e3 : numE t i e n = byE t i e n := by simp [numE, hs]
    rw [e1, e2, e3]; clear e1 e2 e3
    obtain ⟨c0, c1, c2, f1, f2⟩ := h.cells
    by_cases he : (e == 0) = true
    all_goals
      first | replace he : (e == 0) = false := by simpa using he
            | skip
      go_enter Try.func19, Try.ntmps19
      go_wp2_with (go_at_call 31; refine (refSize_any _ _).mono ?_; rintro r w' ⟨rfl, rfl⟩)
      refine (refBytes_any _ _ _ _ _ _ h h0 h1 ht).mono ?_
      rintro r w' ⟨rfl, hc', hg⟩
      have HC := Lib.hid hc'
      have HG := Lib.hid hg
      clear hc' hg
      go_wp2_with fail
      refine (refTurned_any _ _ (by omega)).mono ?_
      rintro r w'' ⟨rfl, rfl⟩
      go_wp2_with fail
      refine (refInt_any _ _ (by rw [revS_size]; exact hz.1)).mono ?_
      rintro r w'' ⟨rfl, rfl⟩
      go_wp2_with fail
      go_ret
      exact ⟨by rw [revS_data, List.reverse_reverse]; rfl, HC.out, HG.out⟩
  · have e1 : litV t i e n = 0 := by simp [litV, hs]
    have e2 : numI t i e n = i := by simp [numI, hs]
    have e3 : numE t i e n = keepE e 1 := by simp [numE, hs]
    rw [e1, e2, e3]; clear e1 e2 e3
    have hs' : sizeB n = false := by simpa using hs
    clear hs
    obtain ⟨c0, c1, c2, f1, f2⟩ := h.cells
    have hb := byE_keep t i e n
    have hS : byS t i (keepE e 1) n = ⟨#[]⟩ := byS_err (by rw [hb.1]; exact hb.2)
    have hI : byI t i (keepE e 1) n = i := byI_err (by rw [hb.1]; exact hb.2)
    have hE := hb.1
    have H := Lib.hid h
    by_cases he : e = 0
    · subst he
      have hk : keepE 0 1 = 1 := rfl
      rw [hk] at hS hI hE ⊢
      have HS := Lib.hid (And.intro hS (And.intro hI hE))
      clear hS hI hE hb h hk
      go_enter Try.func19, Try.ntmps19
      go_wp2_with (go_at_call 31; refine (refSize_any _ _).mono ?_; rintro r w' ⟨rfl, rfl⟩)
      refine (refBytes_any _ _ _ _ _ _ (H.out.set2 1) h0 h1 ht).mono ?_
      rintro r w' ⟨rfl, hc', hg⟩
      rw [HS.out.1]
      rw [HS.out.2.1, HS.out.2.2] at hc'
      have HC := Lib.hid hc'
      have HG := Lib.hid hg
      clear hc' hg
      go_wp2_with fail
      refine (refTurned_any _ _ (by decide)).mono ?_
      rintro r w'' ⟨rfl, rfl⟩
      go_wp2_with fail
      refine (refInt_any _ _ (by decide)).mono ?_
      rintro r w'' ⟨rfl, rfl⟩
      go_wp2_with fail
      go_ret
      exact ⟨rfl, HC.out, grown_trans (grown_set _ _ _ _) HG.out⟩
    · have hk : keepE e 1 = e := by simp [keepE, he]
      rw [hk] at hS hI hE ⊢
      have he' : (e == 0) = false := by simpa using he
      have HS := Lib.hid (And.intro hS (And.intro hI hE))
      clear hS hI hE hb hk he h
      go_enter Try.func19, Try.ntmps19
      go_wp2_with (go_at_call 31; refine (refSize_any _ _).mono ?_; rintro r w' ⟨rfl, rfl⟩)
      refine (refBytes_any _ _ _ _ _ _ H.out h0 h1 ht).mono ?_
      rintro r w' ⟨rfl, hc', hg⟩
      rw [HS.out.1]
      rw [HS.out.2.1, HS.out.2.2] at hc'
      have HC := Lib.hid hc'
      have HG := Lib.hid hg
      clear hc' hg
      go_wp2_with fail
      refine (refTurned_any _ _ (by decide)).mono ?_
      rintro r w'' ⟨rfl, rfl⟩
      go_wp2_with fail
      refine (refInt_any _ _ (by decide)).mono ?_
      rintro r w'' ⟨rfl, rfl⟩
      go_wp2_with fail
      go_ret
      exact ⟨rfl, HC.out, HG.out⟩


theorem refCSigned_any (b : Nat) (t : ByteArray) (i e : Int) (w : World) (h : CurAt 34 w b t i e) (h0 : 0 ≤ i) (h1 : i ≤ t.size) (ht : t.size ≤ 1000000) :
    Calls Try.prog 21 #[.pointer (some ⟨b, 0, none⟩)] w fun r w' => r = .returned (.int .i64 (minI (intV t i e 4))) ∧ CurAt 34 w' b t (numI t i e 4) (numE t i e 4) ∧ w.grownBy w' (some b) := by
  have hv := intV_bd (e := e) (n := 4) h0 h1
  go_enter Try.func21, Try.ntmps21
  go_wp2_with fail
  refine (refCInt_any _ _ _ _ _ _ h h0 h1 ht).mono ?_
  rintro r w' ⟨rfl, hc', hg⟩
  have HC := Lib.hid hc'
  have HG := Lib.hid hg
  clear hc' hg
  go_wp2_with fail
  refine (refMinus_any _ _ hv.1 hv.2).mono ?_
  rintro r w'' ⟨rfl, rfl⟩
  go_wp2_with fail
  go_ret
  exact ⟨rfl, HC.out, HG.out⟩

end Go.Proofs.Ytfelecomjllphaa.Oct
