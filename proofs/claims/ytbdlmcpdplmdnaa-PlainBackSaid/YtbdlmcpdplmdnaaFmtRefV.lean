/-
  Contracts of the reference of layer 13 (format): which formats may be.
-/
import Derived.Test.YtbdlmcpdplmdnaaFmtRef
import Derived.Deep.DeepCutAuto
namespace Go.Proofs.Ytbdlmcpdplmdnaa.Fmt
open Go.ChangeShapes Go.WideShapes Go.ChangeAt Go.RowKit
set_option linter.unusedVariables false
set_option maxRecDepth 100000

theorem i64_and (a b : Nat) (ha : a < 2 ^ 62) (hb : b < 2 ^ 62) : bits .and .i64 (a : Int) (b : Int) = ((a &&& b : Nat) : Int) := by
  show IntKind.i64.wrap ((BitVec.ofInt 64 (a : Int) &&& BitVec.ofInt 64 (b : Int)).toNat : Int) = _
  rw [BitVec.toNat_and, ofInt_u64 _ (by omega), ofInt_u64 _ (by omega)]
  have : a &&& b ≤ a := Nat.and_le_left
  exact IntWalk.i64_in _ (by omega)
theorem top_small {k : Nat} (hk : k ≤ 16) : top k ≤ 65535 := by
  have : ∀ k, k < 17 → top k ≤ 65535 := by decide
  exact this k (by omega)
theorem shl_small {k s : Nat} (hk : k ≤ 16) (hs : s ≤ 32) : top k * 2 ^ s < 2 ^ 62 := by
  have h1 := top_small hk
  have h2 : 2 ^ s ≤ 2 ^ 32 := Nat.pow_le_pow_right (by decide) hs
  have := Nat.mul_le_mul h1 h2
  omega

set_option maxHeartbeats 2000000 in
theorem refValid_any (f : Fm) (hf : f.Wf) (w : World) :
    Calls Try.prog 31 #[f.v] w fun e w' => e = .returned (.bool f.ok) ∧ Below w.heap.size w w' := by
  obtain ⟨B, D, big, tr, rm, gm, bm, rs, gs, bs⟩ := f
  obtain ⟨wB, wD, wrm, wgm, wbm, wrs, wgs, wbs⟩ := hf
  simp only at wB wD wrm wgm wbm wrs wgs wbs
  have P1 := Lib.hid (fun w => refPart_any B rm rs wB wrm wrs w)
  have P2 := Lib.hid (fun w => refPart_any B gm gs wB wgm wgs w)
  have P3 := Lib.hid (fun w => refPart_any B bm bs wB wbm wbs w)
  obtain ⟨hd, hhd⟩ : ∃ hd, (Fm.mk B D big tr rm gm bm rs gs bs).head = hd := ⟨_, rfl⟩
  have HH := Lib.hid hhd
  have HK : RowKit.Hid ((Fm.mk B D big tr rm gm bm rs gs bs).ok = (hd && (partB B rm rs && partB B gm gs && partB B bm bs) && (Fm.mk B D big tr rm gm bm rs gs bs).side)) := Lib.hid (by unfold Fm.ok; rw [hhd])
  generalize (Fm.mk B D big tr rm gm bm rs gs bs).ok = OK at *
  unfold Fm.v
  obtain ⟨w1, hw1⟩ : ∃ w1, w.alloc (.cells #[.int .i64 B, .int .i64 D, .bool big, .bool tr, .int .i64 rm, .int .i64 gm, .int .i64 bm, .int .i64 rs, .int .i64 gs, .int .i64 bs] 23) = w1 := ⟨_, rfl⟩
  obtain ⟨bel, kx⟩ := box1 w #[.int .i64 B, .int .i64 D, .bool big, .bool tr, .int .i64 rm, .int .i64 gm, .int .i64 bm, .int .i64 rs, .int .i64 gs, .int .i64 bs] 23
  rw [hw1] at bel kx
  have c0 := kx 0 _ rfl
  have c1 := kx 1 _ rfl
  have c3 := kx 3 _ rfl
  have c4 := kx 4 _ rfl
  have c5 := kx 5 _ rfl
  have c6 := kx 6 _ rfl
  have c7 := kx 7 _ rfl
  have c8 := kx 8 _ rfl
  have c9 := kx 9 _ rfl
  clear kx hhd wB wD wrm wgm wbm wrs wgs wbs
  go_enter Try.func31, Try.ntmps31
  go_upto_region 1 with fail
  go_cut [35] (fun o wx => w1 = wx ∧ o = .bool (!hd))
  case first =>
    clear HK P1 P2 P3
    have val : ∀ b : Bool, ((B = 8 ∨ B = 16 ∨ B = 32) ∧ 1 ≤ D ∧ D ≤ B ∧ tr = true ↔ b = true) → hd = b := fun b h => by
      rw [← HH.out]
      unfold Fm.head
      simp only
      rw [Bool.eq_iff_iff, decide_eq_true_eq]
      exact h
    have VAL := Lib.hid val
    clear val HH
    by_cases h : (B = 8 ∨ B = 16 ∨ B = 32)
    · have hb : (B != 8 && B != 16 && B != 32) = false := by
        rcases h with rfl | rfl | rfl <;> rfl
      by_cases h1 : 1 ≤ D
      · have d1 : decide (D < 1) = false := decide_eq_false (by omega)
        by_cases h2 : D ≤ B
        · have d2 : decide (B < D) = false := decide_eq_false (by omega)
          cases tr with
          | true =>
            have VV := VAL.out true (by simp [h, h1, h2])
            subst VV
            clear VAL
            rcases h with rfl | rfl | rfl
            all_goals
              go_wp2_with fail
              go_meet
              exact ⟨rfl, rfl⟩
          | false =>
            have VV := VAL.out false (by simp)
            subst VV
            clear VAL
            rcases h with rfl | rfl | rfl
            all_goals
              go_wp2_with fail
              go_meet
              exact ⟨rfl, rfl⟩
        · have d2 : decide (B < D) = true := decide_eq_true (by omega)
          have VV := VAL.out false (by simp [h2])
          subst VV
          clear VAL
          rcases h with rfl | rfl | rfl
          all_goals
            go_wp2_with fail
            go_meet
            exact ⟨rfl, rfl⟩
      · have d1 : decide (D < 1) = true := decide_eq_true (by omega)
        have VV := VAL.out false (by simp [h1])
        subst VV
        clear VAL
        rcases h with rfl | rfl | rfl
        all_goals
          go_wp2_with fail
          go_meet
          exact ⟨rfl, rfl⟩
    · have VV := VAL.out false (by simp [h])
      subst VV
      have b1 : (B == 8) = false := by simpa using fun e => h (.inl e)
      have b2 : (B == 16) = false := by simpa using fun e => h (.inr (.inl e))
      have b3 : (B == 32) = false := by simpa using fun e => h (.inr (.inr e))
      have b4 : (B != 8) = true := by simpa using fun e => h (.inl e)
      have b5 : (B != 16) = true := by simpa using fun e => h (.inr (.inl e))
      have b6 : (B != 32) = true := by simpa using fun e => h (.inr (.inr e))
      clear VAL h
      go_wp2_with fail
      go_meet
      exact ⟨rfl, rfl⟩
  case rest =>
  obtain ⟨rfl, rfl⟩ := hcut
  cases hd with
  | false =>
    clear P1 P2 P3 HH
    go_wp2_with fail
    go_ret
    exact ⟨retB (HK.out.trans (by simp)).symm, bel⟩
  | true =>
  have HS : RowKit.Hid (partB B rm rs = true → partB B gm gs = true → partB B bm bs = true → ∃ k j l s t u : Nat, (1 ≤ k ∧ k ≤ 16) ∧ (1 ≤ j ∧ j ≤ 16) ∧ (1 ≤ l ∧ l ≤ 16) ∧ s ≤ 32 ∧ t ≤ 32 ∧ u ≤ 32 ∧ rm = (top k : Nat) ∧ gm = (top j : Nat) ∧ bm = (top l : Nat) ∧ rs = (s : Nat) ∧ gs = (t : Nat) ∧ bs = (u : Nat) ∧
      (Fm.mk B D big tr rm gm bm rs gs bs).side = decide (apart s k t j ∧ apart s k u l ∧ apart t j u l)) := Lib.hid (by
    intro h1 h2 h3
    obtain ⟨k, s, hk, rm', rs', wk, s1, ks⟩ := part_spec h1
    obtain ⟨j, t, hj, gm', gs', wj, s2, jt⟩ := part_spec h2
    obtain ⟨l, u, hl, bm', bs', wl, s3, lu⟩ := part_spec h3
    refine ⟨k, j, l, s, t, u, hk, hj, hl, s1, s2, s3, rm', gm', bm', rs', gs', bs', ?_⟩
    unfold Fm.side
    simp only
    rw [wk, wj, wl, rs', gs', bs']
    rfl)
  clear HH
  generalize partB B rm rs = p1 at *
  generalize partB B gm gs = p2 at *
  generalize partB B bm bs = p3 at *
  go_wp2_with fail
  refine (P1.out _).mono ?_
  rintro r w' ⟨rfl, rfl⟩
  clear P1
  cases p1 with
  | false =>
    go_wp2_with fail
    go_ret
    exact ⟨retB (HK.out.trans (by simp)).symm, bel⟩
  | true =>
  go_wp2_with fail
  refine (P2.out _).mono ?_
  rintro r w' ⟨rfl, rfl⟩
  clear P2
  cases p2 with
  | false =>
    go_wp2_with fail
    go_ret
    exact ⟨retB (HK.out.trans (by simp)).symm, bel⟩
  | true =>
  go_wp2_with fail
  refine (P3.out _).mono ?_
  rintro r w' ⟨rfl, rfl⟩
  clear P3
  cases p3 with
  | false =>
    go_wp2_with fail
    go_ret
    exact ⟨retB (HK.out.trans (by simp)).symm, bel⟩
  | true =>
  obtain ⟨k, j, l, s, t, u, hk, hj, hl, s1, s2, s3, rfl, rfl, rfl, rfl, rfl, rfl, hside⟩ := HS.out (by simp) (by simp) (by simp)
  have hOK := HK.out
  rw [hside] at hOK
  have M1 := Lib.hid (fun w => refMask_any (top k) s (top_small hk.2) s1 w)
  have M2 := Lib.hid (fun w => refMask_any (top j) t (top_small hj.2) s2 w)
  have M3 := Lib.hid (fun w => refMask_any (top l) u (top_small hl.2) s3 w)
  have q1 := i64_and _ _ (shl_small hk.2 s1) (shl_small hj.2 s2)
  have q2 := i64_and _ _ (shl_small hk.2 s1) (shl_small hl.2 s3)
  have q3 := i64_and _ _ (shl_small hj.2 s2) (shl_small hl.2 s3)
  have z1 := and_zero (s := s) (t := t) hk.1 hj.1
  have z2 := and_zero (s := s) (t := u) hk.1 hl.1
  have z3 := and_zero (s := t) (t := u) hj.1 hl.1
  have HO := Lib.hid (show OK = decide (top k * 2 ^ s &&& top j * 2 ^ t = 0 ∧ top k * 2 ^ s &&& top l * 2 ^ u = 0 ∧ top j * 2 ^ t &&& top l * 2 ^ u = 0) from hOK.trans (by
    show decide _ = decide _
    exact decide_eq_decide.2 (by rw [z1, z2, z3])))
  clear HS HK hside hOK z1 z2 z3 hk hj hl
  generalize top k * 2 ^ s = X at *
  generalize top j * 2 ^ t = Y at *
  generalize top l * 2 ^ u = Z at *
  generalize X &&& Y = A1 at *
  generalize X &&& Z = A2 at *
  generalize Y &&& Z = A3 at *
  go_wp2_with fail
  refine (M1.out _).mono ?_
  rintro r w' ⟨rfl, rfl⟩
  go_wp2_with fail
  refine (M2.out _).mono ?_
  rintro r w' ⟨rfl, rfl⟩
  go_wp2_with fail
  refine (M3.out _).mono ?_
  rintro r w' ⟨rfl, rfl⟩
  clear M1 M2 M3 s1 s2 s3 c0 c1 c3 c4 c5 c6 c7 c8 c9
  by_cases h1 : A1 = 0
  · subst h1
    by_cases h2 : A2 = 0
    · subst h2
      by_cases h3 : A3 = 0
      · subst h3
        go_wp2_with fail
        go_ret
        exact ⟨retB (HO.out.trans (by simp)).symm, bel⟩
      · have d3 : ((A3 : Int) == 0) = false := by simpa using h3
        go_wp2_with fail
        go_ret
        exact ⟨retB (HO.out.trans (by simp [h3])).symm, bel⟩
    · have d2 : ((A2 : Int) == 0) = false := by simpa using h2
      go_wp2_with fail
      go_ret
      exact ⟨retB (HO.out.trans (by simp [h2])).symm, bel⟩
  · have d1 : ((A1 : Int) == 0) = false := by simpa using h1
    go_wp2_with fail
    go_ret
    exact ⟨retB (HO.out.trans (by simp [h1])).symm, bel⟩
end Go.Proofs.Ytbdlmcpdplmdnaa.Fmt
