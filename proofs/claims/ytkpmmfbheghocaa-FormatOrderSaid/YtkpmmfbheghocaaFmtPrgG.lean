/-
  Contracts of the program's layer 13 (format): values in as few bytes as they need.
-/
import Derived.Test.YtkpmmfbheghocaaFmtPrgF
namespace Go.Proofs.Ytkpmmfbheghocaa.Fmt
open Go.ChangeShapes Go.WideShapes Go.ChangeAt Go.RowKit RegVal Oct
set_option linter.unusedVariables false
set_option maxRecDepth 100000

theorem or_mask (f : Fm) : f.orN 3 = f.mask := by
  show 0 ||| f.mk1 0 ||| f.mk1 1 ||| f.mk1 2 = _
  rw [Nat.zero_or]
  rfl
theorem size4 (f : Fm) : f.size = 4 ↔ f.ok = true ∧ f.B = 32 := by
  unfold Fm.size
  cases hok : f.ok with
  | false => simp
  | true =>
    obtain ⟨k, j, l, s, t, u, n, H⟩ := f.is hok
    have := H.B
    have := H.hn
    simp
    omega
theorem few_eq (f : Fm) : f.few = if f.size = 4 ∧ f.D ≤ 24 then if f.mask < 16777216 then (3, 0) else if f.mask % 256 = 0 then (3, 8) else (f.size, 0) else (f.size, 0) := by
  have h4 := size4 f
  obtain ⟨_, h1, h2⟩ := size_le4 f
  unfold Fm.few
  by_cases hok : f.ok = true
  · rw [if_pos hok]
    by_cases hD : f.D ≤ 24
    · by_cases hB : f.B = 32
      · rw [if_pos (show f.B = 32 ∧ f.D ≤ 24 from ⟨hB, hD⟩), if_pos (show f.size = 4 ∧ f.D ≤ 24 from ⟨h4.2 ⟨hok, hB⟩, hD⟩)]
      · rw [if_neg (show ¬ (f.B = 32 ∧ f.D ≤ 24) from fun h => hB h.1), if_neg (show ¬ (f.size = 4 ∧ f.D ≤ 24) from fun h => hB (h4.1 h.1).2)]
    · rw [if_neg (show ¬ (f.B = 32 ∧ f.D ≤ 24) from fun h => hD h.2), if_neg (show ¬ (f.size = 4 ∧ f.D ≤ 24) from fun h => hD h.2)]
  · rw [if_neg hok, if_neg (show ¬ (f.size = 4 ∧ f.D ≤ 24) from fun h => hok (h4.1 h.1).1), h2 (by simpa using hok)]
theorem okTo_part {f : Fm} (h : f.ok = true) {j : Nat} (hj : j < 3) : partB f.B (f.pm j) (f.ps j) = true := by
  rw [ok_to, Bool.and_eq_true] at h
  have h2 := okTo_less h.2 (show j + 1 ≤ 3 by omega)
  unfold Fm.okTo at h2
  simp only [Bool.and_eq_true] at h2
  exact h2.2.1
theorem okTo_all {f : Fm} (h : f.ok = true) {j : Nat} (hj : j ≤ 3) : f.okTo j = true := by
  rw [ok_to, Bool.and_eq_true] at h
  exact okTo_less h.2 hj
theorem mk1_ok {f : Fm} (h : f.ok = true) {j : Nat} (hj : j < 3) : ∃ a s : Nat, f.pm j = a ∧ f.ps j = s ∧ a ≤ 65535 ∧ s ≤ 32 ∧ f.mk1 j = a * 2 ^ s ∧ f.orN (j + 1) < 4294967296 := by
  have hb : f.B ≤ 32 := by
    obtain ⟨k, j, l, s, t, u, n, H⟩ := f.is h
    have := H.B
    have := H.hn
    omega
  obtain ⟨k, s, hk, rm, rs, wk, s1, ks⟩ := part_spec (okTo_part h hj)
  refine ⟨top k, s, rm, rs, top_small hk.2, s1, by unfold Fm.mk1; rw [wk, rs]; rfl, ?_⟩
  have : ∀ i, i ≤ 3 → f.orN i < 2 ^ 32 := by
    intro i
    induction i with
    | zero => intro _; exact Nat.two_pow_pos _
    | succ i ih =>
      intro hi
      refine Nat.or_lt_two_pow (ih (by omega)) ?_
      obtain ⟨k, s, hk, rm, rs, wk, s1, ks⟩ := part_spec (okTo_part h (show i < 3 by omega))
      unfold Fm.mk1
      rw [wk, rs]
      exact part_lt (k := k) (Nat.le_refl _) (by omega)
  have h2 := this (j + 1) (by omega)
  have h3 : (2 : Nat) ^ 32 = 4294967296 := by decide
  omega

set_option maxHeartbeats 4000000 in
theorem compact_any (f : Fm) (hf : f.Wf) (w : World) :
    Calls Try.prog 28 #[f.v] w fun e w' => e = .returned (.tuple #[.int .i64 (f.few.1 : Nat), .int .i64 (f.few.2 : Nat)]) ∧ Below w.heap.size w w' := by
  have Z := Lib.hid (fun w => size_any f hf w)
  have PT := Lib.hid (fun w => parts_any f w)
  have HF1 := Lib.hid (few_eq f)
  have HIX := Lib.hid (fun j hj w => parts_ix f j hj w)
  have H4 := Lib.hid (size4 f)
  have HM := Lib.hid (fun (h : f.ok = true) j (hj : j < 3) => mk1_ok h hj)
  have HO : RowKit.Hid (∀ j, f.orN (j + 1) = f.orN j ||| f.mk1 j) := Lib.hid (fun _ => rfl)
  have HO0 : RowKit.Hid (f.orN 0 = 0) := Lib.hid rfl
  have HO3 := Lib.hid (or_mask f)
  have AT := FmAt.box f w 23
  have bel := (Below.refl w.heap.size w).alloc (Nat.le_refl _) (.cells #[.int .i64 f.B, .int .i64 f.D, .bool f.big, .bool f.tr, .int .i64 f.rm, .int .i64 f.gm, .int .i64 f.bm, .int .i64 f.rs, .int .i64 f.gs, .int .i64 f.bs] 23)
  have hsz : (w.alloc (.cells #[.int .i64 f.B, .int .i64 f.D, .bool f.big, .bool f.tr, .int .i64 f.rm, .int .i64 f.gm, .int .i64 f.bm, .int .i64 f.rs, .int .i64 f.gs, .int .i64 f.bs] 23)).heap.size = w.heap.size + 1 := alloc_size _ _
  obtain ⟨w1, hw1⟩ : ∃ w1, w.alloc (.cells #[.int .i64 f.B, .int .i64 f.D, .bool f.big, .bool f.tr, .int .i64 f.rm, .int .i64 f.gm, .int .i64 f.bm, .int .i64 f.rs, .int .i64 f.gs, .int .i64 f.bs] 23) = w1 := ⟨_, rfl⟩
  rw [hw1] at AT bel hsz
  have HA := Lib.hid (fun W (hW : Below w1.heap.size w1 W) => AT.below hW (by omega))
  have HV : f.v = .agg #[.int .i64 f.B, .int .i64 f.D, .bool f.big, .bool f.tr, .int .i64 f.rm, .int .i64 f.gm, .int .i64 f.bm, .int .i64 f.rs, .int .i64 f.gs, .int .i64 f.bs] := rfl
  rw [HV] at Z PT ⊢
  generalize f.few = FW at *
  generalize f.size = N at *
  generalize f.ok = OK at *
  generalize f.orN = orN at *
  generalize f.mk1 = mk1 at *
  generalize f.pm = pm at *
  generalize f.ps = ps at *
  generalize prtV f = PV at *
  generalize f.mask = MK at *
  have BEL := Lib.hid bel
  obtain ⟨c0, c1, c2, c3, c4, c5, c6, c7, c8, c9⟩ := AT
  obtain ⟨B, D, big, tr, rm, gm, bm, rs, gs, bs⟩ := f
  simp only at *
  clear hf HV hsz
  go_enter Try.func28, Try.ntmps28
  go_wp2_with fail
  refine (Z.out _).mono ?_
  rintro r w2 ⟨rfl, b2⟩
  have B2 := Lib.hid (BEL.out.trans (b2.mono BEL.out.size))
  obtain ⟨c0, c1, c2, c3, c4, c5, c6, c7, c8, c9⟩ := HA.out _ b2
  clear b2 Z HA
  by_cases hN : N = 4
  · subst hN
    obtain ⟨hok, hB⟩ := H4.out.1 rfl
    by_cases hD : D ≤ 24
    · have d1 : decide (24 < D) = false := decide_eq_false (by omega)
      have hfw := HF1.out
      rw [if_pos ⟨rfl, hD⟩] at hfw
      have HFW := Lib.hid hfw
      have HMK := Lib.hid (HM.out hok)
      clear hfw HF1 HM H4 hok hB hD
      go_wp2_with fail
      refine (PT.out _).mono ?_
      rintro r w3 ⟨rfl, b3⟩
      have B3 := Lib.hid (B2.out.trans (b3.mono B2.out.size))
      clear b3 PT c0 c1 c2 c3 c4 c5 c6 c7 c8 c9 hw1
      go_wp2_with fail
      go_loopw [4, 19] (fun u k wr => Below w3.heap.size w3 wr ∧ ∃ j : Nat, j ≤ 3 ∧ k = .int .i64 j ∧ u = .int .i64 (orN j : Nat)) (fun _ k _ => 3 - (intOf k).toNat)
      case atStart => exact ⟨Below.refl _ _, 0, by omega, rfl, by rw [HO0.out]; rfl⟩
      case round =>
        obtain ⟨hbr, j, hj, rfl, rfl⟩ := hrel
        by_cases h3 : j < 3
        · have d3 : decide (j < 3) = true := decide_eq_true h3
          have d3' : decide ((j : Int) < 3) = true := decide_eq_true (by omega)
          have HRB := Lib.hid hbr
          have IX := HIX.out j h3
          obtain ⟨a, s, ea, es, ha, hs, hmk, hor⟩ := HMK.out j h3
          have hle : orN j ≤ orN (j + 1) := by rw [HO.out]; exact Nat.left_le_or
          have hri : mk1 j ≤ orN (j + 1) := by rw [HO.out]; exact Nat.right_le_or
          have ho := i64_orN (orN j) (mk1 j) (by omega) (by omega)
          rw [← HO.out] at ho
          have M := Lib.hid (fun w => mask_any a s ha hs w)
          rw [← hmk] at M
          rw [ea, es] at IX
          have hz := hbr.size
          clear ea es hmk hor hle hri hbr HIX HO HMK
          go_wp2_with fail
          refine (M.out _).mono ?_
          rintro r w4 ⟨rfl, b4⟩
          have B4 := Lib.hid (((HRB.out.alloc hz _).trans (b4.mono (HRB.out.alloc hz _).size)))
          clear M b4
          go_wp2_with fail
          exact ⟨⟨B4.out, j + 1, by omega, by go_num, rfl⟩, by simp [intOf]; omega⟩
        · obtain rfl : j = 3 := by omega
          obtain ⟨_, _, _, _, _, _, _, hor⟩ := HMK.out 2 (by decide)
          have hor : orN 3 < 4294967296 := hor
          have h3m := HO3.out
          rw [h3m] at hor
          have HB := Lib.hid (B3.out.trans (hbr.mono B3.out.size))
          obtain ⟨q, hq⟩ : ∃ q, MK / 256 = q := ⟨_, rfl⟩
          have hqi : (MK : Int) / 256 = q := by omega
          have hq2 : (q : Int) ≤ 16777216 := by omega
          have h3v : orN 3 = MK := h3m
          rw [h3v]
          clear HO3 h3m HMK HIX HO HO0 hbr h3v
          by_cases g1 : MK < 16777216
          · have x1 : ((MK : Int) / 16777216 == 0) = true := by
              have : (MK : Int) / 16777216 = 0 := by omega
              rw [this]; rfl
            have hfw := HFW.out
            rw [if_pos g1] at hfw
            subst hfw
            clear HFW hq hqi g1 hor
            go_wp2_with fail
            go_ret2
            exact ⟨rfl, HB.out⟩
          · have x1 : ((MK : Int) / 16777216 == 0) = false := by
              have : ¬ (MK : Int) / 16777216 = 0 := by omega
              simpa using this
            by_cases g2 : MK % 256 = 0
            · have x2 : ((q : Int) * 256 == MK) = true := by
                have : (q : Int) * 256 = MK := by omega
                rw [this]; simp
              have hfw := HFW.out
              rw [if_neg g1, if_pos g2] at hfw
              subst hfw
              clear HFW hq g1 g2
              go_wp2_with fail
              go_ret2
              exact ⟨rfl, HB.out⟩
            · have x2 : ((q : Int) * 256 == MK) = false := by
                have : ¬ (q : Int) * 256 = MK := by omega
                simpa using this
              have hfw := HFW.out
              rw [if_neg g1, if_neg g2] at hfw
              subst hfw
              clear HFW hq g1 g2
              go_wp2_with fail
              go_ret2
              exact ⟨rfl, HB.out⟩
    · have d1 : decide (24 < D) = true := decide_eq_true (by omega)
      have hfw := HF1.out
      rw [if_neg (fun h => hD h.2)] at hfw
      subst hfw
      clear HF1 HM H4 hok hB hD PT HIX HO HO0 HO3
      go_wp2_with fail
      go_ret2
      exact ⟨rfl, B2.out⟩
  · have d1 : ((N : Int) != 4) = true := by
      have : ¬ (N : Int) = 4 := by omega
      simpa using this
    have hfw := HF1.out
    rw [if_neg (fun h => hN h.1)] at hfw
    subst hfw
    clear HF1 HM H4 PT HIX HO HO0 HO3 hN
    go_wp2_with fail
    go_ret2
    exact ⟨rfl, B2.out⟩
end Go.Proofs.Ytkpmmfbheghocaa.Fmt
