/-
  Contracts of the program's layer 13 (format): colours of values; what is left of a colour.
-/
import Derived.Test.YtbdlmcpdplmdnaaFmtPrgD
namespace Go.Proofs.Ytbdlmcpdplmdnaa.Fmt
open Go.ChangeShapes Go.WideShapes Go.ChangeAt Go.RowKit RegVal Oct
set_option linter.unusedVariables false
set_option maxRecDepth 100000

/-- What a round reads of a value v: a part, and what it computes of it. -/
theorem up_round {v : Int} {k s : Nat} (hk : 1 ≤ k ∧ k ≤ 16) (hs : s ≤ 32) :
    ∃ P h : Nat, (2 : Int) ^ s = P ∧ 1 ≤ P ∧ P ≤ 4294967296 ∧ bits .and .i64 (v / P) (top k : Nat) = (getZ v k s : Nat) ∧ ((top k : Nat) : Int) / 2 = h ∧ h ≤ 65535 ∧ ((getZ v k s : Int) * 255 + h) / (top k : Nat) = (upN (getZ v k s) (top k) : Nat) ∧ upN (getZ v k s) (top k) ≤ 255 ∧ getZ v k s ≤ 65535 ∧ 1 ≤ top k ∧ top k ≤ 65535 := by
  obtain ⟨P, hP, hP2, hP3, hP4⟩ := pow_int hs
  have hg := getZ_le v k s
  have ht := top_small hk.2
  have ht1 := top_pos hk.1
  refine ⟨P, top k / 2, hP, hP3, hP4, ?_, by simp, by omega, by unfold upN; simp, up_le hg ht1, by omega, ht1, ht⟩
  have h1 : ((top k : Nat) : Int) = 2 ^ k - 1 := by
    unfold top
    have := Nat.one_le_two_pow (n := k)
    have e : ((2 ^ k : Nat) : Int) = 2 ^ k := by simp
    omega
  rw [h1, Bit.i64_mask _ k (by omega)]
  unfold getZ
  rw [← hP]
  have : 0 ≤ v / 2 ^ s % 2 ^ k := Int.emod_nonneg _ (Int.ne_of_gt (Int.pow_pos (by decide)))
  omega
theorem or_low {x b : Nat} (hx : x ≤ 65535) (hb : b ≤ 255) : bits .or .i64 ((x : Int) * 256) (b : Int) = ((x * 256 + b : Nat) : Int) := by
  rw [bits_or_comm, show (x : Int) * 256 = ((x * 256 : Nat) : Int) by simp, Bit.i64_or b (x * 256) 8 (by omega) (by omega) (by omega) (by decide), Nat.add_comm]

set_option maxHeartbeats 4000000 in
theorem colour_any (f : Fm) (hf : f.Wf) (c : Int) (hc : (Lit.int .i64 c).wf = true) (w : World) :
    Calls Try.prog 27 #[f.v, .int .i64 c] w fun e w' => e = .returned (.int .i64 (f.colI c)) ∧ Below w.heap.size w w' := by
  have AT := FmAt.box f w 23
  have bel := (Below.refl w.heap.size w).alloc (Nat.le_refl _) (.cells #[.int .i64 f.B, .int .i64 f.D, .bool f.big, .bool f.tr, .int .i64 f.rm, .int .i64 f.gm, .int .i64 f.bm, .int .i64 f.rs, .int .i64 f.gs, .int .i64 f.bs] 23)
  have hsz : (w.alloc (.cells #[.int .i64 f.B, .int .i64 f.D, .bool f.big, .bool f.tr, .int .i64 f.rm, .int .i64 f.gm, .int .i64 f.bm, .int .i64 f.rs, .int .i64 f.gs, .int .i64 f.bs] 23)).heap.size = w.heap.size + 1 := alloc_size _ _
  obtain ⟨w1, hw1⟩ : ∃ w1, w.alloc (.cells #[.int .i64 f.B, .int .i64 f.D, .bool f.big, .bool f.tr, .int .i64 f.rm, .int .i64 f.gm, .int .i64 f.bm, .int .i64 f.rs, .int .i64 f.gs, .int .i64 f.bs] 23) = w1 := ⟨_, rfl⟩
  rw [hw1] at AT bel hsz
  have HA := Lib.hid (fun W (hW : Below w1.heap.size w1 W) => AT.below hW (by omega))
  have V := Lib.hid (fun w => valid_any f hf w)
  have PT := Lib.hid (fun w => parts_any f w)
  have HVI : RowKit.Hid (f.colI c = if f.ok then ((f.col c : Nat) : Int) else 0) := Lib.hid rfl
  have HV : f.v = .agg #[.int .i64 f.B, .int .i64 f.D, .bool f.big, .bool f.tr, .int .i64 f.rm, .int .i64 f.gm, .int .i64 f.bm, .int .i64 f.rs, .int .i64 f.gs, .int .i64 f.bs] := rfl
  have HIS := Lib.hid (fun (h : f.ok = true) => f.is h)
  have HVE : RowKit.Hid (∀ k j l s t u n : Nat, f.Is k j l s t u n → f.col c = colourZ k j l s t u c) := Lib.hid (fun k j l s t u n H => H.col_eq c)
  have HPV : prtV f = .agg #[.int .i64 f.rm, .int .i64 f.rs, .int .i64 f.gm, .int .i64 f.gs, .int .i64 f.bm, .int .i64 f.bs] := rfl
  rw [HV] at V PT ⊢
  rw [HPV] at PT
  have BEL := Lib.hid bel
  have AT' := AT
  obtain ⟨c0, c1, c2, c3, c4, c5, c6, c7, c8, c9⟩ := AT'
  clear hf HV AT HPV
  generalize f.col c = VC at *
  generalize f.colI c = VI at *
  cases hok : f.ok with
  | false =>
    have hs := HVI.out
    rw [hok] at hs V
    simp only [Bool.false_eq_true, if_false] at hs
    have HZ := Lib.hid hs
    clear hs HVI HIS HVE hok PT
    go_enter Try.func27, Try.ntmps27
    go_wp2_with fail
    refine (V.out _).mono ?_
    rintro r w2 ⟨rfl, b2⟩
    have B2 := Lib.hid (BEL.out.trans (b2.mono BEL.out.size))
    clear b2 c0 c1 c2 c3 c4 c5 c6 c7 c8 c9
    go_wp2_with fail
    go_ret
    exact ⟨retI (by rw [HZ.out]), B2.out⟩
  | true =>
  obtain ⟨k, j, l, s, t, u, n, H⟩ := HIS.out hok
  have hs := HVI.out
  rw [hok] at hs V
  simp only [if_true] at hs
  rw [HVE.out _ _ _ _ _ _ _ H] at hs
  have hN := H.three.hn
  have s1 : s ≤ 32 := by have := H.three.hs; omega
  have s2 : t ≤ 32 := by have := H.three.ht; omega
  have s3 : u ≤ 32 := by have := H.three.hu; omega
  obtain ⟨P0, h0, g0, a0, b0, n0, d0, i0, u0, v0, x0, y0, z0⟩ := up_round (v := c) H.hk s1
  obtain ⟨P1, h1, g1, a1, b1, n1, d1, i1, u1, v1, x1, y1, z1⟩ := up_round (v := c) H.hj s2
  obtain ⟨P2, h2, g2, a2, b2, n2, d2, i2, u2, v2, x2, y2, z2⟩ := up_round (v := c) H.hl s3
  have hval : VI = ((upN (getZ c k s) (top k) * 256 + upN (getZ c j t) (top j)) * 256 + upN (getZ c l u) (top l) : Nat) := by
    rw [hs]
    unfold colourZ colN
    omega
  have HVAL := Lib.hid hval
  have hf1 := H.rm
  have hf2 := H.gm
  have hf3 := H.bm
  have hf4 := H.rs
  have hf5 := H.gs
  have hf6 := H.bs
  clear hval hs HVI HIS HVE hok H hN
  obtain ⟨B, D, big, tr, rm, gm, bm, rs, gs, bs⟩ := f
  simp only at *
  subst hf1 hf2 hf3 hf4 hf5 hf6
  generalize upN (getZ c k s) (top k) = U0 at *
  generalize upN (getZ c j t) (top j) = U1 at *
  generalize upN (getZ c l u) (top l) = U2 at *
  generalize getZ c k s = p0 at *
  generalize getZ c j t = p1 at *
  generalize getZ c l u = p2 at *
  generalize top l = ml at *
  generalize top j = mj at *
  generalize top k = mk at *
  have O1 := or_low (x := U0) (b := U1) (by omega) v1
  obtain ⟨X, hX⟩ : ∃ X, U0 * 256 + U1 = X := ⟨_, rfl⟩
  have hXb : X ≤ 65535 := by omega
  have O2 := or_low (x := X) (b := U2) (by omega) v2
  rw [hX] at O1
  have hv := HVAL.out
  rw [hX] at hv
  have HVX := Lib.hid hv
  have O0 := i64_orN 0 U0 (by decide) (by omega)
  rw [Nat.zero_or] at O0
  clear hv HVAL hX
  have j0 := fun w => parts_ix0 mk s mj t ml u w
  have j1 := fun w => parts_ix1 mk s mj t ml u w
  have j2 := fun w => parts_ix2 mk s mj t ml u w
  go_enter Try.func27, Try.ntmps27
  go_wp2_with fail
  refine (V.out _).mono ?_
  rintro r w2 ⟨rfl, b2⟩
  have B2 := Lib.hid (BEL.out.trans (b2.mono BEL.out.size))
  obtain ⟨c0, c1, c2, c3, c4, c5, c6, c7, c8, c9⟩ := HA.out _ b2
  clear b2 HA
  go_wp2_with fail
  refine (PT.out _).mono ?_
  rintro r w3 ⟨rfl, b3⟩
  have B3 := Lib.hid (B2.out.trans (b3.mono B2.out.size))
  clear b3 V PT c0 c1 c2 c3 c4 c5 c6 c7 c8 c9
  go_wp2_with fail
  clear hw1 hsz
  go_loopw [5, 14] (fun v i wr => Below w3.heap.size w3 wr ∧ ((i = .int .i64 0 ∧ v = .int .i64 0) ∨ (i = .int .i64 1 ∧ v = .int .i64 U0) ∨ (i = .int .i64 2 ∧ v = .int .i64 X) ∨ (i = .int .i64 3 ∧ v = .int .i64 (X * 256 + U2 : Nat)))) (fun _ i _ => 3 - (intOf i).toNat)
  case atStart => exact ⟨Below.refl _ _, .inl ⟨rfl, rfl⟩⟩
  case round =>
    obtain ⟨hbr, hj⟩ := hrel
    have HR := Lib.hid hbr
    have z := hbr.size
    clear hbr
    rcases hj with ⟨rfl, rfl⟩ | ⟨rfl, rfl⟩ | ⟨rfl, rfl⟩ | ⟨rfl, rfl⟩
    · go_wp2_with fail
      go_quiet (fail)
      go_wp2_with fail
      exact ⟨⟨below_q (HR.out.alloc z _) _, .inr (.inl ⟨rfl, valN O0⟩)⟩, by simp [intOf]⟩
    · go_wp2_with fail
      go_quiet (fail)
      go_wp2_with fail
      exact ⟨⟨below_q (HR.out.alloc z _) _, .inr (.inr (.inl ⟨rfl, rfl⟩))⟩, by simp [intOf]⟩
    · go_wp2_with fail
      go_quiet (fail)
      go_wp2_with fail
      exact ⟨⟨below_q (HR.out.alloc z _) _, .inr (.inr (.inr ⟨rfl, rfl⟩))⟩, by simp [intOf]⟩
    · go_wp2_with fail
      go_ret
      exact ⟨retI HVX.out.symm, B3.out.trans (HR.out.mono B3.out.size)⟩

theorem valI_wf (f : Fm) (c : Int) : (Lit.int .i64 (f.valI c)).wf = true := by
  unfold Fm.valI
  cases hok : f.ok with
  | false => exact (by decide : (Lit.int .i64 0).wf = true)
  | true =>
    obtain ⟨k, j, l, s, t, u, n, H⟩ := f.is hok
    have h := (val_le H c).2.2
    have h32 : 2 ^ n ≤ 2 ^ 32 := Nat.pow_le_pow_right (by decide) H.three.hn
    have h33 : (2 : Nat) ^ 32 = 4294967296 := by decide
    simp only [if_true]
    generalize f.val c = x at *
    simp only [Lit.wf, IntKind.min, IntKind.max, IntKind.signed, IntKind.bits, Bool.and_eq_true, decide_eq_true_eq, if_true]
    omega
theorem colI_valI (f : Fm) (c : Int) : f.colI (f.valI c) = f.leftI c := by
  unfold Fm.colI Fm.valI Fm.leftI
  by_cases h : f.ok = true
  · rw [if_pos h, if_pos h, if_pos h]; rfl
  · rw [if_neg h, if_neg h]
theorem quant_any (f : Fm) (hf : f.Wf) (c : Int) (hc : (Lit.int .i64 c).wf = true) (w : World) :
    Calls Try.prog 23 #[f.v, .int .i64 c] w fun e w' => e = .returned (.int .i64 (f.leftI c)) ∧ Below w.heap.size w w' := by
  have V := Lib.hid (fun w => value_any f hf c hc w)
  have C : RowKit.Hid (∀ w, Calls Try.prog 27 #[f.v, .int .i64 (f.valI c)] w fun e w' => e = .returned (.int .i64 (f.leftI c)) ∧ Below w.heap.size w w') := Lib.hid (fun w => (colour_any f hf (f.valI c) (valI_wf f c) w).mono fun _ _ ⟨he, hb⟩ => ⟨he.trans (retI (colI_valI f c)), hb⟩)
  generalize f.leftI c = L at *
  generalize f.valI c = X at *
  have AT := FmAt.box f w 23
  have bel := (Below.refl w.heap.size w).alloc (Nat.le_refl _) (.cells #[.int .i64 f.B, .int .i64 f.D, .bool f.big, .bool f.tr, .int .i64 f.rm, .int .i64 f.gm, .int .i64 f.bm, .int .i64 f.rs, .int .i64 f.gs, .int .i64 f.bs] 23)
  have hsz : (w.alloc (.cells #[.int .i64 f.B, .int .i64 f.D, .bool f.big, .bool f.tr, .int .i64 f.rm, .int .i64 f.gm, .int .i64 f.bm, .int .i64 f.rs, .int .i64 f.gs, .int .i64 f.bs] 23)).heap.size = w.heap.size + 1 := alloc_size _ _
  obtain ⟨w1, hw1⟩ : ∃ w1, w.alloc (.cells #[.int .i64 f.B, .int .i64 f.D, .bool f.big, .bool f.tr, .int .i64 f.rm, .int .i64 f.gm, .int .i64 f.bm, .int .i64 f.rs, .int .i64 f.gs, .int .i64 f.bs] 23) = w1 := ⟨_, rfl⟩
  rw [hw1] at AT bel hsz
  have HA := Lib.hid (fun W (hW : Below w1.heap.size w1 W) => AT.below hW (by omega))
  have HF : f.v = .agg #[.int .i64 f.B, .int .i64 f.D, .bool f.big, .bool f.tr, .int .i64 f.rm, .int .i64 f.gm, .int .i64 f.bm, .int .i64 f.rs, .int .i64 f.gs, .int .i64 f.bs] := rfl
  rw [HF] at V C ⊢
  clear AT HF hsz hf hc
  obtain ⟨B, D, big, tr, rm, gm, bm, rs, gs, bs⟩ := f
  simp only at *
  go_enter Try.func23, Try.ntmps23
  go_wp2_with fail
  refine region_all (by kernel_rfl) (quV (.agg #[.int .i64 B, .int .i64 D, .bool big, .bool tr, .int .i64 rm, .int .i64 gm, .int .i64 bm, .int .i64 rs, .int .i64 gs, .int .i64 bs]) (.int .i64 X) (.int .i64 L) c) (fun W => Below w1.heap.size w1 W) [1, 2] [none, none, none, none, some 5, some 0, some 1, some 2, some 3, some 4] (by kernel_rfl) (by kernel_rfl) (by rfl) (by kernel_rfl) (by kernel_rfl) (by kernel_rfl) ((Below.refl _ _).drew) ⟨?_, ?_, ?_, ?_, ?_, ?_, trivial⟩ ?_
  case refine_7 =>
    intro W hS
    simp only [zipF, quV]
    go_wp2_with fail
    go_ret
    exact ⟨rfl, bel.trans (hS.mono bel.size)⟩
  all_goals
    intro ℓ act W hl hS hw hr hd
    obtain ⟨d0, d1, d2, d3, d4, d5, d6, d7, d8, d9⟩ := HA.out W hS
    dsimp only at d0 d1 d2 d3 d4 d5 d6 d7 d8 d9
    clear hw
    simp [readFacts, depFacts, dstOf, Region.binds, quV] at hr hd
    refine ⟨by first | exact wanted_none (by rfl) | exact wanted_guard (by rfl) (by rfl) (by assumption), fun K hK => ?_⟩
    go_simp
    first
      | exact hK _ hS
      | (refine (V.out _).mono ?_
         rintro r w' ⟨rfl, b⟩
         exact hK _ (hS.trans (b.mono hS.size)))
      | (refine (C.out _).mono ?_
         rintro r w' ⟨rfl, b⟩
         exact hK _ (hS.trans (b.mono hS.size)))
end Go.Proofs.Ytbdlmcpdplmdnaa.Fmt
