/-
  Contracts of the program's layer 13 (format): which formats may be; how many bytes a value has.
-/
import Derived.Test.YtbdlmcpdplmdnaaFmtPrgA
import Derived.Deep.DeepCutAuto
namespace Go.Proofs.Ytbdlmcpdplmdnaa.Fmt
open Go.ChangeShapes Go.WideShapes Go.ChangeAt Go.RowKit RegVal Oct
set_option linter.unusedVariables false
set_option maxRecDepth 100000

/-- The parts' numbers, one by one. -/
def Fm.pm (f : Fm) (j : Nat) : Int := [f.rm, f.gm, f.bm].getD j 0
def Fm.ps (f : Fm) (j : Nat) : Int := [f.rs, f.gs, f.bs].getD j 0
def Fm.mk1 (f : Fm) (j : Nat) : Nat := top (width (f.pm j)) * 2 ^ (f.ps j).toNat
def Fm.orN (f : Fm) : Nat → Nat
  | 0 => 0
  | j + 1 => f.orN j ||| f.mk1 j
def Fm.okTo (f : Fm) : Nat → Bool
  | 0 => true
  | j + 1 => f.okTo j && (partB f.B (f.pm j) (f.ps j) && decide (f.orN j &&& f.mk1 j = 0))
theorem or_zero {a b : Nat} : a ||| b = 0 ↔ a = 0 ∧ b = 0 := by
  constructor
  · intro h
    have h1 : a ≤ a ||| b := Nat.left_le_or
    have h2 : b ≤ a ||| b := Nat.right_le_or
    omega
  · rintro ⟨rfl, rfl⟩; rfl
theorem ok_to (f : Fm) : f.ok = (f.head && f.okTo 3) := by
  unfold Fm.ok
  cases f.head with
  | false => rfl
  | true =>
  show (true && (partB f.B f.rm f.rs && partB f.B f.gm f.gs && partB f.B f.bm f.bs) && f.side) = (true && (((true && (partB f.B f.rm f.rs && decide (0 &&& f.mk1 0 = 0))) && (partB f.B f.gm f.gs && decide ((0 ||| f.mk1 0) &&& f.mk1 1 = 0))) && (partB f.B f.bm f.bs && decide ((0 ||| f.mk1 0 ||| f.mk1 1) &&& f.mk1 2 = 0))))
  cases h1 : partB f.B f.rm f.rs with
  | false => rfl
  | true =>
  cases h2 : partB f.B f.gm f.gs with
  | false => simp
  | true =>
  cases h3 : partB f.B f.bm f.bs with
  | false => simp
  | true =>
  obtain ⟨k, s, hk, rm, rs, wk, _, _⟩ := part_spec h1
  obtain ⟨j, t, hj, gm, gs, wj, _, _⟩ := part_spec h2
  obtain ⟨l, u, hl, bm, bs, wl, _, _⟩ := part_spec h3
  have e0 : f.mk1 0 = top k * 2 ^ s := by show top (width f.rm) * 2 ^ f.rs.toNat = _; rw [wk, rs]; rfl
  have e1 : f.mk1 1 = top j * 2 ^ t := by show top (width f.gm) * 2 ^ f.gs.toNat = _; rw [wj, gs]; rfl
  have e2 : f.mk1 2 = top l * 2 ^ u := by show top (width f.bm) * 2 ^ f.bs.toNat = _; rw [wl, bs]; rfl
  have z1 := and_zero (s := s) (t := t) hk.1 hj.1
  have z2 := and_zero (s := s) (t := u) hk.1 hl.1
  have z3 := and_zero (s := t) (t := u) hj.1 hl.1
  unfold Fm.side
  rw [wk, wj, wl, rs, gs, bs, e0, e1, e2]
  simp only [Int.toNat_natCast, Nat.zero_or, Nat.zero_and, Nat.and_or_distrib_right, or_zero, z1, z2, z3]
  by_cases a1 : apart s k t j <;> by_cases a2 : apart s k u l <;> by_cases a3 : apart t j u l <;> simp [a1, a2, a3]
theorem okTo_less {f : Fm} {n m : Nat} (h : f.okTo m = true) (hn : n ≤ m) : f.okTo n = true := by
  induction m with
  | zero => have : n = 0 := by omega
            rw [this]; rfl
  | succ m ih =>
    unfold Fm.okTo at h
    rw [Bool.and_eq_true] at h
    rcases Nat.lt_or_ge n (m + 1) with h1 | h1
    · exact ih h.1 (by omega)
    · rw [show n = m + 1 by omega]
      unfold Fm.okTo
      rw [Bool.and_eq_true]
      exact h
theorem okTo_no {f : Fm} {j : Nat} (hj : j < 3) (h : f.okTo (j + 1) = false) : f.ok = false := by
  rw [ok_to]
  have : f.okTo 3 ≠ true := fun h3 => by
    rw [okTo_less h3 (show j + 1 ≤ 3 by omega)] at h
    cases h
  simp at this
  rw [this, Bool.and_false]
theorem orN_lt {f : Fm} {n : Nat} (h : f.okTo n = true) (hb : f.B ≤ 32) : f.orN n < 2 ^ 62 := by
  induction n with
  | zero => exact Nat.two_pow_pos _
  | succ n ih =>
    unfold Fm.okTo at h
    simp only [Bool.and_eq_true] at h
    refine Nat.or_lt_two_pow (ih h.1) ?_
    obtain ⟨k, s, hk, rm, rs, wk, _, ks⟩ := part_spec h.2.1
    unfold Fm.mk1
    rw [wk, rs]
    exact shl_small hk.2 (by omega)
theorem parts_wf {f : Fm} (hf : f.Wf) (j : Nat) : (Lit.int .i64 (f.pm j)).wf = true ∧ (Lit.int .i64 (f.ps j)).wf = true := by
  match j with
  | 0 => exact ⟨hf.rm, hf.rs⟩
  | 1 => exact ⟨hf.gm, hf.gs⟩
  | 2 => exact ⟨hf.bm, hf.bs⟩
  | n + 3 => exact ⟨(by decide : (Lit.int .i64 0).wf = true), (by decide : (Lit.int .i64 0).wf = true)⟩
theorem parts_ix0 (a b c d e g : Int) (w : World) : (Instr.index 53 (.agg #[.int .i64 a, .int .i64 b, .int .i64 c, .int .i64 d, .int .i64 e, .int .i64 g]) (.int .i64 0)).run Try.prog w = .ok (.agg #[.int .i64 a, .int .i64 b]) w := by kernel_rfl
theorem parts_ix1 (a b c d e g : Int) (w : World) : (Instr.index 53 (.agg #[.int .i64 a, .int .i64 b, .int .i64 c, .int .i64 d, .int .i64 e, .int .i64 g]) (.int .i64 1)).run Try.prog w = .ok (.agg #[.int .i64 c, .int .i64 d]) w := by kernel_rfl
theorem parts_ix2 (a b c d e g : Int) (w : World) : (Instr.index 53 (.agg #[.int .i64 a, .int .i64 b, .int .i64 c, .int .i64 d, .int .i64 e, .int .i64 g]) (.int .i64 2)).run Try.prog w = .ok (.agg #[.int .i64 e, .int .i64 g]) w := by kernel_rfl
theorem parts_ix (f : Fm) (j : Nat) (hj : j < 3) (w : World) : (Instr.index 53 (prtV f) (.int .i64 (j : Nat))).run Try.prog w = .ok (.agg #[.int .i64 (f.pm j), .int .i64 (f.ps j)]) w := by
  have h : j = 0 ∨ j = 1 ∨ j = 2 := by omega
  rcases h with rfl | rfl | rfl
  · exact parts_ix0 _ _ _ _ _ _ w
  · exact parts_ix1 _ _ _ _ _ _ w
  · exact parts_ix2 _ _ _ _ _ _ w
theorem i64_orN (a b : Nat) (ha : a < 2 ^ 62) (hb : b < 2 ^ 62) : bits .or .i64 (a : Int) (b : Int) = ((a ||| b : Nat) : Int) := by
  show IntKind.i64.wrap ((BitVec.ofInt 64 (a : Int) ||| BitVec.ofInt 64 (b : Int)).toNat : Int) = _
  rw [BitVec.toNat_or, ofInt_u64 _ (by omega), ofInt_u64 _ (by omega)]
  have : a ||| b < 2 ^ 62 := Nat.or_lt_two_pow ha hb
  exact IntWalk.i64_in _ (by omega)

set_option maxHeartbeats 4000000 in
theorem valid_any (f : Fm) (hf : f.Wf) (w : World) :
    Calls Try.prog 13 #[f.v] w fun e w' => e = .returned (.bool f.ok) ∧ Below w.heap.size w w' := by
  have AT := FmAt.box f w 23
  have bel := (Below.refl w.heap.size w).alloc (Nat.le_refl _) (.cells #[.int .i64 f.B, .int .i64 f.D, .bool f.big, .bool f.tr, .int .i64 f.rm, .int .i64 f.gm, .int .i64 f.bm, .int .i64 f.rs, .int .i64 f.gs, .int .i64 f.bs] 23)
  have hsz : (w.alloc (.cells #[.int .i64 f.B, .int .i64 f.D, .bool f.big, .bool f.tr, .int .i64 f.rm, .int .i64 f.gm, .int .i64 f.bm, .int .i64 f.rs, .int .i64 f.gs, .int .i64 f.bs] 23)).heap.size = w.heap.size + 1 := alloc_size _ _
  obtain ⟨w1, hw1⟩ : ∃ w1, w.alloc (.cells #[.int .i64 f.B, .int .i64 f.D, .bool f.big, .bool f.tr, .int .i64 f.rm, .int .i64 f.gm, .int .i64 f.bm, .int .i64 f.rs, .int .i64 f.gs, .int .i64 f.bs] 23) = w1 := ⟨_, rfl⟩
  rw [hw1] at AT bel hsz
  have HA := Lib.hid (fun W (hW : Below w1.heap.size w1 W) => AT.below hW (by omega))
  have HPM := Lib.hid (fun j => parts_wf hf j)
  have HIX := Lib.hid (fun j hj w => parts_ix f j hj w)
  have HP := Lib.hid (fun w => parts_any f w)
  have HOK := Lib.hid (ok_to f)
  have HNO := Lib.hid (fun j (hj : j < 3) (h : f.okTo (j + 1) = false) => okTo_no hj h)
  have HH : RowKit.Hid (f.head = decide ((f.B = 8 ∨ f.B = 16 ∨ f.B = 32) ∧ 1 ≤ f.D ∧ f.D ≤ f.B ∧ f.tr = true)) := Lib.hid rfl
  have HLT := Lib.hid (fun n (h : f.okTo n = true) (hb : f.B ≤ 32) => orN_lt h hb)
  have HST : RowKit.Hid (∀ j, f.okTo (j + 1) = (f.okTo j && (partB f.B (f.pm j) (f.ps j) && decide (f.orN j &&& f.mk1 j = 0)))) := Lib.hid (fun _ => rfl)
  have HOR : RowKit.Hid (∀ j, f.orN (j + 1) = f.orN j ||| f.mk1 j) := Lib.hid (fun _ => rfl)
  have HMK : RowKit.Hid (∀ j, f.mk1 j = top (width (f.pm j)) * 2 ^ (f.ps j).toNat) := Lib.hid (fun _ => rfl)
  have HO0 : RowKit.Hid (f.orN 0 = 0 ∧ f.okTo 0 = true) := Lib.hid ⟨rfl, rfl⟩
  have HV : f.v = .agg #[.int .i64 f.B, .int .i64 f.D, .bool f.big, .bool f.tr, .int .i64 f.rm, .int .i64 f.gm, .int .i64 f.bm, .int .i64 f.rs, .int .i64 f.gs, .int .i64 f.bs] := rfl
  rw [HV] at HP ⊢
  generalize f.orN = orN at *
  generalize f.okTo = okTo at *
  generalize f.mk1 = mk1 at *
  generalize f.pm = pm at *
  generalize f.ps = ps at *
  generalize prtV f = PV at *
  generalize f.ok = OK at *
  generalize f.head = hd at *
  obtain ⟨c0, c1, c2, c3, c4, c5, c6, c7, c8, c9⟩ := AT
  obtain ⟨B, D, big, tr, rm, gm, bm, rs, gs, bs⟩ := f
  simp only at *
  clear hf HV
  obtain ⟨b8, hb8⟩ : ∃ b8, decide (B = 8 ∨ B = 16 ∨ B = 32) = b8 := ⟨_, rfl⟩
  go_enter Try.func13, Try.ntmps13
  go_upto_region 1 with fail
  go_cut [18] (fun o wx => w1 = wx ∧ o = .bool (!b8))
  case first =>
    by_cases h : B = 8 ∨ B = 16 ∨ B = 32
    · have : b8 = true := by rw [← hb8]; exact decide_eq_true h
      subst this
      clear HA HPM HIX HP HOK HNO HH HLT HST HOR HMK HO0
      rcases h with rfl | rfl | rfl
      all_goals
        go_wp2_with fail
        go_meet
        exact ⟨rfl, rfl⟩
    · have : b8 = false := by rw [← hb8]; exact decide_eq_false h
      subst this
      have x1 : (B != 8) = true := by simpa using fun e => h (.inl e)
      have x2 : (B != 16) = true := by simpa using fun e => h (.inr (.inl e))
      have x3 : (B != 32) = true := by simpa using fun e => h (.inr (.inr e))
      clear HA HPM HIX HP HOK HNO HH HLT HST HOR HMK HO0 h hb8
      go_wp2_with fail
      go_meet
      exact ⟨rfl, rfl⟩
  case rest =>
  obtain ⟨rfl, rfl⟩ := hcut
  have HBB := Lib.hid bel
  cases b8 with
  | false =>
    have hh : hd = false := by rw [HH.out]; exact decide_eq_false fun h => (of_decide_eq_false hb8) h.1
    have hk := HOK.out
    rw [hh] at hk
    have HK := Lib.hid hk
    clear hk hh HA HPM HIX HP HOK HNO HH HLT HST HOR HMK HO0
    go_wp2_with fail
    go_ret
    exact ⟨retB (by rw [HK.out]; rfl), HBB.out⟩
  | true =>
  have hB := of_decide_eq_true hb8
  have hB32 : 0 ≤ B ∧ B ≤ 32 := by omega
  have HB32 := Lib.hid hB32
  clear hB32
  have HBE := Lib.hid hB
  clear hB hb8
  by_cases h1 : D < 1
  · have d1 : decide (D < 1) = true := decide_eq_true h1
    have hh : hd = false := by rw [HH.out]; exact decide_eq_false fun h => by omega
    have hk := HOK.out
    rw [hh] at hk
    have HK := Lib.hid hk
    clear hk hh HA HPM HIX HP HOK HNO HH HLT HST HOR HMK HO0
    go_wp2_with fail
    go_ret
    exact ⟨retB (by rw [HK.out]; rfl), HBB.out⟩
  have d1 : decide (D < 1) = false := decide_eq_false h1
  by_cases h2 : B < D
  · have d2 : decide (B < D) = true := decide_eq_true h2
    have hh : hd = false := by rw [HH.out]; exact decide_eq_false fun h => by omega
    have hk := HOK.out
    rw [hh] at hk
    have HK := Lib.hid hk
    clear hk hh HA HPM HIX HP HOK HNO HH HLT HST HOR HMK HO0
    go_wp2_with fail
    go_ret
    exact ⟨retB (by rw [HK.out]; rfl), HBB.out⟩
  have d2 : decide (B < D) = false := decide_eq_false h2
  cases tr with
  | false =>
    have hh : hd = false := by rw [HH.out]; exact decide_eq_false fun h => by simp at h
    have hk := HOK.out
    rw [hh] at hk
    have HK := Lib.hid hk
    clear hk hh HA HPM HIX HP HOK HNO HH HLT HST HOR HMK HO0
    go_wp2_with fail
    go_ret
    exact ⟨retB (by rw [HK.out]; rfl), HBB.out⟩
  | true =>
  have hh : hd = true := by rw [HH.out]; exact decide_eq_true ⟨HBE.out, by omega, by omega, rfl⟩
  have hk := HOK.out
  rw [hh, Bool.true_and] at hk
  have HK := Lib.hid hk
  clear hk hh HOK HH h1 h2
  go_wp2_with fail
  refine (HP.out _).mono ?_
  rintro r w2 ⟨rfl, b2⟩
  have HB2 := Lib.hid b2
  clear b2 c0 c1 c2 c3 c4 c5 c6 c7 c8 c9 HP
  go_wp2_with fail
  go_loopw [3, 36] (fun u k wr => Below w1.heap.size w1 wr ∧ ∃ j : Nat, j ≤ 3 ∧ k = .int .i64 j ∧ u = .int .i64 (orN j : Nat) ∧ RowKit.Hid (okTo j = true)) (fun _ k _ => 3 - (intOf k).toNat)
  case atStart => exact ⟨HB2.out, 0, by omega, rfl, by rw [HO0.out.1]; rfl, Lib.hid HO0.out.2⟩
  case round =>
    obtain ⟨hbr, j, hj, rfl, rfl, hok⟩ := hrel
    by_cases h3 : j < 3
    · have d3 : decide (j < 3) = true := decide_eq_true h3
      have d3' : decide ((j : Int) < 3) = true := decide_eq_true (by omega)
      have HRB := Lib.hid hbr
      have IX := HIX.out j h3
      have hlt1 := HLT.out j hok.out HB32.out.2
      obtain ⟨bx, kx⟩ := box1 wr #[.int .i64 (pm j), .int .i64 (ps j)] 52
      obtain ⟨W1, hW1⟩ : ∃ W1, wr.alloc (.cells #[.int .i64 (pm j), .int .i64 (ps j)] 52) = W1 := ⟨_, rfl⟩
      rw [hW1] at bx kx
      have k0 := kx 0 _ rfl
      have k1 := kx 1 _ rfl
      have bW := hbr.trans (bx.mono hbr.size)
      obtain ⟨c0, _, _, _, _, _, _, _, _, _⟩ := HA.out W1 bW
      have hszW : W1.heap.size = wr.heap.size + 1 := by rw [← hW1]; exact alloc_size _ _
      have W := Lib.hid (within_any (pm j) (ps j) B (HPM.out j).1 (HPM.out j).2 HB32.out W1)
      have HMKj := HMK.out j
      have HSTj := HST.out j
      have HORj := HOR.out j
      have HSTJ := Lib.hid HSTj
      have HORJ := Lib.hid HORj
      have HMKJ := Lib.hid HMKj
      have KB := Lib.hid (fun W' (h : Below W1.heap.size W1 W') => And.intro ((h.cell (p := ⟨wr.heap.size, 0, none⟩) (by show wr.heap.size < _; omega)).trans k0) ((h.cell (p := ⟨wr.heap.size, 1, none⟩) (by show wr.heap.size < _; omega)).trans k1))
      have BW := Lib.hid bW
      have HLT1 := Lib.hid hlt1
      clear kx bx hbr bW HMKj HSTj HORj hszW hlt1 HIX HPM HRB
      obtain ⟨p, hp⟩ : ∃ p, partB B (pm j) (ps j) = p := ⟨_, rfl⟩
      have HP := Lib.hid hp
      rw [hp] at W
      clear hp
      go_wp2_with fail
      refine W.out.mono ?_
      rintro r w3 ⟨rfl, b3⟩
      have B3 := Lib.hid (BW.out.trans (b3.mono BW.out.size))
      obtain ⟨q0, q1⟩ := KB.out _ b3
      have BB3 := Lib.hid b3
      clear W b3 c0 k0 k1 hW1
      cases p with
      | false =>
        have hno := HNO.out j h3 (by rw [HSTJ.out, HP.out]; simp)
        have HN := Lib.hid hno
        clear hno
        go_wp2_with fail
        go_ret
        exact ⟨retB (by rw [HN.out]), HBB.out.trans (B3.out.mono HBB.out.size)⟩
      | true =>
      obtain ⟨k, s, hk, rm', rs', wk, s1, ks⟩ := part_spec HP.out
      have hmk : mk1 j = top k * 2 ^ s := by rw [HMKJ.out, wk, rs']; rfl
      have M := Lib.hid (fun w => mask_any (top k) s (top_small hk.2) s1 w)
      have hsm := shl_small hk.2 s1
      have ha := i64_and (orN j) (top k * 2 ^ s) HLT1.out hsm
      have ho := i64_orN (orN j) (top k * 2 ^ s) HLT1.out hsm
      rw [rm', rs'] at q0 q1 KB
      rw [← hmk] at M ha ho
      clear hmk hsm HMKJ HMK rm' rs' IX
      generalize top k = tk at *
      have HHO := Lib.hid ho
      clear ho
      go_wp2_with fail
      refine (M.out _).mono ?_
      rintro r w4 ⟨rfl, b4⟩
      have b34 := BB3.out.trans (b4.mono BB3.out.size)
      obtain ⟨r0, r1⟩ := KB.out _ b34
      have B34 := Lib.hid b34
      have B4 := Lib.hid (BW.out.trans (b34.mono BW.out.size))
      clear b34 b4 q0 q1
      by_cases hz : orN j &&& mk1 j = 0
      · rw [hz] at ha
        have ho := HHO.out
        rw [← HORJ.out] at ho
        have hok2 : okTo (j + 1) = true := by rw [HSTJ.out, hok.out, HP.out, hz]; simp
        have HOK2 := Lib.hid hok2
        clear hok2 HSTJ HORJ HHO
        go_wp2_with fail
        refine (M.out _).mono ?_
        rintro r w5 ⟨rfl, b5⟩
        have B5 := Lib.hid (B4.out.trans (b5.mono B4.out.size))
        clear b5
        go_wp2_with fail
        exact ⟨⟨B5.out, j + 1, by omega, by go_num, rfl, HOK2⟩, by simp [intOf]; omega⟩
      · have hne : (bits .and .i64 (orN j : Nat) (mk1 j : Nat) != 0) = true := by
          rw [ha]
          simpa using hz
        have hno := HNO.out j h3 (by rw [HSTJ.out]; simp [hz])
        have HN := Lib.hid hno
        clear hno ha
        go_wp2_with fail
        go_ret
        exact ⟨retB (by rw [HN.out]), HBB.out.trans (B4.out.mono HBB.out.size)⟩
    · obtain rfl : j = 3 := by omega
      have HR := Lib.hid hbr
      clear hbr
      go_wp2_with fail
      go_ret
      exact ⟨retB (by rw [HK.out, hok.out]), HBB.out.trans (HR.out.mono HBB.out.size)⟩
end Go.Proofs.Ytbdlmcpdplmdnaa.Fmt
