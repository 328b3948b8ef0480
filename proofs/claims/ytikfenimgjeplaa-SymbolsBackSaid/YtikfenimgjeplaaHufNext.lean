/-
  Contracts of (*huffman.Decoder).begins and Next.
-/
import Derived.Test.YtikfenimgjeplaaHufNew
import Derived.Test.YtikfenimgjeplaaBitRdA
namespace Go.Proofs.Ytikfenimgjeplaa.Huf
open Go.ChangeShapes Go.WideShapes Go.ChangeAt Go.RowKit
open Go.Proofs.Ytikfenimgjeplaa.Bit (RdAt tb tat rV rI rOk errI rbits_any rerr_any)
set_option linter.unusedVariables false

theorem DecAt.cells {w : World} {D : Nat} {S : Nat → Value} {f : Nat → Nat} {t : Nat} {R : Nat → List Nat} (h : DecAt w D S f t R) :
    (∀ j, j < 16 → w.cell? ⟨D, j, none⟩ = some (S j)) ∧ (∀ j, j < 16 → w.cell? ⟨D, 16 + j, none⟩ = some (.int .i64 (f j : Nat))) ∧ w.cell? ⟨D, 32, none⟩ = some (.int .i64 (t : Nat)) := by
  refine ⟨fun j hj => ?_, fun j hj => ?_, ?_⟩
  · rw [cell_of_row w D j _ _ _ h.blk, decRow_sym _ _ _ _ hj]
  · rw [cell_of_row w D (16 + j) _ _ _ h.blk, decRow_fst _ _ _ _ hj]
  · rw [cell_of_row w D 32 _ _ _ h.blk, decRow_taken]

theorem DecAt.draws {w : World} {D : Nat} {S : Nat → Value} {f : Nat → Nat} {t : Nat} {R : Nat → List Nat} (h : DecAt w D S f t R) (n : Nat) : DecAt (w.drewN n) D S f t R :=
  ⟨h.blk, fun l hl => h.row l hl, h.off, h.apart⟩

theorem quiet_w {P : Program} {f : FuncId} {args : Array Value} {w : World} {n : Nat} {v : Value}
    (h : Calls P f args (w.drewN n) fun e w' => e = .returned v ∧ w.drewN n = w') : Calls P f args (w.drewN n) fun e w'' => e = .returned v ∧ ∃ m, w'' = w.drewN m :=
  h.mono fun _ _ ⟨he, hm⟩ => ⟨he, n, hm.symm⟩

set_option maxHeartbeats 1000000 in
theorem begins_any (D : Nat) (S : Nat → Value) (f : Nat → Nat) (t : Nat) (R : Nat → List Nat) (v k : Nat) (w : World) (h : DecAt w D S f t R) (hk : k ≤ 15) (hv : v < 65536) (ht : t ≤ 32768) :
    Calls Try.prog 74 #[.pointer (some ⟨D, 0, none⟩), .int .i64 v, .int .i64 k] w fun e w' => e = .returned (.bool (decide (v * 2 ^ (15 - k) < t))) ∧ ∃ n, w' = w.drewN n := by
  have hc := h.cells.2.2
  have hr : 2 ^ (15 - k) ≤ 32768 := Nat.le_trans (Nat.pow_le_pow_right (by decide) (show 15 - k ≤ 15 by omega)) (by decide)
  have C1 := Lib.hid (fun n => room_any k hk (w.drewN n))
  generalize (2 : Nat) ^ (15 - k) = r at *
  have hm : v * r ≤ 65536 * 32768 := Nat.mul_le_mul (by omega) hr
  obtain ⟨m, hmm⟩ : ∃ m, v * r = m := ⟨_, rfl⟩
  rw [hmm] at hm ⊢
  have hmi : (v : Int) * r = (m : Int) := by rw [← hmm]; push_cast; rfl
  have hw1 : IntKind.i64.wrap ((v : Int) * r) = (m : Int) := by rw [hmi]; exact IntWalk.i64_in _ (by omega)
  clear h hr hm hmm hv ht hmi
  go_enter Try.func74, Try.ntmps74
  go_wp2_with fail
  go_quiet ((go_at_call 81; exact quiet_w (C1.out _)))
  go_wp2_with fail
  go_ret
  exact ⟨rfl, _, rfl⟩

theorem count_filter (N : List Nat) (l : Nat) : ∀ k, k ≤ N.length → ((List.range k).filter fun i => N.getD i 0 == l).length = (N.take k).count l := by
  intro k
  induction k with
  | zero => intro _; simp
  | succ k ih =>
    intro hk
    rw [List.range_succ, List.filter_append, List.length_append, ih (by omega), List.take_succ_eq_append_getElem (by omega), List.count_append]
    have e : N.getD k 0 = N[k] := by rw [List.getD_eq_getElem?_getD, List.getElem?_eq_getElem (by omega)]; rfl
    simp only [List.filter_cons, List.filter_nil, e, List.count_singleton]
    by_cases h : N[k] = l
    · simp [h]
    · simp [h]
theorem symsOf_count (N : List Nat) (l : Nat) : (symsOf N N.length l).length = cn N l := by
  unfold symsOf cn
  by_cases h : l = 0
  · rw [if_pos h, if_pos h]; rfl
  · rw [if_neg h, if_neg h, count_filter N l _ (Nat.le_refl _), List.take_length]

/-- The next symbol: its number, what is wrong, where the reader is, whether it is at its end. -/
def nxG (N : List Nat) (T : List Bool) (i : Nat) (bad : Bool) : Nat → Nat → Nat → Nat × Int × Nat × Bool
  | 0, k, _ => (0, 3, i + k, bad)
  | f + 1, k, v =>
    if v * 2 ^ (15 - k) < used N 15 then
      if bad = true ∨ T.length ≤ i + k then (0, 2, i + k, true)
      else if 2 * v + (tat T (i + k)).toNat < top N (k + 1) then ((symsOf N N.length (k + 1)).getD (2 * v + (tat T (i + k)).toNat - fst N (k + 1)) 0, 0, i + k + 1, bad)
      else nxG N T i bad f (k + 1) (2 * v + (tat T (i + k)).toNat)
    else (0, 3, i + k, bad)

theorem DecAt.grown {w w' : World} {D b : Nat} {S : Nat → Value} {f : Nat → Nat} {t : Nat} {R : Nat → List Nat} (h : DecAt w D S f t R) (k : w.grownBy w' (some b)) {c : Array Value} {T : TypeId} {fz : Nat × Nat}
    (hb : w.heap[b]? = some (.cells c T fz)) (h1 : T ≠ 113) (h2 : T ≠ 3) : DecAt w' D S f t R := by
  have hD : D ≠ b := by
    rintro rfl
    have := h.blk
    rw [hb] at this
    simp only [Option.some.injEq, Obj.cells.injEq] at this
    exact h1 this.2.1
  refine ⟨by rw [k.block D h.lt (by simp; exact hD)]; exact h.blk, fun l hl => ?_, h.off, h.apart⟩
  refine Bit.ownsRow_block (h.row l hl) fun j hj => k.block j ((h.row l hl).lt j hj).2 ?_
  rintro e
  rcases (h.row l hl).2 with ⟨e1, _⟩ | ⟨g, cap, cur, e1, _, hg, _⟩
  · rw [e1] at hj; cases hj
  · rw [e1] at hj
    simp only [Value.ownBlock, Option.some.injEq] at hj e
    subst hj e
    rw [hb] at hg
    simp only [Option.some.injEq, Obj.cells.injEq] at hg
    exact h2 hg.2.1

theorem DecAt.syms {w : World} {D : Nat} {S : Nat → Value} {f : Nat → Nat} {t : Nat} {R : Nat → List Nat} (h : DecAt w D S f t R) (l : Nat) (hl : l < 16) :
    ∃ a cap, S l = .slice a (R l).length cap ∧ ∀ j (hj : j < (R l).length), ∃ g, a = some ⟨g, 0, none⟩ ∧ w.cell? ⟨g, j, none⟩ = some (.int .i64 (((R l)[j] : Nat) : Int)) := by
  have hr := h.row l hl
  rcases hr.2 with ⟨e1, e2⟩ | ⟨g, cap, cur, e1, _, hg, _⟩
  · exact ⟨none, 0, by rw [e1, e2], fun j hj => by omega⟩
  · refine ⟨some ⟨g, 0, none⟩, cap, e1, fun j hj => ⟨g, rfl, ?_⟩⟩
    rw [e1] at hr
    rw [hr.cellAt j (by omega)]
    simp [cellsN, hj]

theorem rV_one (T : List Bool) (i : Nat) (h : i < T.length) : rV T i false 1 = (tat T i).toNat ∧ rI T i false 1 = i + 1 ∧ rOk T i false 1 = true := by
  have hok : rOk T i false 1 = true := by unfold rOk; simp; omega
  refine ⟨?_, by unfold rI; rw [if_pos hok], hok⟩
  unfold rV
  rw [if_pos hok, Bit.take_range T i 1 (by omega)]
  simp [Bit.num]
theorem rV_bad (T : List Bool) (i : Nat) (e : Bool) (h : e = true ∨ T.length ≤ i) : rV T i e 1 = 0 ∧ rI T i e 1 = i ∧ rOk T i e 1 = false := by
  have hok : rOk T i e 1 = false := by
    unfold rOk
    rcases h with h | h
    · subst h; rfl
    · cases e
      · simp; omega
      · rfl
  exact ⟨by unfold rV; rw [if_neg (by simp [hok])], by unfold rI; rw [if_neg (by simp [hok])], hok⟩

theorem or_bit (d β : Nat) (hd : d % 2 = 0) (hd2 : d < 2 ^ 62) (hβ : β < 2) : bits .or .i64 (d : Int) (β : Int) = ((d + β : Nat) : Int) := by
  have h := Bit.i64_or β d 1 (by simpa using hβ) (by simpa using hd) hd2 (by decide)
  have e : bits .or .i64 (d : Int) (β : Int) = bits .or .i64 (β : Int) (d : Int) := by
    show IntKind.i64.wrap ((BitVec.ofInt 64 (d : Int) ||| BitVec.ofInt 64 (β : Int)).toNat : Int) = IntKind.i64.wrap ((BitVec.ofInt 64 (β : Int) ||| BitVec.ofInt 64 (d : Int)).toNat : Int)
    rw [BitVec.or_comm]
  rw [e, h, Nat.add_comm]

theorem tops (N : List Nat) (k : Nat) : top N (k + 1) = fst N (k + 1) + cn N (k + 1) := rfl

set_option maxRecDepth 10000 in
set_option maxHeartbeats 4000000 in
theorem next_any (D : Nat) (S : Nat → Value) (N : List Nat) (b : Nat) (t : ByteArray) (i : Nat) (e : Bool) (w : World) (h : DecAt w D S (fst N) (used N 15) (symsOf N N.length)) (hr : RdAt 91 w b t i e)
    (hi : i ≤ (tb t).length) (ht : t.size ≤ 1000000) (hN : N.length ≤ 320) (hU : used N 15 ≤ 32768) :
    Calls Try.prog 58 #[.pointer (some ⟨D, 0, none⟩), .pointer (some ⟨b, 0, none⟩)] w fun r w' =>
      r = .returned (.tuple #[.int .i64 (nxG N (tb t) i e 15 0 0).1, .int .i64 (nxG N (tb t) i e 15 0 0).2.1]) ∧
      RdAt 91 w' b t (nxG N (tb t) i e 15 0 0).2.2.1 (nxG N (tb t) i e 15 0 0).2.2.2 ∧ w.grownBy w' (some b) := by
  generalize hres : nxG N (tb t) i e 15 0 0 = res at *
  have HRES := Lib.hid hres
  have H0 := Lib.hid h
  have HR0 := Lib.hid hr
  have HT : Hid (t.size ≤ 1099511627776) := by show t.size ≤ 1099511627776; omega
  have HUU := Lib.hid hU
  have hL : (tb t).length ≤ 8000000 := by rw [Bit.tb_length]; omega
  have HL := Lib.hid hL
  clear hres h hr hU hL ht
  go_enter Try.func58, Try.ntmps58
  go_wp2_with fail
  go_loopw [6, 10] (fun x c wr => ∃ k v : Nat, k ≤ 15 ∧ c = .int .i64 k ∧ x = .int .i64 v ∧ v < 2 ^ k ∧ top N k ≤ v ∧ i + k ≤ (tb t).length ∧ RdAt 91 wr b t (i + k) e ∧ w.grownBy wr (some b) ∧
    nxG N (tb t) i e (15 - k) k v = res) (fun _ c _ => 15 - (intOf c).toNat)
  case atStart => exact ⟨0, 0, by omega, rfl, rfl, by decide, by simp [top, fst, cn], hi, HR0.out, World.grownBy.refl _ _, HRES.out⟩
  case round =>
    obtain ⟨k, v, hk, rfl, rfl, hv, htop, hik, hrd, hg, hnx⟩ := hrel
    clear HRES
    by_cases hlt : k < 15
    · obtain ⟨f, hf⟩ : ∃ f, 15 - k = f + 1 := ⟨15 - k - 1, by omega⟩
      rw [hf] at hnx
      have hv15 : v < 32768 := Nat.lt_of_lt_of_le hv (Nat.le_trans (Nat.pow_le_pow_right (by decide) hk) (by decide))
      have hd : DecAt wr D S (fst N) (used N 15) (symsOf N N.length) := H0.out.grown hg HR0.out (by decide) (by decide)
      have B1 := Lib.hid (begins_any D S _ _ _ v k wr hd (by omega) (by omega) HUU.out)
      unfold nxG at hnx
      by_cases hbg : v * 2 ^ (15 - k) < used N 15
      · rw [if_pos hbg] at hnx
        rw [decide_eq_true hbg] at B1
        have C1 := Lib.hid (fun n => rbits_any b t (i + k) e 1 (wr.drewN n) hrd hik HT.out)
        have e1 : Bit.cnt 1 = 1 := rfl
        rw [e1] at C1
        by_cases hbad : e = true ∨ (tb t).length ≤ i + k
        · rw [if_pos hbad] at hnx
          obtain ⟨r1, r2, r3⟩ := rV_bad (tb t) (i + k) e hbad
          rw [r1, r2, r3] at C1
          have HNX := Lib.hid hnx
          have HG := Lib.hid hg
          obtain ⟨dv, hdv⟩ : ∃ dv, 2 * v = dv := ⟨_, rfl⟩
          have hw1 : wrap64 ((v : Int) * 2) = (dv : Int) := by rw [show (v : Int) * 2 = (dv : Int) by omega]; exact IntWalk.wrap64_in _ (by omega)
          have hor := or_bit dv 0 (by omega) (by omega) (by omega)
          clear hnx hg hrd hd hbg hbad hv htop hik hv15 hdv
          go_wp2_with fail
          refine B1.out.mono ?_
          rintro r w1 ⟨rfl, n1, rfl⟩
          go_wp2_with fail
          refine (C1.out n1).mono ?_
          rintro r w2 ⟨rfl, hrd2, hg2⟩
          go_wp2_with fail
          refine (rerr_any b t (i + k) true w2 hrd2).mono ?_
          rintro r w3 ⟨rfl, rfl⟩
          go_wp2_with fail
          go_ret2
          subst HNX
          exact ⟨rfl, hrd2, Bit.rgrown_trans HG.out (Bit.rgrown_from_drewN hg2)⟩
        · rw [if_neg hbad] at hnx
          obtain ⟨rfl, hik2⟩ : e = false ∧ i + k < (tb t).length := by
            cases e
            · exact ⟨rfl, by simp at hbad; omega⟩
            · simp at hbad
          obtain ⟨r1, r2, r3⟩ := rV_one (tb t) (i + k) hik2
          rw [r1, r2, r3] at C1
          have hβ : (tat (tb t) (i + k)).toNat < 2 := (tat (tb t) (i + k)).toNat_lt
          generalize (tat (tb t) (i + k)).toNat = β at *
          obtain ⟨dv, hdv⟩ : ∃ dv, 2 * v = dv := ⟨_, rfl⟩
          rw [hdv] at hnx
          have hw1 : wrap64 ((v : Int) * 2) = (dv : Int) := by rw [show (v : Int) * 2 = (dv : Int) by omega]; exact IntWalk.wrap64_in _ (by omega)
          have hor := or_bit dv β (by omega) (by omega) hβ
          obtain ⟨x, hx⟩ : ∃ x, dv + β = x := ⟨_, rfl⟩
          rw [hx] at hnx hor
          have hx1 : fst N (k + 1) ≤ x := by rw [fst_top]; omega
          have hx2 : x < 2 ^ (k + 1) := by rw [Nat.pow_succ]; omega
          have hx3 : x < 65536 := by omega
          obtain ⟨ix, hix⟩ : ∃ ix, x - fst N (k + 1) = ix := ⟨_, rfl⟩
          have hw2 : wrap64 ((x : Int) - (fst N (k + 1) : Nat)) = (ix : Int) := by rw [show (x : Int) - (fst N (k + 1) : Nat) = (ix : Int) by omega]; exact IntWalk.wrap64_in _ (by omega)
          rw [hix] at hnx
          have HNX := Lib.hid hnx
          have HG := Lib.hid hg
          have HD := Lib.hid hd
          have HX2 := Lib.hid hx2
          have HIK := Lib.hid hik2
          have hcn := symsOf_count N (k + 1)
          have htp := tops N (k + 1 - 1)
          rw [Nat.add_sub_cancel] at htp
          have HTP : Hid (x < top N (k + 1) ↔ ix < (symsOf N N.length (k + 1)).length) := by
            show x < top N (k + 1) ↔ ix < (symsOf N N.length (k + 1)).length
            rw [hcn, htp]; omega
          clear hnx hg hd hbg hbad hv htop hik hik2 hv15 hdv hx hx2 hcn htp hβ hx1 hx3
          have HIX := Lib.hid hix
          clear hix
          go_wp2_with fail
          refine B1.out.mono ?_
          rintro r w1 ⟨rfl, n1, rfl⟩
          go_wp2_with fail
          refine (C1.out n1).mono ?_
          rintro r w2 ⟨rfl, hrd2, hg2⟩
          have HG2 := Lib.hid hg2
          have HRD2 := Lib.hid hrd2
          have hd2 := (HD.out.draws n1).grown hg2 (show (wr.drewN n1).heap[b]? = _ from hrd) (by decide) (by decide)
          obtain ⟨d0, d1, _⟩ := hd2.cells
          have c1 := d1 (k + 1) (by omega)
          have c2 := d0 (k + 1) (by omega)
          obtain ⟨sa, scap, hsl, hcells⟩ := hd2.syms (k + 1) (by omega)
          rw [hsl] at c2
          clear d0 d1 hd2 hsl hg2 HD
          generalize symsOf N N.length (k + 1) = SY at *
          have HC := Lib.hid hcells
          clear hcells
          generalize fst N (k + 1) = f1 at *
          obtain ⟨sl, hsl⟩ : ∃ sl, SY.length = sl := ⟨_, rfl⟩
          rw [hsl] at c2 HTP
          have HSL := Lib.hid hsl
          clear hsl
          by_cases hin : ix < sl
          · have hxt : x < top N (k + 1) := HTP.out.2 hin
            obtain ⟨g, hsa, hcg⟩ := HC.out ix (by rw [HSL.out]; exact hin)
            have hsy : SY.getD ix 0 = SY[ix]'(by rw [HSL.out]; exact hin) := by
              rw [List.getD_eq_getElem?_getD, List.getElem?_eq_getElem (by rw [HSL.out]; exact hin)]; rfl
            rw [← hsy] at hcg
            have HNX2 : Hid ((SY.getD ix 0, (0 : Int), i + k + 1, false) = res) := by
              have := HNX.out
              rw [if_pos hxt] at this
              exact this
            generalize SY.getD ix 0 = sym at *
            subst hsa
            clear hxt hsy HNX HTP HC hrd hrd2
            go_wp2_with fail
            refine (rerr_any b t (i + k + 1) false w2 HRD2.out).mono ?_
            rintro r w3 ⟨rfl, rfl⟩
            go_wp2_with fail
            go_ret2
            subst HNX2
            exact ⟨rfl, HRD2.out, Bit.rgrown_trans HG.out (Bit.rgrown_from_drewN HG2.out)⟩
          · have hxt : ¬ x < top N (k + 1) := fun h => hin (HTP.out.1 h)
            have HNX2 : Hid (nxG N (tb t) i false f (k + 1) x = res) := by
              have := HNX.out
              rw [if_neg hxt] at this
              exact this
            have HXT := Lib.hid hxt
            have hin2 : ¬ ((ix : Int) < (sl : Int)) := by omega
            clear hxt HNX HTP HC hrd hrd2
            go_wp2_with fail
            refine (rerr_any b t (i + k + 1) false w2 HRD2.out).mono ?_
            rintro r w3 ⟨rfl, rfl⟩
            go_wp2_with fail
            refine ⟨⟨k + 1, x, by omega, by go_num, rfl, HX2.out, Nat.le_of_not_lt HXT.out, by have := HIK.out; omega, HRD2.out, Bit.rgrown_trans HG.out (Bit.rgrown_from_drewN HG2.out), ?_⟩, ?_⟩
            · rw [show 15 - (k + 1) = f by omega]; exact HNX2.out
            · simp [intOf]; omega
      · rw [if_neg hbg] at hnx
        rw [decide_eq_false hbg] at B1
        have HNX := Lib.hid hnx
        have HG := Lib.hid hg
        have HRD := Lib.hid hrd
        clear hnx hg hrd hd hbg hv htop hik hv15
        go_wp2_with fail
        refine B1.out.mono ?_
        rintro r w1 ⟨rfl, n1, rfl⟩
        go_wp2_with fail
        go_ret2
        have HNX := HNX.out
        subst HNX
        exact ⟨rfl, HRD.out, Bit.rgrown_drewN HG.out _⟩
    · obtain rfl : k = 15 := by omega
      have HNX := Lib.hid hnx
      have HG := Lib.hid hg
      have HRD := Lib.hid hrd
      clear hnx hg hrd hv htop hik
      go_wp2_with fail
      go_ret2
      have HNX := HNX.out
      subst HNX
      exact ⟨rfl, HRD.out, HG.out⟩

end Go.Proofs.Ytikfenimgjeplaa.Huf
