/-
  Contract of the reference's Write.
-/
import Derived.Test.YtikfenimgjeplaaSymRefC
import Derived.Test.YtikfenimgjeplaaHufRef2S
namespace Go.Proofs.Ytikfenimgjeplaa.Sym
open Go.ChangeShapes Go.WideShapes Go.ChangeAt Go.RowKit
open Go.Proofs.Ytikfenimgjeplaa.Huf (IsInts fine nats nats_length nats_le nats_cast codeV fine_parts chk refCheck_any refCodes_any info_parts used)
open Go.Proofs.Ytikfenimgjeplaa.Lz (Tok okT tokC IsToks TokAt okT_byte okT_piece refValid_any)
open Go.Proofs.Ytikfenimgjeplaa.Bit (BlAt SeesV From Near bitsOf bitsOf_length cnt cnt_nat below_row wpList_append_sees)
set_option linter.unusedVariables false
set_option maxRecDepth 100000

theorem chk_fine {L : List Int} (h : fine L = true) : chk L = .tuple #[.int .i64 (32768 - used (nats L) 15 : Nat), .int .i64 0] := by unfold chk; rw [h, if_pos rfl]
theorem chk_not {L : List Int} (h : fine L = false) : chk L = .tuple #[.int .i64 0, .int .i64 50] := by unfold chk; rw [h]; rfl
theorem bl_below {w w' : World} {v : Value} {l : List Bool} (h : BlAt w v l) (k : Below w.heap.size w w') : BlAt w' v l := h.below k

/-- What an append of a row of bits leaves. -/
theorem app_row {B : Nat} {w0 w w' : World} {v v' : Value} (hB : B ≤ w0.heap.size) (bl : Below B w0 w) (f : From B v) (hg : w.grownBy w' v.ownBlock) (hn : Near w v v') : Below B w0 w' ∧ From B v' :=
  ⟨below_row bl hB hg f, f.near hn (Nat.le_trans hB bl.size)⟩

theorem codes_at (a : Option Addr) (n cap : Nat) (L : List Int) (w : World) (hn : L.length = n) (h : IsInts w a L) (hf : fine L = true) :
    Calls Try.prog 53 #[.slice a n cap] w fun e w' => ∃ b, e = .returned (.slice (some ⟨b, 0, none⟩) n n) ∧ CodesAt w' b n (nats L) ∧ Below w.heap.size w w' := by
  obtain ⟨f1, f2, f3⟩ := fine_parts hf
  refine (refCodes_any a n cap (nats L) w (by rw [nats_length]; exact hn) (by rw [← nats_cast f2]; exact h) (by omega) (nats_le f2)).mono ?_
  rintro r w' ⟨b, rfl, hb, ho⟩
  refine ⟨b, rfl, ?_, hb⟩
  refine ⟨ho.1, ?_⟩
  rcases ho.2 with h0 | ⟨g, cap, cur, h1, _, h3⟩
  · exact .inl h0
  · exact .inr ⟨g, cap, cur, h1, Nat.zero_le _, h3⟩

/-- If each token's symbols, and the End, have codes, all that come have. -/
theorem cov_of {N K : List Nat} {l : List Tok} (h : ∀ t ∈ l, N.getD (litN t) 0 ≠ 0 ∧ (t.L ≠ 0 → K.getD (di t.D.toNat) 0 ≠ 0)) (he : N.getD 256 0 ≠ 0) : covB N (litC l) 286 = true ∧ covB K (dstC l) 30 = true := by
  refine ⟨(covB_iff _ _ _).2 fun s hs h0 => ?_, (covB_iff _ _ _).2 fun s hs h0 => ?_⟩
  · have : s ∈ litsOf l ++ [256] := List.count_pos_iff.1 (Nat.pos_of_ne_zero h0)
    rcases List.mem_append.1 this with h1 | h1
    · obtain ⟨t, ht, rfl⟩ := List.mem_map.1 h1
      exact (h t (List.mem_filter.1 ht).1).1
    · simp at h1; subst h1; exact he
  · have : s ∈ dstsOf l := List.count_pos_iff.1 (Nat.pos_of_ne_zero h0)
    obtain ⟨t, ht, rfl⟩ := List.mem_map.1 this
    obtain ⟨h1, h2⟩ := List.mem_filter.1 ht
    exact (h t (List.mem_filter.1 h1).1).2 (by simpa using h2)
theorem mem_take_next {l : List Tok} {j : Nat} (h : j < l.length) {P : Tok → Prop} (h1 : ∀ t ∈ l.take j, P t) (h2 : P l[j]) : ∀ t ∈ l.take (j + 1), P t := by
  intro t ht
  rw [take_next l j h] at ht
  rcases List.mem_append.1 ht with h3 | h3
  · exact h1 t h3
  · simp at h3; subst h3; exact h2

set_option maxHeartbeats 8000000 in
theorem refWrite_any (a1 a2 a3 : Option Addr) (n c1 m c2 q c3 : Nat) (L M : List Int) (l : List Tok) (w : World)
    (hL : L.length = n) (hM : M.length = m) (hl : l.length = q) (iL : IsInts w a1 L) (iM : IsInts w a2 M) (iT : IsToks w a3 l) (hn : n ≤ 1000000) (hm : m ≤ 1000000) (hq : q ≤ 1000000) :
    Calls Try.prog 27 #[.slice a1 n c1, .slice a2 m c2, .slice a3 q c3] w fun r w' => ∃ u,
      r = .returned (.tuple #[u, .int .i64 (wrE L M l)]) ∧ BlAt w' u (if wrE L M l = 0 then wrBits (nats L) (nats M) l else []) ∧ Below w.heap.size w w' ∧ From w.heap.size u := by
  have IL := Lib.hid iL
  have IM := Lib.hid iM
  have IT := Lib.hid iT
  clear iL iM iT
  obtain ⟨E, hE⟩ : ∃ E, wrE L M l = E := ⟨_, rfl⟩
  rw [hE]
  have HE := Lib.hid hE
  clear hE
  have K1 := Lib.hid (fun w h => refCheck_any a1 n c1 L w hL h hn)
  have K2 := Lib.hid (fun w h => refCheck_any a2 m c2 M w hM h hm)
  go_enter Try.func27, Try.ntmps27
  go_wp2_with fail
  go_loopw [9] (fun i wr => ∃ k : Nat, k ≤ q ∧ i = .int .i64 k ∧ (l.take k).all okT = true ∧ Below w.heap.size w wr) (fun i _ => q - (intOf i).toNat)
  case atStart => exact ⟨0, Nat.zero_le _, rfl, rfl, Below.refl _ _⟩
  case round =>
    obtain ⟨k, hk, rfl, hall, hb⟩ := hrel
    by_cases hlt : k < q
    · obtain ⟨bb, off, rfl, hbb, hc⟩ := IT.out (by omega)
      obtain ⟨q1, q2, q3⟩ := hc k (by omega)
      have c1 := (hb.cell (p := ⟨bb, off + k * 3, none⟩) hbb).trans q1
      have c2 := (hb.cell (p := ⟨bb, off + k * 3 + 1, none⟩) hbb).trans q2
      have c3 := (hb.cell (p := ⟨bb, off + k * 3 + 2, none⟩) hbb).trans q3
      have hkl : k < l.length := by omega
      have AN := Lib.hid (fun (h : okT l[k] = true) => all_take_succ hkl hall h)
      have AF := Lib.hid (fun (h : okT l[k] = false) => all_false hkl h)
      clear hc hbb q1 q2 q3 hall
      generalize l[k] = t at *
      have HB := Lib.hid hb
      clear hb
      go_wp2_with fail
      refine (refValid_any t _).mono ?_
      rintro r w' ⟨rfl, rfl⟩
      have b2 : Below wr.heap.size wr (wr.alloc (.cells (tokC t) 64)) := (Below.refl _ _).alloc (Nat.le_refl _) _
      generalize (wr.alloc (.cells (tokC t) 64)) = w2 at *
      have HB2 := Lib.hid (HB.out.trans (b2.mono HB.out.size))
      clear b2 HB c1 c2 c3
      cases hv : okT t with
      | false =>
        have e1 : E = 1 := by rw [← HE.out]; unfold wrE; rw [if_neg (AF.out hv)]
        subst e1
        clear hv
        go_wp2_with fail
        go_ret2
        exact ⟨_, rfl, BlAt.nil _, HB2.out, From.nil _⟩
      | true =>
        have HA := Lib.hid (AN.out hv)
        clear hv
        go_wp2_with fail
        refine ⟨⟨k + 1, by omega, by go_num, HA.out, HB2.out⟩, ?_⟩
        simp [intOf]; omega
    · obtain rfl : k = q := by omega
      rw [List.take_of_length_le (by omega)] at hall
      have HALL := Lib.hid hall
      have HB := Lib.hid hb
      have I1 := Lib.hid (IL.out.below hb (Nat.le_refl _))
      have I2 := Lib.hid (IM.out.below hb (Nat.le_refl _))
      clear hall hb
      cases hf1 : fine L with
      | false =>
        rw [chk_not hf1] at K1
        have e1 : E = 50 := by rw [← HE.out]; unfold wrE; rw [if_pos HALL.out, if_neg (by unfold cvB; rw [hf1]; simp)]
        subst e1
        cases hf2 : fine M with
        | false =>
          rw [chk_not hf2] at K2
          go_wp2_with fail
          refine (K1.out _ I1.out).mono ?_
          rintro r w2 ⟨rfl, rfl⟩
          go_wp2_with fail
          refine (K2.out _ I2.out).mono ?_
          rintro r w2 ⟨rfl, rfl⟩
          go_wp2_with fail
          go_ret2
          exact ⟨_, rfl, BlAt.nil _, HB.out, From.nil _⟩
        | true =>
          rw [chk_fine hf2] at K2
          generalize 32768 - used (nats M) 15 = left2 at *
          go_wp2_with fail
          refine (K1.out _ I1.out).mono ?_
          rintro r w2 ⟨rfl, rfl⟩
          go_wp2_with fail
          refine (K2.out _ I2.out).mono ?_
          rintro r w2 ⟨rfl, rfl⟩
          go_wp2_with fail
          go_ret2
          exact ⟨_, rfl, BlAt.nil _, HB.out, From.nil _⟩
      | true =>
        rw [chk_fine hf1] at K1
        generalize 32768 - used (nats L) 15 = left1 at *
        cases hf2 : fine M with
        | false =>
          rw [chk_not hf2] at K2
          have e1 : E = 50 := by rw [← HE.out]; unfold wrE; rw [if_pos HALL.out, if_neg (by unfold cvB; rw [hf2]; simp)]
          subst e1
          go_wp2_with fail
          refine (K1.out _ I1.out).mono ?_
          rintro r w2 ⟨rfl, rfl⟩
          go_wp2_with fail
          refine (K2.out _ I2.out).mono ?_
          rintro r w2 ⟨rfl, rfl⟩
          go_wp2_with fail
          go_ret2
          exact ⟨_, rfl, BlAt.nil _, HB.out, From.nil _⟩
        | true =>
          rw [chk_fine hf2] at K2
          generalize 32768 - used (nats M) 15 = left2 at *
          have G1 := Lib.hid (fun w h => codes_at a1 n c1 L w hL h hf1)
          have G2 := Lib.hid (fun w h => codes_at a2 m c2 M w hM h hf2)
          have HE2 : Hid (E = if covB (nats L) (litC l) 286 = true ∧ covB (nats M) (dstC l) 30 = true then 0 else 50) := Lib.hid (by
            rw [← HE.out]; unfold wrE cvB; rw [if_pos HALL.out, hf1, hf2, Bool.true_and, Bool.true_and])
          clear HE hf1 hf2
          go_wp2_with fail
          refine (K1.out _ I1.out).mono ?_
          rintro r w2 ⟨rfl, rfl⟩
          go_wp2_with fail
          refine (K2.out _ I2.out).mono ?_
          rintro r w2 ⟨rfl, rfl⟩
          go_wp2_with fail
          refine (G1.out _ I1.out).mono ?_
          rintro r w2 ⟨x1, rfl, k1, b2⟩
          have HB2 := Lib.hid (HB.out.trans (b2.mono HB.out.size))
          have I2' := Lib.hid (I2.out.below b2 (Nat.le_refl _))
          have HC1 := Lib.hid k1
          clear k1 b2 HB K1 K2 I1 I2 G1
          go_wp2_with fail
          refine (G2.out _ I2'.out).mono ?_
          rintro r w4 ⟨x2, rfl, k2, b4⟩
          have HB4 := Lib.hid (HB2.out.trans (b4.mono HB2.out.size))
          have HC1' := Lib.hid (HC1.out.below b4)
          have HC2 := Lib.hid k2
          have hNl : (nats L).length = n := by rw [nats_length]; exact hL
          have hMl : (nats M).length = m := by rw [nats_length]; exact hM
          generalize hNL : nats L = N at *
          generalize hMK : nats M = K at *
          have HNK := Lib.hid (And.intro hNL hMK)
          clear k2 b4 HB2 HC1 I2' G2 IL IM hNL hMK
          have BAD : Hid (¬ (covB N (litC l) 286 = true ∧ covB K (dstC l) 30 = true) → E = 50) := Lib.hid fun h => by rw [HE2.out, if_neg h]
          go_wp2_with fail
          go_loopw [8, 17] (fun v i wr => ∃ j : Nat, j ≤ k ∧ i = .int .i64 j ∧ BlAt wr v (toksW N K (l.take j)) ∧ (∀ t ∈ l.take j, N.getD (litN t) 0 ≠ 0 ∧ (t.L ≠ 0 → K.getD (di t.D.toNat) 0 ≠ 0)) ∧ Below w4.heap.size w4 wr ∧ From w4.heap.size v) (fun _ i _ => k - (intOf i).toNat)
          case atStart => exact ⟨0, Nat.zero_le _, rfl, BlAt.nil _, fun t h => by simp at h, Below.refl _ _, From.nil _⟩
          case round =>
            obtain ⟨j, hj, rfl, hbl, hcov, hb, hfr⟩ := hrel
            have hc1 := HC1'.out.below hb
            have hc2 := HC2.out.below hb
            have hlen := toksW_length N K (l.take j)
            have hlen2 : (l.take j).length ≤ 1000000 := by rw [List.length_take]; omega
            have hbits : (toksW N K (l.take j)).length ≤ 100000000 := by omega
            clear hlen hlen2
            by_cases hlt : j < k
            · have hlt' : (j : Int) < k := by omega
              have hjl : j < l.length := by omega
              obtain ⟨bb, off, rfl, hbb, hc⟩ := IT.out (by omega)
              obtain ⟨q1, q2, q3⟩ := hc j (by omega)
              have CELL : Hid (∀ W, Below w4.heap.size w4 W → W.cell? ⟨bb, off + j * 3, none⟩ = some (.int .i64 l[j].B) ∧ W.cell? ⟨bb, off + j * 3 + 1, none⟩ = some (.int .i64 l[j].L) ∧ W.cell? ⟨bb, off + j * 3 + 2, none⟩ = some (.int .i64 l[j].D)) := Lib.hid fun W hW => by
                have hW2 := HB4.out.trans (hW.mono HB4.out.size)
                exact ⟨(hW2.cell (p := ⟨bb, off + j * 3, none⟩) hbb).trans q1, (hW2.cell (p := ⟨bb, off + j * 3 + 1, none⟩) hbb).trans q2, (hW2.cell (p := ⟨bb, off + j * 3 + 2, none⟩) hbb).trans q3⟩
              have hv : okT l[j] = true := (List.all_eq_true.1 HALL.out) l[j] (List.getElem_mem hjl)
              have hmem : l[j] ∈ l := List.getElem_mem hjl
              have TK := Lib.hid (show toksW N K (l.take (j + 1)) = toksW N K (l.take j) ++ tokW N K l[j] by rw [take_next l j hjl, toksW_snoc])
              have CV := Lib.hid (fun h => mem_take_next hjl hcov h)
              have BLIT := Lib.hid (fun h => BAD.out fun hh => absurd h ((covB_iff _ _ _).1 hh.1 _ (litN_lt hv) (lit_needs hmem hv)))
              have BDST := Lib.hid (fun h0 h => BAD.out fun hh => absurd h ((covB_iff _ _ _).1 hh.2 _ (di_lt hv h0) (dst_needs hmem hv h0)))
              clear hc q1 q2 q3 hcov
              generalize l[j] = t at *
              have HBL := Lib.hid hbl
              have HB := Lib.hid hb
              have HF := Lib.hid hfr
              have HCC := Lib.hid (And.intro hc1 hc2)
              obtain ⟨cc1, cc2, cc3⟩ := CELL.out wr hb
              have hws : w4.heap.size ≤ wr.heap.size := hb.size
              clear hbl hb hfr hc1 hc2
              by_cases hz : t.L = 0
              · obtain ⟨hD0, hB0, hB1⟩ := okT_byte hv hz
                obtain ⟨bN, hbN⟩ : ∃ bN : Nat, t.B = bN := ⟨t.B.toNat, by omega⟩
                have hlit : litN t = bN := by unfold litN; rw [if_pos hz]; omega
                have htw : tokW N K t = cd N bN := by unfold tokW; rw [if_pos hz, hbN]; rfl
                rw [hbN] at cc1
                rw [hz] at cc2
                rw [hlit] at BLIT CV
                have HZ := Lib.hid hz
                have HTW := Lib.hid htw
                clear hv hmem hbN hlit hD0 hB0 hB1 hz htw
                by_cases hcd : N.getD bN 0 = 0
                · have e1 : E = 50 := BLIT.out hcd
                  subst e1
                  have CN := Lib.hid (code_none x1 n bN N wr hNl HCC.out.1 hcd)
                  clear hcd
                  go_wp2_with fail
                  refine CN.out.mono ?_
                  rintro r w5 ⟨rfl, rfl⟩
                  have HFIN := Lib.hid (HB4.out.trans (HB.out.mono HB4.out.size))
                  go_wp2_with fail
                  go_ret2
                  exact ⟨_, rfl, BlAt.nil _, HFIN.out, From.nil _⟩
                · have CS := Lib.hid (code_some x1 n bN N wr hNl HCC.out.1 hcd)
                  have CVN := Lib.hid (CV.out ⟨hcd, fun h => absurd HZ.out h⟩)
                  clear hcd
                  go_wp2_with fail
                  refine CS.out.mono ?_
                  rintro r w5 ⟨u, rfl, u5, b5, f5⟩
                  have HBL5 := Lib.hid (bl_below HBL.out b5)
                  have HB5 := Lib.hid (HB.out.trans (b5.mono hws))
                  have HS5 := Lib.hid u5.seesV
                  have hcl := cd_length N bN
                  clear u5 b5 f5 CS
                  go_wp2_with (at_builtin; refine wpList_append_sees _ rfl _ _ rfl _ _ (toksW N K (l.take j)) (cd N bN) rfl rfl HBL5.out HS5.out (by omega) ?_; intro v6 w6 o6 g6 n6)
                  have H6 := app_row (Nat.le_refl _) HB5.out HF.out g6 n6
                  have HB6 := Lib.hid H6.1
                  have HF6 := Lib.hid H6.2
                  have HBL6 := Lib.hid o6
                  clear o6 g6 n6 H6 HBL5 HS5 HB5
                  refine (Bit.of_any _ _ _).mono ?_
                  rintro r w7 ⟨u7, rfl, bl7, b7, f7⟩
                  have HBL7 := Lib.hid (bl_below HBL6.out b7)
                  have HB7 := Lib.hid (HB6.out.trans (b7.mono HB6.out.size))
                  have HS7 : Hid (SeesV w7 u7 []) := Lib.hid (by
                    have := bl7.seesV
                    have e : bitsOf (cnt 0) 0 = [] := by decide +kernel
                    rw [e] at this; exact this)
                  have hlen6 : (toksW N K (l.take j) ++ cd N bN).length ≤ 100000032 := by rw [List.length_append]; omega
                  clear bl7 b7 f7 HBL6 HB6
                  obtain ⟨cc1, cc2, cc3⟩ := CELL.out w7 HB7.out
                  go_wp2_with (at_builtin; refine wpList_append_sees _ rfl _ _ rfl _ _ (toksW N K (l.take j) ++ cd N bN) [] rfl rfl HBL7.out HS7.out (by simp; omega) ?_; intro v8 w8 o8 g8 n8; have H8 := app_row (Nat.le_refl _) HB7.out HF6.out g8 n8; obtain ⟨cc4, cc5, cc6⟩ := CELL.out w8 H8.1; rw [HZ.out] at cc5)
                  refine ⟨⟨j + 1, by omega, by go_num, ?_, CVN.out, H8.1, H8.2⟩, ?_⟩
                  · rw [TK.out, HTW.out, ← List.append_nil (cd N bN), ← List.append_assoc]; exact o8
                  · simp [intOf]; omega
              · have hpc := okT_piece hv hz
                have hlit : litN t = 257 + li t.L.toNat := by unfold litN; rw [if_neg hz]
                have htw : tokW N K t = (cd N (257 + li t.L.toNat) ++ bitsOf (LX (li t.L.toNat)) (t.L.toNat - LB (li t.L.toNat) : Nat)) ++ (cd K (di t.D.toNat) ++ bitsOf (DX (di t.D.toNat)) (t.D.toNat - DB (di t.D.toNat) : Nat)) := by
                  unfold tokW; rw [if_neg hz]
                have CL := Lib.hid (fun w => refLength_any t.L (by omega) w)
                have CD := Lib.hid (fun w => refDistance_any t.D (by omega) w)
                rw [len_sym hv hz] at CL
                rw [dist_sym hv hz] at CD
                have hx1 : LX (li t.L.toNat) ≤ 32 := by have := LX_le (li t.L.toNat); omega
                have hx2 : DX (di t.D.toNat) ≤ 32 := by have := DX_le (di t.D.toNat); omega
                rw [hlit] at BLIT CV
                have BDST2 := Lib.hid (BDST.out hz)
                have HZ := Lib.hid hz
                generalize 257 + li t.L.toNat = sL at *
                generalize di t.D.toNat = sD at *
                generalize t.L.toNat - LB (li t.L.toNat) = eL at *
                generalize LX (li t.L.toNat) = bL at *
                generalize t.D.toNat - DB sD = eD at *
                generalize DX sD = bD at *
                unfold trip at CL CD
                have HTW := Lib.hid htw
                have hL0 : (t.L == 0) = false := by simpa using hz
                have hLp : decide (0 < t.L) = true := by simp; omega
                have hLp2 : 0 < t.L := by omega
                have hck1 : cnt (bL : Int) = bL := cnt_nat bL hx1
                have hck2 : cnt (bD : Int) = bD := cnt_nat bD hx2
                have OF1 := Lib.hid (fun w => Bit.of_any (bL : Int) (eL : Int) w)
                have OF2 := Lib.hid (fun w => Bit.of_any (bD : Int) (eD : Int) w)
                rw [hck1] at OF1
                rw [hck2] at OF2
                clear hv hmem hlit hz htw hpc BDST hck1 hck2
                go_wp2_with fail
                refine (CL.out _).mono ?_
                rintro r w5 ⟨rfl, b5⟩
                have HBL5 := Lib.hid (bl_below HBL.out b5)
                have HB5 := Lib.hid (HB.out.trans (b5.mono hws))
                have HCC5 := Lib.hid (And.intro (HCC.out.1.below b5) (HCC.out.2.below b5))
                clear b5 HBL HB HCC CL
                by_cases hcd : N.getD sL 0 = 0
                · have e1 : E = 50 := BLIT.out hcd
                  subst e1
                  have CN := Lib.hid (code_none x1 n sL N w5 hNl HCC5.out.1 hcd)
                  have HFIN := Lib.hid (HB4.out.trans (HB5.out.mono HB4.out.size))
                  clear hcd
                  go_wp2_with fail
                  refine CN.out.mono ?_
                  rintro r w6 ⟨rfl, rfl⟩
                  go_wp2_with fail
                  go_ret2
                  exact ⟨_, rfl, BlAt.nil _, HFIN.out, From.nil _⟩
                · have CS := Lib.hid (code_some x1 n sL N w5 hNl HCC5.out.1 hcd)
                  have HCD := Lib.hid hcd
                  have hcl1 := cd_length N sL
                  have hcl2 := cd_length K sD
                  clear hcd
                  go_wp2_with fail
                  refine CS.out.mono ?_
                  rintro r w6 ⟨u, rfl, u6, b6, _⟩
                  have HBL6 := Lib.hid (bl_below HBL5.out b6)
                  have HB6 := Lib.hid (HB5.out.trans (b6.mono HB5.out.size))
                  have HS6 := Lib.hid u6.seesV
                  clear u6 b6 CS HBL5 HCC5 HB5
                  go_wp2_with (at_builtin; refine wpList_append_sees _ rfl _ _ rfl _ _ (toksW N K (l.take j)) (cd N sL) rfl rfl HBL6.out HS6.out (by omega) ?_; intro v7 w7 o7 g7 n7)
                  have H7 := app_row (Nat.le_refl _) HB6.out HF.out g7 n7
                  have HB7 := Lib.hid H7.1
                  have HF7 := Lib.hid H7.2
                  have HBL7 := Lib.hid o7
                  clear o7 g7 n7 H7 HBL6 HS6 HB6 HF
                  refine (OF1.out _).mono ?_
                  rintro r w8 ⟨u8, rfl, bl8, b8, _⟩
                  have HBL8 := Lib.hid (bl_below HBL7.out b8)
                  have HB8 := Lib.hid (HB7.out.trans (b8.mono HB7.out.size))
                  have HS8 := Lib.hid bl8.seesV
                  have hlen7 : (toksW N K (l.take j) ++ cd N sL).length ≤ 100000032 := by rw [List.length_append]; omega
                  have hlenb : (bitsOf bL (eL : Int)).length ≤ 32 := by rw [bitsOf_length]; exact hx1
                  clear bl8 b8 HBL7 HB7 OF1
                  obtain ⟨cc1, cc2, cc3⟩ := CELL.out w8 HB8.out
                  go_wp2_with (at_builtin; refine wpList_append_sees _ rfl _ _ rfl _ _ (toksW N K (l.take j) ++ cd N sL) (bitsOf bL eL) rfl rfl HBL8.out HS8.out (by omega) ?_; intro v9 w9 o9 g9 n9; have H9 := app_row (Nat.le_refl _) HB8.out HF7.out g9 n9; obtain ⟨cc4, cc5, cc6⟩ := CELL.out w9 H9.1)
                  have HB9 := Lib.hid H9.1
                  have HF9 := Lib.hid H9.2
                  have HBL9 := Lib.hid o9
                  have hlen9 : (toksW N K (l.take j) ++ cd N sL ++ bitsOf bL (eL : Int)).length ≤ 100000064 := by rw [List.length_append]; omega
                  clear o9 g9 n9 H9 HBL8 HS8 HB8 HF7 hlenb hlen7
                  refine (CD.out _).mono ?_
                  rintro r wa ⟨rfl, ba⟩
                  have HBLa := Lib.hid (bl_below HBL9.out ba)
                  have HBa := Lib.hid (HB9.out.trans (ba.mono HB9.out.size))
                  have HCCa := Lib.hid (HC2.out.below HBa.out)
                  clear ba HBL9 HB9 CD cc1 cc2 cc3 cc4 cc5 cc6
                  by_cases hcd2 : K.getD sD 0 = 0
                  · have e1 : E = 50 := BDST2.out hcd2
                    subst e1
                    have CN := Lib.hid (code_none x2 m sD K wa hMl HCCa.out hcd2)
                    have HFIN := Lib.hid (HB4.out.trans (HBa.out.mono HB4.out.size))
                    clear hcd2
                    go_wp2_with fail
                    refine CN.out.mono ?_
                    rintro r w6 ⟨rfl, rfl⟩
                    go_wp2_with fail
                    go_ret2
                    exact ⟨_, rfl, BlAt.nil _, HFIN.out, From.nil _⟩
                  · have CS := Lib.hid (code_some x2 m sD K wa hMl HCCa.out hcd2)
                    have CVN := Lib.hid (CV.out ⟨HCD.out, fun _ => hcd2⟩)
                    clear hcd2
                    go_wp2_with fail
                    refine CS.out.mono ?_
                    rintro r wb ⟨ub, rfl, ubl, bb2, _⟩
                    have HBLb := Lib.hid (bl_below HBLa.out bb2)
                    have HBb := Lib.hid (HBa.out.trans (bb2.mono HBa.out.size))
                    have HSb := Lib.hid ubl.seesV
                    clear ubl bb2 CS HBLa HCCa HBa
                    go_wp2_with (at_builtin; refine wpList_append_sees _ rfl _ _ rfl _ _ (toksW N K (l.take j) ++ cd N sL ++ bitsOf bL eL) (cd K sD) rfl rfl HBLb.out HSb.out (by omega) ?_; intro vc wc oc gc nc)
                    have Hc := app_row (Nat.le_refl _) HBb.out HF9.out gc nc
                    have HBc := Lib.hid Hc.1
                    have HFc := Lib.hid Hc.2
                    have HBLc := Lib.hid oc
                    have hlenc : (toksW N K (l.take j) ++ cd N sL ++ bitsOf bL (eL : Int) ++ cd K sD).length ≤ 100000096 := by rw [List.length_append]; omega
                    clear oc gc nc Hc HBLb HSb HBb HF9
                    refine (OF2.out _).mono ?_
                    rintro r wd ⟨ud, rfl, bld, bd, _⟩
                    have HBLd := Lib.hid (bl_below HBLc.out bd)
                    have HBd := Lib.hid (HBc.out.trans (bd.mono HBc.out.size))
                    have HSd := Lib.hid bld.seesV
                    have hlend : (bitsOf bD (eD : Int)).length ≤ 32 := by rw [bitsOf_length]; exact hx2
                    clear bld bd HBLc HBc OF2
                    go_wp2_with (at_builtin; refine wpList_append_sees _ rfl _ _ rfl _ _ (toksW N K (l.take j) ++ cd N sL ++ bitsOf bL eL ++ cd K sD) (bitsOf bD eD) rfl rfl HBLd.out HSd.out (by omega) ?_; intro ve we oe ge ne)
                    have He := app_row (Nat.le_refl _) HBd.out HFc.out ge ne
                    refine ⟨⟨j + 1, by omega, by go_num, ?_, CVN.out, He.1, He.2⟩, ?_⟩
                    · rw [TK.out, HTW.out]
                      simp only [List.append_assoc] at oe ⊢
                      exact oe
                    · simp [intOf]; omega
            · obtain rfl : j = k := by omega
              rw [List.take_of_length_le (by omega)] at hbl hcov hbits
              have HBL := Lib.hid hbl
              have HB := Lib.hid hb
              have HF := Lib.hid hfr
              have COV := Lib.hid (fun he => cov_of hcov he)
              have hws : w4.heap.size ≤ wr.heap.size := hb.size
              have hcl := cd_length N 256
              by_cases hcd : N.getD 256 0 = 0
              · have e1 : E = 50 := BAD.out fun hh => absurd hcd ((covB_iff _ _ _).1 hh.1 256 (by decide) (end_needs l))
                subst e1
                have CN := Lib.hid (code_none x1 n 256 N wr hNl hc1 hcd)
                have HFIN := Lib.hid (HB4.out.trans (HB.out.mono HB4.out.size))
                clear hcd hbl hb hfr hcov hc1 hc2
                rw [show ((256 : Nat) : Int) = 256 from rfl] at CN
                go_wp2_with fail
                refine CN.out.mono ?_
                rintro r w6 ⟨rfl, rfl⟩
                go_wp2_with fail
                go_ret2
                exact ⟨_, rfl, BlAt.nil _, HFIN.out, From.nil _⟩
              · have e0 : E = 0 := by rw [HE2.out, if_pos (COV.out hcd)]
                subst e0
                have CS := Lib.hid (code_some x1 n 256 N wr hNl hc1 hcd)
                rw [show ((256 : Nat) : Int) = 256 from rfl] at CS
                clear hcd hbl hb hfr hcov hc1 hc2 HE2 BAD
                go_wp2_with fail
                refine CS.out.mono ?_
                rintro r w6 ⟨u, rfl, u6, b6, _⟩
                have HBL6 := Lib.hid (bl_below HBL.out b6)
                have HB6 := Lib.hid (HB.out.trans (b6.mono hws))
                have HS6 := Lib.hid u6.seesV
                clear u6 b6 CS HBL HB
                go_wp2_with (at_builtin; refine wpList_append_sees _ rfl _ _ rfl _ _ (toksW N K l) (cd N 256) rfl rfl HBL6.out HS6.out (by omega) ?_; intro v7 w7 o7 g7 n7)
                have H7 := app_row (Nat.le_refl _) HB6.out HF.out g7 n7
                have HFIN := Lib.hid (HB4.out.trans (H7.1.mono HB4.out.size))
                have hge := HB4.out.size
                go_ret2
                refine ⟨_, rfl, ?_, HFIN.out, fun i hi => Nat.le_trans hge (H7.2 i hi)⟩
                rw [HNK.out.1, HNK.out.2]
                exact o7
end Go.Proofs.Ytikfenimgjeplaa.Sym
