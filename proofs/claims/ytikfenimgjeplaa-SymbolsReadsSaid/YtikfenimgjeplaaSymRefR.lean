/-
  Contract of the reference's Read.
-/
import Derived.Test.YtikfenimgjeplaaSymRefS
import Derived.Test.YtikfenimgjeplaaSymReadB
import Derived.Test.YtikfenimgjeplaaSymRefW
import Derived.Test.YtikfenimgjeplaaSymWorks
namespace Go.Proofs.Ytikfenimgjeplaa.Sym
open Go.ChangeShapes Go.WideShapes Go.ChangeAt Go.RowKit
open Go.Proofs.Ytikfenimgjeplaa.Huf (IsInts fine nats nats_length nats_le fine_parts chk refCheck_any nxG used info_parts)
open Go.Proofs.Ytikfenimgjeplaa.Lz (Tok okT tokC cellsT cellsT_length cellsT_append cellsT_one info_tok)
open Go.Proofs.Ytikfenimgjeplaa.Bit (BlAt RfAt rfbits_any rV rI rOk errI rgrown_trans cnt cnt_nat)
set_option linter.unusedVariables false
set_option maxRecDepth 100000

/-- A symbol's table entry, and the number that stands behind it. -/
theorem of_len (a b : Option Addr) (s : Nat) (w : World) (h1 : IsInts w a (ints LBt)) (h2 : IsInts w b (ints LXt)) (hs : (s : Int) ≤ 9223372036854775807) :
    Calls Try.prog 17 #[.slice a 29 29, .slice b 29 29, .int .i64 s, .int .i64 257] w fun e w' => e = .returned (pairN (lenO s)) ∧ ∃ q, w' = w.drewN q := by
  refine (refOf_any a b 29 29 29 257 LBt LXt s w rfl rfl h1 h2 (by decide) hs).mono ?_
  rintro r w' ⟨rfl, hq⟩
  refine ⟨?_, hq⟩
  unfold lenO LB LX
  by_cases h : 257 ≤ (s : Int) ∧ (s : Int) ≤ 285
  · rw [if_pos h, if_pos (by omega)]
  · rw [if_neg h, if_neg (by omega)]
theorem of_dist (a b : Option Addr) (s : Nat) (w : World) (h1 : IsInts w a (ints DBt)) (h2 : IsInts w b (ints DXt)) (hs : (s : Int) ≤ 9223372036854775807) :
    Calls Try.prog 17 #[.slice a 30 30, .slice b 30 30, .int .i64 s, .int .i64 0] w fun e w' => e = .returned (pairN (distO s)) ∧ ∃ q, w' = w.drewN q := by
  refine (refOf_any a b 30 30 30 0 DBt DXt s w rfl rfl h1 h2 (by decide) hs).mono ?_
  rintro r w' ⟨rfl, hq⟩
  refine ⟨?_, hq⟩
  unfold distO DB DX
  rw [Nat.sub_zero]
  by_cases h : 0 ≤ (s : Int) ∧ (s : Int) ≤ 29
  · rw [if_pos h, if_pos (by omega)]
  · rw [if_neg h, if_neg (by omega)]
theorem lenO_in {s : Nat} (h : 256 < s) (h2 : s ≤ 285) : (lenO s).1 ≠ 0 := by
  unfold lenO
  rw [if_pos (by omega)]
  have := (LB_pos ⟨(s : Int).toNat - 257, by omega⟩).1
  simp only at this
  show LB ((s : Int).toNat - 257) ≠ 0
  omega
theorem distO_in {s : Nat} (h2 : s ≤ 29) : (distO s).1 ≠ 0 := by
  unfold distO
  rw [if_pos (by omega)]
  have := (DB_pos ⟨(s : Int).toNat, by omega⟩).1
  simp only at this
  show DB (s : Int).toNat ≠ 0
  omega
theorem lenO_out {s : Nat} (h : 285 < s) : lenO s = (0, 0) := by unfold lenO; rw [if_neg (by omega)]
theorem distO_out {s : Nat} (h : 29 < s) : distO s = (0, 0) := by unfold distO; rw [if_neg (by omega)]

/-- The position where a code's symbols are bounded. -/
theorem nx_sym (N : List Nat) (T : List Bool) (i : Nat) : (nxG N T i false 15 0 0).1 ≤ N.length := by
  have key : ∀ f k v, (nxG N T i false f k v).1 ≤ N.length := by
    intro f
    induction f with
    | zero => intro k v; simp [nxG]
    | succ f ih =>
      intro k v
      unfold nxG
      split
      · split
        · exact Nat.zero_le _
        · split
          · show (Huf.symsOf N N.length (k + 1)).getD _ 0 ≤ _
            rw [List.getD_eq_getElem?_getD]
            cases hg : (Huf.symsOf N N.length (k + 1))[2 * v + (Bit.tat T (i + k)).toNat - Huf.fst N (k + 1)]? with
            | none => exact Nat.zero_le _
            | some y =>
              have hm := List.mem_of_getElem? hg
              unfold Huf.symsOf at hm
              split at hm
              · simp at hm
              · have := List.mem_range.1 (List.mem_filter.1 hm).1
                simp; omega
          · exact ih _ _
      · exact Nat.zero_le _
  exact key 15 0 0

theorem codes_keep {w w' : World} {b c n i : Nat} {v : Value} {T : List Bool} {e : Bool} {N : List Nat} (hc : CodesAt w c n N) (hr : RfAt w b v T i e) (hg : w.grownBy w' (some b)) : CodesAt w' c n N := rowK hc fun k hk => by
  cases hk
  exact hg.block c hc.lt (fun e => by
    cases e
    obtain ⟨_, h2⟩ := hc
    rcases h2 with ⟨e1, _⟩ | ⟨g', cap, cur, e1, _, h3, _⟩
    · cases e1
    · cases e1
      have := hr.blk
      rw [h3] at this
      simp at this)
theorem ints_keep {w w' : World} {b la i : Nat} {v : Value} {T : List Bool} {e : Bool} {l : List Nat} (h : IsInts w (some ⟨la, 0, none⟩) (ints l)) (hl : 0 < l.length) (hr : RfAt w b v T i e) (hg : w.grownBy w' (some b)) : IsInts w' (some ⟨la, 0, none⟩) (ints l) :=
  ints_block h hg.size fun g off ea hgl => hg.block g hgl (fun eb => by
    cases ea
    cases eb
    obtain ⟨g2, o2, e2, _, hc⟩ := ints_at h rfl hl
    cases e2
    have h1 := hc 0 hl
    have h2 := hr.cells.1
    rw [h1] at h2
    obtain ⟨a, cap, hv, _⟩ := hr.row.shape
    rw [hv] at h2
    simp at h2)
theorem posOf_rf {w : World} {b i : Nat} {v : Value} {T : List Bool} {e : Bool} (h : RfAt w b v T i e) : posOf w b = i := by
  unfold posOf; rw [h.cells.2.1]; simp [intOf]
theorem num_in {o1 o2 : Nat} {T : List Bool} {i : Nat} (h : o1 ≠ 0) : numG (o1, o2) T i = (o1 + rV T i false o2, errI (!rOk T i false o2), rI T i false o2, !rOk T i false o2) := by
  unfold numG; rw [if_neg h]
theorem below_of_drewN (w : World) (q : Nat) : Below w.heap.size w (w.drewN q) := ⟨rfl, rfl, rfl, Nat.le_refl _, fun _ _ => rfl⟩
theorem rv_le (T : List Bool) (i k : Nat) (h : k ≤ 13) : rV T i false k ≤ 8192 := by
  unfold rV
  split
  · have h3 := Bit.num_lt ((T.drop i).take k)
    have h4 : (2 : Nat) ^ ((T.drop i).take k).length ≤ 2 ^ 13 := Nat.pow_le_pow_right (by decide) (by rw [List.length_take]; omega)
    omega
  · omega
theorem rf_set {w : World} {b P o i : Nat} {v u : Value} {T : List Bool} {e : Bool} (h : RfAt w b v T i e) (hP : P ≠ b) (hv : v.ownBlock ≠ some P) : RfAt (w.setCell ⟨P, o, none⟩ u) b v T i e :=
  ⟨by rw [heap_setCell_other w ⟨P, o, none⟩ b u (fun e => hP e.symm)]; exact h.blk, h.row.block fun k hk => heap_setCell_other w ⟨P, o, none⟩ k u (fun e => hv (by rw [hk, e]))⟩

set_option maxHeartbeats 16000000 in
theorem refRead_any (b : Nat) (v : Value) (T : List Bool) (i : Nat) (a1 a2 : Option Addr) (n c1 m c2 : Nat) (L M : List Int) (most : Int) (w : World) (h : RfAt w b v T i false) (hi : i ≤ T.length) (hT : T.length ≤ 8000000)
    (hL : L.length = n) (hM : M.length = m) (iL : IsInts w a1 L) (iM : IsInts w a2 M) (hn : n ≤ 1000000) (hm : m ≤ 1000000) :
    Calls Try.prog 34 #[.pointer (some ⟨b, 0, none⟩), .slice a1 n c1, .slice a2 m c2, .int .i64 most] w fun r w' => ∃ u,
      r = .returned (.tuple #[u, .int .i64 (rdG L M T i most).2.1]) ∧ w'.ownsRow w.heap.size 64 3 u (rdG L M T i most).1.length (cellsT (rdG L M T i most).1) ∧
      w.grownBy w' (some b) ∧ ∃ j bad, RfAt w' b v T j bad ∧ okAt (rdG L M T i most).2.1 (rdG L M T i most).2.2.1 j bad := by
  have H := Lib.hid h
  have IL := Lib.hid iL
  have IM := Lib.hid iM
  have hbw := h.lt
  have hvw : Hid (∀ k, v.ownBlock = some k → k < w.heap.size) := Lib.hid fun k hk => (World.ownsRow.lt h.row k hk).2
  clear h iL iM
  obtain ⟨i0, hi0, hz0, hz1, hz2⟩ := info_parts info_tok
  have K1 := Lib.hid (fun w h => refCheck_any a1 n c1 L w hL h hn)
  have K2 := Lib.hid (fun w h => refCheck_any a2 m c2 M w hM h hm)
  obtain ⟨⟨rl, re, rj, rb⟩, hres⟩ : ∃ res, rdG L M T i most = res := ⟨_, rfl⟩
  rw [hres]
  have HRES := Lib.hid hres
  clear hres
  simp only
  by_cases hff : fine L = true ∧ fine M = true
  · obtain ⟨hf1, hf2⟩ := hff
    have e := HRES.out
    unfold rdG at e
    rw [if_pos ⟨hf1, hf2⟩] at e
    have HE := Lib.hid e
    obtain ⟨p1, f15, u1⟩ := fine_parts hf1
    obtain ⟨p2, g15, u2⟩ := fine_parts hf2
    have U := Lib.hid (And.intro u1 u2)
    have N15 := Lib.hid (And.intro (nats_le f15) (nats_le g15))
    have hNl : (nats L).length = n := by rw [nats_length]; exact hL
    have hMl : (nats M).length = m := by rw [nats_length]; exact hM
    have hn320 : n ≤ 320 := by omega
    have hm320 : m ≤ 320 := by omega
    rw [chk_fine hf1] at K1
    rw [chk_fine hf2] at K2
    generalize 32768 - used (nats L) 15 = left1 at *
    generalize 32768 - used (nats M) 15 = left2 at *
    have G1 := Lib.hid (fun w h => codes_at a1 n c1 L w hL h hf1)
    have G2 := Lib.hid (fun w h => codes_at a2 m c2 M w hM h hf2)
    clear e HRES hf1 hf2 u1 u2 f15 g15
    generalize nats L = N at *
    generalize nats M = K at *
    have HTL := Lib.hid hT
    go_enter Try.func34, Try.ntmps34
    go_wp2_with fail
    refine (K1.out _ IL.out).mono ?_
    rintro r w2 ⟨rfl, rfl⟩
    go_wp2_with fail
    refine (K2.out _ IM.out).mono ?_
    rintro r w2 ⟨rfl, rfl⟩
    go_wp2_with fail
    refine (G1.out _ IL.out).mono ?_
    rintro r w2 ⟨x1, rfl, k1, b2⟩
    have HB2 := Lib.hid b2
    have HC1 := Lib.hid k1
    clear b2 k1 K1 K2 G1
    go_wp2_with fail
    refine (G2.out _ (IM.out.below HB2.out (Nat.le_refl _))).mono ?_
    rintro r w3 ⟨x2, rfl, k2, b3⟩
    have HB3 := Lib.hid (HB2.out.trans (b3.mono HB2.out.size))
    have HCC3 := Lib.hid (And.intro (HC1.out.below b3) k2)
    clear b3 k2 HC1 HB2 G2 IL IM
    go_wp2_with fail
    refine (refLengths_any _).mono ?_
    rintro r w4 ⟨la, lx, rfl, i1, i2, b4⟩
    have HB4 := Lib.hid (HB3.out.trans (b4.mono HB3.out.size))
    have HCC4 := Lib.hid (And.intro (HCC3.out.1.below b4) (HCC3.out.2.below b4))
    have IL4 := Lib.hid (And.intro i1 i2)
    clear b4 i1 i2 HB3 HCC3
    go_wp2_with fail
    refine (refDistances_any _).mono ?_
    rintro r w5 ⟨da, dx, rfl, i3, i4, b5⟩
    have HB5 := Lib.hid (HB4.out.trans (b5.mono HB4.out.size))
    have HCC5 := Lib.hid (And.intro (HCC4.out.1.below b5) (HCC4.out.2.below b5))
    have I5 := Lib.hid (And.intro (IL4.out.1.below b5 (Nat.le_refl _)) (And.intro (IL4.out.2.below b5 (Nat.le_refl _)) (And.intro i3 i4)))
    have HR5 := Lib.hid (H.out.below HB5.out)
    have HBW5 : Hid (b < w5.heap.size) := Lib.hid (Nat.lt_of_lt_of_le hbw HB5.out.size)
    have HVW5 : Hid (∀ k, v.ownBlock = some k → k < w5.heap.size) := Lib.hid fun k hk => Nat.lt_of_lt_of_le (hvw.out k hk) HB5.out.size
    have KEEP : Hid (∀ wr, w5.grownBy wr (some b) → (CodesAt wr x1 n N ∧ CodesAt wr x2 m K) ∧ (IsInts wr (some ⟨la, 0, none⟩) (ints LBt) ∧ IsInts wr (some ⟨lx, 0, none⟩) (ints LXt)) ∧ (IsInts wr (some ⟨da, 0, none⟩) (ints DBt) ∧ IsInts wr (some ⟨dx, 0, none⟩) (ints DXt))) := Lib.hid fun wr hg =>
      ⟨⟨codes_keep HCC5.out.1 HR5.out hg, codes_keep HCC5.out.2 HR5.out hg⟩, ⟨ints_keep I5.out.1 (by decide) HR5.out hg, ints_keep I5.out.2.1 (by decide) HR5.out hg⟩, ints_keep I5.out.2.2.1 (by decide) HR5.out hg, ints_keep I5.out.2.2.2 (by decide) HR5.out hg⟩
    clear b5 i3 i4 HB4 HCC4 IL4 H HCC5 I5
    have HNl := Lib.hid hNl
    have HMl := Lib.hid hMl
    go_wp2_with fail
    go_loopw [20, 21] (fun u md wr => ∃ (j made f : Nat) (acc : List Tok), md = .int .i64 made ∧ readG N K T most f j made acc = (rl, re, rj, rb) ∧ T.length - j < f ∧ j ≤ T.length ∧ acc.length ≤ j ∧ made ≤ 300 * j ∧
      RfAt wr b v T j false ∧ w5.grownBy wr (some b) ∧ wr.ownsRow w5.heap.size 64 3 u acc.length (cellsT acc)) (fun _ _ wr => T.length - posOf wr b)
    case atStart => exact ⟨i, 0, T.length + 1, [], rfl, HE.out, by omega, hi, Nat.zero_le _, Nat.zero_le _, HR5.out, World.grownBy.refl _ _, World.ownsRow_nil _ _ _ _⟩
    case round =>
      obtain ⟨j, made, f, acc, rfl, hrd, hf, hj, hacc, hmade, hr, hg, ho⟩ := hrel
      obtain ⟨f, rfl⟩ : ∃ f', f = f' + 1 := ⟨f - 1, by omega⟩
      obtain ⟨⟨kc1, kc2⟩, ⟨kl1, kl2⟩, kd1, kd2⟩ := KEEP.out wr hg
      have CX := Lib.hid (refSym_any x1 n b j v N T wr hNl hn320 N15.out.1 U.out.1 kc1 hr hj HTL.out)
      have x1' := nx_ok N T j 15 0 0 (by omega)
      have x2' := nx_le N T j false 15 0 0 (by omega)
      have x3' := nx_sym N T j
      have HPJ := Lib.hid (posOf_rf hr)
      generalize hgx : nxG N T j false 15 0 0 = x at *
      obtain ⟨xs, xe, xj, xb⟩ := x
      have HGX := Lib.hid hgx
      simp only at x1' x2' x3' CX
      have HRD := Lib.hid hrd
      have HRF := Lib.hid hr
      have HG := Lib.hid hg
      have HO := Lib.hid ho
      have hmade2 : made ≤ 2400000000 := by have := HTL.out; omega
      have hws : w5.heap.size ≤ wr.heap.size := hg.size
      obtain ⟨al, hal⟩ : ∃ al, acc.length = al := ⟨_, rfl⟩
      have HAL := Lib.hid hal
      rw [hal] at HO hacc
      have hal8 : al ≤ 8000000 := by have := HTL.out; omega
      have hxs330 : xs ≤ 320 := by omega
      clear hrd hr hg ho hgx kc1 kc2 kl1 kl2 kd1 kd2 hal x3'
      obtain ⟨va, vc, rfl⟩ : ∃ ad c, u20 = .slice ad al c := by
        rcases HO.out.2 with ⟨h1, h2⟩ | ⟨g, cap, cur, h1, _⟩
        · exact ⟨none, 0, by rw [h1, h2]⟩
        · exact ⟨_, cap, h1⟩
      go_wp2_with fail
      refine CX.out.mono ?_
      rintro r w6 ⟨rfl, j6, bad6, r6, ok6, g6⟩
      have hbne : ∀ k, (Value.slice va al vc).ownBlock = some k → k ≠ b := fun k hk e => by
        have h1 := HBW5.out
        have h2 := (HO.out.lt k hk).1
        omega
      have HBNE := Lib.hid hbne
      have HG6 := Lib.hid (rgrown_trans HG.out g6)
      have HO6 := Lib.hid (rowK HO.out fun k hk => g6.block k (HO.out.lt k hk).2 (by simp; exact hbne k hk))
      have h56 : w5.heap.size ≤ w6.heap.size := Nat.le_trans hws g6.size
      clear g6 CX HRF HG HO hbne
      by_cases hxe : xe = 0
      · subst hxe
        obtain ⟨rfl, hxj⟩ := x1' rfl
        obtain ⟨rfl, rfl⟩ := ok6 rfl
        have HXJ0 := Lib.hid hxj
        have HRF6 := Lib.hid r6
        clear r6 ok6 x1' hxj
        by_cases hend : xs = 256
        · subst hend
          have e := HRD.out
          rw [readG_end HGX.out] at e
          simp only [Prod.mk.injEq] at e
          obtain ⟨rfl, rfl, rfl, rfl⟩ := e
          have hfin : Hid (w6.ownsRow w.heap.size 64 3 (.slice va al vc) acc.length (cellsT acc) ∧ w.grownBy w6 (some b)) := Lib.hid ⟨by
            rw [HAL.out]
            refine ⟨HO6.out.1, ?_⟩
            rcases HO6.out.2 with h0 | ⟨g, cap, cur, h1, h2, h3⟩
            · exact .inl h0
            · exact .inr ⟨g, cap, cur, h1, Nat.le_trans HB5.out.size h2, h3⟩, rgrown_trans (grown_of HB5.out _) HG6.out⟩
          clear HRD
          rw [show ((256 : Nat) : Int) = 256 from rfl]
          go_wp2_with fail
          go_ret2
          exact ⟨_, rfl, hfin.out.1, hfin.out.2, _, _, HRF6.out, fun _ => ⟨rfl, rfl⟩⟩
        · have hend3 : ((xs : Int) == 256) = false := by simp; omega
          by_cases hbigs : 285 < xs
          · have dbig : decide ((285 : Int) < (xs : Int)) = true := by simp; omega
            have pbig : (285 : Int) < xs := by omega
            have ht : tokG K T j6 xs = (⟨0, 0, 0⟩, 3, j6, false) := tokG_e1 (av := 0) (ab := false) (by omega) (by unfold numG; rw [lenO_out hbigs]; rfl) (by decide)
            have e := HRD.out
            rw [readG_e2 HGX.out hend ht (by decide)] at e
            simp only [Prod.mk.injEq] at e
            obtain ⟨rfl, rfl, rfl, rfl⟩ := e
            have hfin := Lib.hid (rgrown_trans (grown_of HB5.out _) HG6.out)
            clear HRD ht
            go_wp2_with fail
            go_ret2
            exact ⟨_, rfl, World.ownsRow_nil _ _ _ _, hfin.out, _, _, HRF6.out, fun h => by simp at h⟩
          · have dbig : decide ((285 : Int) < (xs : Int)) = false := by simp; omega
            have pbig : ¬ ((285 : Int) < xs) := by omega
            by_cases hlit : xs < 256
            · have dlit : decide ((256 : Int) < (xs : Int)) = false := by simp; omega
              have plit : ¬ ((256 : Int) < xs) := by omega
              obtain ⟨tj, htj⟩ : ∃ tj, j6 = tj := ⟨_, rfl⟩
              have HGT : Hid (tokG K T j6 xs = (⟨xs, 0, 0⟩, 0, tj, false)) := Lib.hid (by rw [tokG_byte hlit, htj])
              have HXJ : Hid (j + 0 + 1 ≤ tj ∧ tj ≤ T.length) := Lib.hid (by rw [← htj]; exact HXJ0.out)
              have bX : Below w6.heap.size w6 (w6.alloc (.cells #[.int .i64 xs, .int .i64 0, .int .i64 0] 64)) := (Below.refl _ _).alloc (Nat.le_refl _) _
              have hX := heap_alloc_new w6 (.cells #[.int .i64 xs, .int .i64 0, .int .i64 0] 64)
              have HRF9 : Hid (RfAt (w6.alloc (.cells #[.int .i64 xs, .int .i64 0, .int .i64 0] 64)) b v T tj false) := Lib.hid (by rw [← htj]; exact HRF6.out.below bX)
              have HO9 := Lib.hid (HO6.out.alloc (.cells #[.int .i64 xs, .int .i64 0, .int .i64 0] 64))
              have HG9 := Lib.hid (rgrown_trans HG6.out (grown_of bX (some b)))
              have hw1 : IntKind.i64.wrap ((made : Int) + 1) = (made : Int) + 1 := IntWalk.i64_in _ (by omega)
              have hsum : made + max (0 : Int).toNat 1 = made + 1 := by simp
              by_cases hbig : most < ((made : Int) + 1)
              · have hbig2 : decide (most < ((made : Int) + 1)) = true := by simp; omega
                have e := HRD.out
                rw [readG_e3 HGX.out hend HGT.out (by show most < ((made + max (⟨xs, 0, 0⟩ : Tok).L.toNat 1 : Nat) : Int); rw [show made + max (⟨xs, 0, 0⟩ : Tok).L.toNat 1 = (made + 1) from hsum]; omega)] at e
                simp only [Prod.mk.injEq] at e
                obtain ⟨rfl, rfl, rfl, rfl⟩ := e
                have hfin := Lib.hid (rgrown_trans (grown_of HB5.out _) HG9.out)
                clear HRD hsum
                go_wp2_with fail
                go_ret2
                exact ⟨_, rfl, World.ownsRow_nil _ _ _ _, hfin.out, _, _, HRF9.out, fun h => by simp at h⟩
              · have hbig2 : decide (most < ((made : Int) + 1)) = false := by simp; omega
                have e := HRD.out
                rw [readG_next HGX.out hend HGT.out (by show ¬ most < ((made + max (⟨xs, 0, 0⟩ : Tok).L.toNat 1 : Nat) : Int); rw [show made + max (⟨xs, 0, 0⟩ : Tok).L.toNat 1 = (made + 1) from hsum]; omega)] at e
                rw [show made + max (⟨xs, 0, 0⟩ : Tok).L.toNat 1 = (made + 1) from hsum] at e
                have HN := Lib.hid e
                have hmm3 : (made + 1) ≤ 300 * tj := by have := HXJ.out; omega
                have hsz : (w6.alloc (.cells #[.int .i64 xs, .int .i64 0, .int .i64 0] 64)).heap.size = w6.heap.size + 1 := by simp
                have LIT := Lib.hid (tok_lit (w := (w6.alloc (.cells #[.int .i64 xs, .int .i64 0, .int .i64 0] 64))) (t := (⟨xs, 0, 0⟩ : Tok)) (T := 64))
                rw [hsz] at LIT
                have FIN : Hid (∀ v6 w6', w6'.ownsRow 0 64 3 v6 (al + 1) (cellsT acc ++ cellsT [(⟨xs, 0, 0⟩ : Tok)]) → ((w6.alloc (.cells #[.int .i64 xs, .int .i64 0, .int .i64 0] 64)).alloc (.cells #[.int .i64 (⟨xs, 0, 0⟩ : Tok).B, .int .i64 (⟨xs, 0, 0⟩ : Tok).L, .int .i64 (⟨xs, 0, 0⟩ : Tok).D] 64)).grownBy w6' (Value.slice va al vc).ownBlock → Lz.Near ((w6.alloc (.cells #[.int .i64 xs, .int .i64 0, .int .i64 0] 64)).alloc (.cells #[.int .i64 (⟨xs, 0, 0⟩ : Tok).B, .int .i64 (⟨xs, 0, 0⟩ : Tok).L, .int .i64 (⟨xs, 0, 0⟩ : Tok).D] 64)) (.slice va al vc) v6 →
                    RfAt w6' b v T tj false ∧ w5.grownBy w6' (some b) ∧ w6'.ownsRow w5.heap.size 64 3 v6 (acc ++ [(⟨xs, 0, 0⟩ : Tok)]).length (cellsT (acc ++ [(⟨xs, 0, 0⟩ : Tok)]))) := Lib.hid fun v6 w6' o6 g6 n6 => by
                  have hown : ∀ k, (Value.slice va al vc).ownBlock = some k → w5.heap.size ≤ k := fun k hk => (HO9.out.lt k hk).1
                  have hb3 : Below (w6.alloc (.cells #[.int .i64 xs, .int .i64 0, .int .i64 0] 64)).heap.size (w6.alloc (.cells #[.int .i64 xs, .int .i64 0, .int .i64 0] 64)) ((w6.alloc (.cells #[.int .i64 xs, .int .i64 0, .int .i64 0] 64)).alloc (.cells #[.int .i64 (⟨xs, 0, 0⟩ : Tok).B, .int .i64 (⟨xs, 0, 0⟩ : Tok).L, .int .i64 (⟨xs, 0, 0⟩ : Tok).D] 64)) := (Below.refl _ _).alloc (Nat.le_refl _) _
                  have hg9 := rgrown_trans HG9.out (grown_of hb3 (some b))
                  have hs9 := hg9.size
                  refine ⟨rf_row (HRF9.out.below hb3) g6 HBW5.out HVW5.out hown, grown_row hg9 g6 hown, ?_⟩
                  rw [cellsT_append, List.length_append, HAL.out]
                  refine ⟨o6.1, ?_⟩
                  rcases o6.2 with h0 | ⟨g, cap, cur, h1, h2, h3⟩
                  · exact .inl h0
                  · refine .inr ⟨g, cap, cur, h1, ?_, h3⟩
                    rcases n6 g (by rw [h1]; rfl) with h | h
                    · exact hown g h
                    · exact Nat.le_trans hs9 h
                clear HRD e hsum
                go_wp2_with (at_builtin; refine Lz.wpList_append_near _ rfl _ _ 32 rfl 64 i0 (.agg #[.int .i64 0, .int .i64 0, .int .i64 0]) 3 24 Try.underlying32 hi0 hz0 hz1 hz2 rfl (by decide) (.slice va al vc) al (cellsT acc) rfl (row0 (HO9.out.alloc _)) ⟨w6.heap.size + 1, 0, none⟩ 1 1 (cellsT [(⟨xs, 0, 0⟩ : Tok)]) rfl rfl LIT.out (cellsT_one _) (by unfold maxLen; omega) (by omega) ?_; intro v6 w6' o6 g6 n6)
                obtain ⟨r6, gg, oo⟩ := FIN.out v6 w6' o6 g6 n6
                have hp6 := posOf_rf r6
                have hpj := HPJ.out
                refine ⟨⟨tj, (made + 1), f, acc ++ [(⟨xs, 0, 0⟩ : Tok)], by push_cast; rfl, HN.out, by have := HXJ.out; omega, by have := HXJ.out; omega, by rw [List.length_append, HAL.out]; have := HXJ.out; simp; omega, hmm3, r6, gg, oo⟩, ?_⟩
                rw [hp6, hpj]
                have := HXJ.out
                omega
            · have dlit : decide ((256 : Int) < (xs : Int)) = true := by simp; omega
              have plit : (256 : Int) < xs := by omega
              have H256 := Lib.hid hlit
              have bX : Below w6.heap.size w6 (w6.alloc (.cells #[.int .i64 xs, .int .i64 0, .int .i64 0] 64)) := (Below.refl _ _).alloc (Nat.le_refl _) _
              have hX := heap_alloc_new w6 (.cells #[.int .i64 xs, .int .i64 0, .int .i64 0] 64)
              have hPsz : w6.heap.size < (w6.alloc (.cells #[.int .i64 xs, .int .i64 0, .int .i64 0] 64)).heap.size := by simp
              have l1 := lenO_small xs
              have l2 := lenO_in (s := xs) (by omega) (by omega)
              have hbP : w6.heap.size ≠ b := by have := HBW5.out; omega
              have hvP : v.ownBlock ≠ some w6.heap.size := fun e => by have := HVW5.out _ e; omega
              have HRP : Hid (∀ k, (Value.slice va al vc).ownBlock = some k → k ≠ w6.heap.size) := Lib.hid fun k hk => by have := (HO6.out.lt k hk).2; omega
              have HRF7 := Lib.hid (HRF6.out.below bX)
              have HO7 := Lib.hid (HO6.out.alloc (.cells #[.int .i64 xs, .int .i64 0, .int .i64 0] 64))
              have HG7 := Lib.hid (rgrown_trans HG6.out (grown_of bX (some b)))
              clear bX
              go_wp2_with fail
              generalize (w6.alloc (.cells #[.int .i64 xs, .int .i64 0, .int .i64 0] 64)) = w7 at *
              clear HRF6 HO6 HG6
              generalize w6.heap.size = P at *
              have CO := Lib.hid (of_len (some ⟨la, 0, none⟩) (some ⟨lx, 0, none⟩) xs w7 (KEEP.out w7 HG7.out).2.1.1 (KEEP.out w7 HG7.out).2.1.2 (by omega))
              generalize hlo : lenO (xs : Int) = o at *
              obtain ⟨o1, o2⟩ := o
              simp only at l1 l2
              have HLO := Lib.hid hlo
              clear hlo
              unfold pairN at CO
              simp only at CO
              refine CO.out.mono ?_
              rintro r w8 ⟨rfl, q8, rfl⟩
              have b8 := below_of_drewN w7 q8
              have hX8 : (w7.drewN q8).heap[P]? = some (.cells #[.int .i64 xs, .int .i64 0, .int .i64 0] 64 (0, 0)) := hX
              have hPsz8 : P < (w7.drewN q8).heap.size := hPsz
              have HRF8 := Lib.hid (HRF7.out.below b8)
              have HO8 := Lib.hid (rowK HO7.out fun k hk => b8.block k (HO7.out.lt k hk).2)
              have HG8 := Lib.hid (rgrown_trans HG7.out (grown_of b8 (some b)))
              generalize w7.drewN q8 = w8 at *
              clear b8 HRF7 HO7 HG7 CO hX hPsz
              have CB := Lib.hid (rfbits_any b v T j6 false o2 w8 HRF8.out (by have := HXJ0.out; omega) (by have := HTL.out; omega))
              rw [cnt_nat o2 (by omega)] at CB
              have hnum := num_in (o1 := o1) (o2 := o2) (T := T) (i := j6) l2
              have hrv := rv_le T j6 o2 (by omega)
              have hrile := Bit.rI_le (bad := false) (k := o2) (show j6 ≤ T.length by have := HXJ0.out; omega)
              have hrige : j6 ≤ rI T j6 false o2 := by unfold rI; split <;> omega
              generalize rV T j6 false o2 = va1 at *
              generalize rI T j6 false o2 = aj at *
              generalize rOk T j6 false o2 = ok1 at *
              have HNUM := Lib.hid hnum
              have hw1 : IntKind.i64.wrap ((o1 : Int) + va1) = ((o1 + va1 : Nat) : Int) := by push_cast; exact IntWalk.i64_in _ (by omega)
              obtain ⟨av, hav⟩ : ∃ av, o1 + va1 = av := ⟨_, rfl⟩
              rw [hav] at hw1 HNUM
              clear hnum hrv
              go_wp2_with fail
              refine CB.out.mono ?_
              rintro r w9 ⟨rfl, r9, g9⟩
              have hX9 := (g9.block P hPsz8 (by simp; exact hbP)).trans hX8
              have HO9 := Lib.hid (rowK HO8.out fun k hk => g9.block k (HO8.out.lt k hk).2 (by simp; exact HBNE.out k hk))
              have HG9 := Lib.hid (rgrown_trans HG8.out g9)
              have hPsz9 : P < w9.heap.size := Nat.lt_of_lt_of_le hPsz8 g9.size
              have HGE : Hid (w5.heap.size ≤ P) := Lib.hid h56
              have f0 : w9.frozen? ⟨P, 0, none⟩ = false := frozen_of_row w9 P 0 _ _ hX9
              have f1 : w9.frozen? ⟨P, 1, none⟩ = false := frozen_of_row w9 P 1 _ _ hX9
              have f2 : w9.frozen? ⟨P, 2, none⟩ = false := frozen_of_row w9 P 2 _ _ hX9
              obtain ⟨c0, c1, c2⟩ := tok_block hX9
              have hXs := store3 hX9 (.int .i64 0) (.int .i64 av) (.int .i64 0)
              have rs := rf_set (o := 2) (u := .int .i64 0) (rf_set (o := 1) (u := .int .i64 av) (rf_set (o := 0) (u := .int .i64 0) r9 hbP hvP) hbP hvP) hbP hvP
              have gs := grown_set (grown_set (grown_set HG9.out HGE.out 0 (.int .i64 0)) HGE.out 1 (.int .i64 av)) HGE.out 2 (.int .i64 0)
              have os : (((w9.setCell ⟨P, 0, none⟩ (.int .i64 0)).setCell ⟨P, 1, none⟩ (.int .i64 av)).setCell ⟨P, 2, none⟩ (.int .i64 0)).ownsRow w5.heap.size 64 3 (.slice va al vc) al (cellsT acc) := rowK HO9.out fun k hk => by
                have hne := HRP.out k hk
                rw [heap_setCell_other _ ⟨P, 2, none⟩ k _ (fun e => hne e), heap_setCell_other _ ⟨P, 1, none⟩ k _ (fun e => hne e), heap_setCell_other _ ⟨P, 0, none⟩ k _ (fun e => hne e)]
              have hPs : P < (((w9.setCell ⟨P, 0, none⟩ (.int .i64 0)).setCell ⟨P, 1, none⟩ (.int .i64 av)).setCell ⟨P, 2, none⟩ (.int .i64 0)).heap.size := by simpa using hPsz9
              have hE9 := rs.cells.2.2.1
              generalize hws9 : ((w9.setCell ⟨P, 0, none⟩ (.int .i64 0)).setCell ⟨P, 1, none⟩ (.int .i64 av)).setCell ⟨P, 2, none⟩ (.int .i64 0) = wa at *
              have HRFa := Lib.hid rs
              have HGa := Lib.hid gs
              have HOa := Lib.hid os
              have HXa := Lib.hid hXs
              clear r9 g9 hX9 HO9 HG9 rs gs os hXs CB HO8 HG8 HRF8 hX8 hPsz8
              cases ok1 with
              | false =>
                have hE9' : wa.cell? ⟨b, 2, none⟩ = some (.int .i64 2) := hE9
                have ht : tokG K T j6 xs = (⟨0, 0, 0⟩, 2, aj, true) := tokG_e1 H256.out (by rw [HLO.out, HNUM.out]; rfl) (by decide)
                have e := HRD.out
                rw [readG_e2 HGX.out hend ht (by decide)] at e
                simp only [Prod.mk.injEq] at e
                obtain ⟨rfl, rfl, rfl, rfl⟩ := e
                have hfin := Lib.hid (rgrown_trans (grown_of HB5.out _) HGa.out)
                clear HRD ht hE9
                go_wp2_with fail
                go_quiet (fail)
                have HRFb := Lib.hid (HRFa.out.draws nq)
                have hfin2 : Hid (w.grownBy (wa.drewN nq) (some b)) := Lib.hid ⟨hfin.out.os, hfin.out.tape, hfin.out.output, hfin.out.size, hfin.out.block⟩
                go_wp2_with fail
                go_ret2
                exact ⟨_, rfl, World.ownsRow_nil _ _ _ _, hfin2.out, _, _, HRFb.out, fun h => by simp at h⟩
              | true =>
                have hE9' : wa.cell? ⟨b, 2, none⟩ = some (.int .i64 0) := hE9
                have HRFa' : Hid (RfAt wa b v T aj false) := Lib.hid HRFa.out
                have HA1 : Hid (numG (lenO (xs : Int)) T j6 = (av, 0, aj, false)) := Lib.hid (by rw [HLO.out, HNUM.out]; rfl)
                have CX := Lib.hid (refSym_any x2 m b aj v K T wa hMl hm320 N15.out.2 U.out.2 (KEEP.out wa HGa.out).1.2 HRFa'.out hrile HTL.out)
                have y1 := nx_ok K T aj 15 0 0 (by omega)
                have y2 := nx_le K T aj false 15 0 0 (by omega)
                have y3 := nx_sym K T aj
                generalize hgy : nxG K T aj false 15 0 0 = y at *
                obtain ⟨ys, ye, yj, yb⟩ := y
                have HGY := Lib.hid hgy
                simp only at y1 y2 y3 CX
                have hys320 : ys ≤ 320 := by omega
                have HAJ : Hid (j6 ≤ aj ∧ aj ≤ T.length) := Lib.hid ⟨hrige, hrile⟩
                clear hgy y3 hE9 HRFa HNUM hrige hrile
                go_wp2_with fail
                refine CX.out.mono ?_
                rintro r wb ⟨rfl, jb, badb, rb1, okb, gb⟩
                have hXb := (gb.block P hPs (by simp; exact hbP)).trans HXa.out
                have HOb := Lib.hid (rowK HOa.out fun k hk => gb.block k (HOa.out.lt k hk).2 (by simp; exact HBNE.out k hk))
                have HGb := Lib.hid (rgrown_trans HGa.out gb)
                have hPszb : P < wb.heap.size := Nat.lt_of_lt_of_le hPs gb.size
                clear gb CX HXa HOa HGa HRFa' hPs hE9' c0 c1 c2 f0 f1 f2
                by_cases hye : ye = 0
                · subst hye
                  obtain ⟨rfl, hyj⟩ := y1 rfl
                  obtain ⟨rfl, rfl⟩ := okb rfl
                  have HYJ := Lib.hid hyj
                  have HRFb := Lib.hid rb1
                  clear rb1 okb y1 hyj
                  by_cases hbd : 29 < ys
                  · have dbd : decide ((29 : Int) < (ys : Int)) = true := by simp; omega
                    have pbd : (29 : Int) < ys := by omega
                    have ht : tokG K T j6 xs = (⟨0, 0, 0⟩, 3, jb, false) := tokG_e3 (dv := 0) (db := false) H256.out HA1.out HGY.out (by unfold numG; rw [distO_out hbd]; rfl) (by decide)
                    have e := HRD.out
                    rw [readG_e2 HGX.out hend ht (by decide)] at e
                    simp only [Prod.mk.injEq] at e
                    obtain ⟨rfl, rfl, rfl, rfl⟩ := e
                    have hfin := Lib.hid (rgrown_trans (grown_of HB5.out _) HGb.out)
                    clear HRD ht
                    go_wp2_with fail
                    go_ret2
                    exact ⟨_, rfl, World.ownsRow_nil _ _ _ _, hfin.out, _, _, HRFb.out, fun h => by simp at h⟩
                  · have dbd : decide ((29 : Int) < (ys : Int)) = false := by simp; omega
                    have pbd : ¬ ((29 : Int) < ys) := by omega
                    have m1 := distO_small ys
                    have m2 := distO_in (s := ys) (by omega)
                    have CO := Lib.hid (of_dist (some ⟨da, 0, none⟩) (some ⟨dx, 0, none⟩) ys wb (KEEP.out wb HGb.out).2.2.1 (KEEP.out wb HGb.out).2.2.2 (by omega))
                    generalize hlo : distO (ys : Int) = o at *
                    obtain ⟨p1', p2'⟩ := o
                    simp only at m1 m2
                    have HDO := Lib.hid hlo
                    clear hlo
                    unfold pairN at CO
                    simp only at CO
                    go_wp2_with fail
                    refine CO.out.mono ?_
                    rintro r wc ⟨rfl, qc, rfl⟩
                    have bc := below_of_drewN wb qc
                    have hXc : (wb.drewN qc).heap[P]? = some (.cells #[.int .i64 0, .int .i64 av, .int .i64 0] 64 (0, 0)) := hXb
                    have hPszc : P < (wb.drewN qc).heap.size := hPszb
                    have HRFc := Lib.hid (HRFb.out.below bc)
                    have HOc := Lib.hid (rowK HOb.out fun k hk => bc.block k (HOb.out.lt k hk).2)
                    have HGc := Lib.hid (rgrown_trans HGb.out (grown_of bc (some b)))
                    generalize wb.drewN qc = wc at *
                    clear bc HRFb HOb HGb CO hXb hPszb
                    have CB := Lib.hid (rfbits_any b v T jb false p2' wc HRFc.out (by have := HYJ.out; omega) (by have := HTL.out; omega))
                    rw [cnt_nat p2' (by omega)] at CB
                    have hnum := num_in (o1 := p1') (o2 := p2') (T := T) (i := jb) m2
                    have hrv := rv_le T jb p2' (by omega)
                    generalize rV T jb false p2' = vd at *
                    generalize rI T jb false p2' = dj at *
                    generalize rOk T jb false p2' = ok2 at *
                    have HNUM := Lib.hid hnum
                    have hw2 : IntKind.i64.wrap ((p1' : Int) + vd) = ((p1' + vd : Nat) : Int) := by push_cast; exact IntWalk.i64_in _ (by omega)
                    obtain ⟨dv, hdv⟩ : ∃ dv, p1' + vd = dv := ⟨_, rfl⟩
                    rw [hdv] at hw2 HNUM
                    clear hnum hrv
                    go_wp2_with fail
                    refine CB.out.mono ?_
                    rintro r wd ⟨rfl, rd1, gd⟩
                    have hXd := (gd.block P hPszc (by simp; exact hbP)).trans hXc
                    have HOd := Lib.hid (rowK HOc.out fun k hk => gd.block k (HOc.out.lt k hk).2 (by simp; exact HBNE.out k hk))
                    have HGd := Lib.hid (rgrown_trans HGc.out gd)
                    have f2 : wd.frozen? ⟨P, 2, none⟩ = false := frozen_of_row wd P 2 _ _ hXd
                    obtain ⟨c0, c1, c2⟩ := tok_block hXd
                    have hXe := heap_setCell_same wd P 2 _ _ (.int .i64 dv) hXd
                    have re1 := rf_set (o := 2) (u := .int .i64 dv) rd1 hbP hvP
                    have ge1 := grown_set HGd.out HGE.out 2 (.int .i64 dv)
                    have oe1 : (wd.setCell ⟨P, 2, none⟩ (.int .i64 dv)).ownsRow w5.heap.size 64 3 (.slice va al vc) al (cellsT acc) := rowK HOd.out fun k hk => by
                      have hne := HRP.out k hk
                      rw [heap_setCell_other _ ⟨P, 2, none⟩ k _ (fun e => hne e)]
                    have hEe := re1.cells.2.2.1
                    generalize hwe : wd.setCell ⟨P, 2, none⟩ (.int .i64 dv) = w9 at *
                    have HO9 := Lib.hid oe1
                    have HG9 := Lib.hid ge1
                    have HRFe := Lib.hid re1
                    clear rd1 gd hXd HOd HGd re1 ge1 oe1 CB HOc HGc HRFc hXc hPszc
                    cases ok2 with
                    | false =>
                      have hEe' : w9.cell? ⟨b, 2, none⟩ = some (.int .i64 2) := hEe
                      have ht : tokG K T j6 xs = (⟨0, 0, 0⟩, 2, dj, true) := tokG_e3 H256.out HA1.out HGY.out (by rw [HDO.out, HNUM.out]; rfl) (by decide)
                      have e := HRD.out
                      rw [readG_e2 HGX.out hend ht (by decide)] at e
                      simp only [Prod.mk.injEq] at e
                      obtain ⟨rfl, rfl, rfl, rfl⟩ := e
                      have hfin := Lib.hid (rgrown_trans (grown_of HB5.out _) HG9.out)
                      clear HRD ht hEe
                      go_wp2_with fail
                      go_quiet (fail)
                      have HRFb := Lib.hid (HRFe.out.draws nq)
                      have hfin2 : Hid (w.grownBy (w9.drewN nq) (some b)) := Lib.hid ⟨hfin.out.os, hfin.out.tape, hfin.out.output, hfin.out.size, hfin.out.block⟩
                      go_wp2_with fail
                      go_ret2
                      exact ⟨_, rfl, World.ownsRow_nil _ _ _ _, hfin2.out, _, _, HRFb.out, fun h => by simp at h⟩
                    | true =>
                      have hEe' : w9.cell? ⟨b, 2, none⟩ = some (.int .i64 0) := hEe
                      obtain ⟨tj, htj⟩ : ∃ tj, dj = tj := ⟨_, rfl⟩
                      obtain ⟨tt, htt⟩ : ∃ tt : Tok, tt = ⟨0, av, dv⟩ := ⟨_, rfl⟩
                      have HRF9 : Hid (RfAt w9 b v T tj false) := Lib.hid (by rw [← htj]; exact HRFe.out)
                      have HGT : Hid (tokG K T j6 xs = (tt, 0, tj, false)) := Lib.hid (by
                        rw [tokG_ok H256.out HA1.out HGY.out (dv := dv) (dj := dj) (db := false) (by rw [HDO.out, HNUM.out]; rfl), htj, htt])
                      have tok := tok_ok K T j6 xs (by have := HXJ0.out; omega) (by rw [HGT.out])
                      rw [HGT.out] at tok
                      obtain ⟨_, t3, t4, t5, t6⟩ := tok
                      simp only at t3 t4 t5 t6
                      have HXJ : Hid (j + 0 + 1 ≤ tj ∧ tj ≤ T.length) := Lib.hid ⟨by have := HXJ0.out; omega, t4⟩
                      have hX9 : w9.heap[P]? = some (.cells #[.int .i64 tt.B, .int .i64 tt.L, .int .i64 tt.D] 64 (0, 0)) := by rw [htt]; exact hXe
                      obtain ⟨c3, c4, c5⟩ := tok_block hX9
                      clear hXe hX9 htt hEe HRFe c0 c1
                      obtain ⟨mx, hmx⟩ : ∃ mx, max tt.L.toNat 1 = mx := ⟨_, rfl⟩
                      have hm1 : max tt.L 1 = (mx : Int) := by omega
                      have hm2 : (if tt.L < 1 then (1 : Int) else tt.L) = (mx : Int) := by split <;> omega
                      have hmx300 : mx ≤ 300 := by omega
                      obtain ⟨mm, hmm⟩ : ∃ mm, made + mx = mm := ⟨_, rfl⟩
                      have hw1 : IntKind.i64.wrap ((made : Int) + mx) = (mm : Int) := by rw [show (made : Int) + mx = (mm : Int) by omega]; exact IntWalk.i64_in _ (by omega)
                      have hsum : made + max tt.L.toNat 1 = mm := by rw [hmx]; exact hmm
                      by_cases hbig : most < (mm : Int)
                      · have hbig2 : decide (most < (mm : Int)) = true := by simp; omega
                        have e := HRD.out
                        rw [readG_e3 HGX.out hend HGT.out (by show most < ((made + max tt.L.toNat 1 : Nat) : Int); rw [show made + max tt.L.toNat 1 = mm from hsum]; omega)] at e
                        simp only [Prod.mk.injEq] at e
                        obtain ⟨rfl, rfl, rfl, rfl⟩ := e
                        have hfin := Lib.hid (rgrown_trans (grown_of HB5.out _) HG9.out)
                        clear HRD hsum hmx hmm
                        go_wp2_with fail
                        go_ret2
                        exact ⟨_, rfl, World.ownsRow_nil _ _ _ _, hfin.out, _, _, HRF9.out, fun h => by simp at h⟩
                      · have hbig2 : decide (most < (mm : Int)) = false := by simp; omega
                        have e := HRD.out
                        rw [readG_next HGX.out hend HGT.out (by show ¬ most < ((made + max tt.L.toNat 1 : Nat) : Int); rw [show made + max tt.L.toNat 1 = mm from hsum]; omega)] at e
                        rw [show made + max tt.L.toNat 1 = mm from hsum] at e
                        have HN := Lib.hid e
                        have hmm3 : mm ≤ 300 * tj := by have := HXJ.out; omega
                        have LIT := Lib.hid (tok_lit (w := w9) (t := tt) (T := 64))
                        have FIN : Hid (∀ v6 w6', w6'.ownsRow 0 64 3 v6 (al + 1) (cellsT acc ++ cellsT [tt]) → (w9.alloc (.cells #[.int .i64 tt.B, .int .i64 tt.L, .int .i64 tt.D] 64)).grownBy w6' (Value.slice va al vc).ownBlock → Lz.Near (w9.alloc (.cells #[.int .i64 tt.B, .int .i64 tt.L, .int .i64 tt.D] 64)) (.slice va al vc) v6 →
                            RfAt w6' b v T tj false ∧ w5.grownBy w6' (some b) ∧ w6'.ownsRow w5.heap.size 64 3 v6 (acc ++ [tt]).length (cellsT (acc ++ [tt]))) := Lib.hid fun v6 w6' o6 g6 n6 => by
                          have hown : ∀ k, (Value.slice va al vc).ownBlock = some k → w5.heap.size ≤ k := fun k hk => (HO9.out.lt k hk).1
                          have hb3 : Below w9.heap.size w9 (w9.alloc (.cells #[.int .i64 tt.B, .int .i64 tt.L, .int .i64 tt.D] 64)) := (Below.refl _ _).alloc (Nat.le_refl _) _
                          have hg9 := rgrown_trans HG9.out (grown_of hb3 (some b))
                          have hs9 := hg9.size
                          refine ⟨rf_row (HRF9.out.below hb3) g6 HBW5.out HVW5.out hown, grown_row hg9 g6 hown, ?_⟩
                          rw [cellsT_append, List.length_append, HAL.out]
                          refine ⟨o6.1, ?_⟩
                          rcases o6.2 with h0 | ⟨g, cap, cur, h1, h2, h3⟩
                          · exact .inl h0
                          · refine .inr ⟨g, cap, cur, h1, ?_, h3⟩
                            rcases n6 g (by rw [h1]; rfl) with h | h
                            · exact hown g h
                            · exact Nat.le_trans hs9 h
                        clear HRD e hsum hmx hmm
                        go_wp2_with (at_builtin; refine Lz.wpList_append_near _ rfl _ _ 32 rfl 64 i0 (.agg #[.int .i64 0, .int .i64 0, .int .i64 0]) 3 24 Try.underlying32 hi0 hz0 hz1 hz2 rfl (by decide) (.slice va al vc) al (cellsT acc) rfl (row0 (HO9.out.alloc _)) ⟨w9.heap.size, 0, none⟩ 1 1 (cellsT [tt]) rfl rfl LIT.out (cellsT_one _) (by unfold maxLen; omega) (by omega) ?_; intro v6 w6' o6 g6 n6)
                        obtain ⟨r6, gg, oo⟩ := FIN.out v6 w6' o6 g6 n6
                        have hp6 := posOf_rf r6
                        have hpj := HPJ.out
                        refine ⟨⟨tj, mm, f, acc ++ [tt], by push_cast; rfl, HN.out, by have := HXJ.out; omega, by have := HXJ.out; omega, by rw [List.length_append, HAL.out]; have := HXJ.out; simp; omega, hmm3, r6, gg, oo⟩, ?_⟩
                        rw [hp6, hpj]
                        have := HXJ.out
                        omega
                · have hye2 : (ye == 0) = false := by simpa using hye
                  have e := HRD.out
                  rw [readG_e2 HGX.out hend (tokG_e2 H256.out HA1.out HGY.out hye) hye] at e
                  simp only [Prod.mk.injEq] at e
                  obtain ⟨rfl, rfl, rfl, rfl⟩ := e
                  have hfin := Lib.hid (rgrown_trans (grown_of HB5.out _) HGb.out)
                  clear HRD y1
                  go_wp2_with fail
                  go_ret2
                  exact ⟨_, rfl, World.ownsRow_nil _ _ _ _, hfin.out, _, _, rb1, fun h => absurd h hye⟩
      · have hxe2 : (xe == 0) = false := by simpa using hxe
        have e := HRD.out
        rw [readG_e1 HGX.out hxe] at e
        simp only [Prod.mk.injEq] at e
        obtain ⟨rfl, rfl, rfl, rfl⟩ := e
        have hfin := Lib.hid (rgrown_trans (grown_of HB5.out _) HG6.out)
        clear HRD x1'
        go_wp2_with fail
        go_ret2
        exact ⟨_, rfl, World.ownsRow_nil _ _ _ _, hfin.out, _, _, r6, fun h => absurd h hxe⟩
  · have e := HRES.out
    unfold rdG at e
    rw [if_neg hff] at e
    simp only [Prod.mk.injEq] at e
    obtain ⟨rfl, rfl, rfl, rfl⟩ := e
    have FIN : Hid (∀ q, w.grownBy (w.drewN q) (some b) ∧ ∃ j bad, RfAt (w.drewN q) b v T j bad ∧ okAt 50 i j bad) := Lib.hid fun q => ⟨⟨rfl, rfl, rfl, Nat.le_refl _, fun _ _ _ => rfl⟩, i, false, H.out.draws q, fun h => by simp at h⟩
    have FIN0 : Hid (w.grownBy w (some b) ∧ ∃ j bad, RfAt w b v T j bad ∧ okAt 50 i j bad) := Lib.hid ⟨World.grownBy.refl _ _, i, false, H.out, fun h => by simp at h⟩
    clear HRES
    cases hf1 : fine L with
    | false =>
      rw [chk_not hf1] at K1
      cases hf2 : fine M with
      | false =>
        rw [chk_not hf2] at K2
        go_enter Try.func34, Try.ntmps34
        go_wp2_with fail
        refine (K1.out _ IL.out).mono ?_
        rintro r w2 ⟨rfl, rfl⟩
        go_wp2_with fail
        refine (K2.out _ IM.out).mono ?_
        rintro r w2 ⟨rfl, rfl⟩
        go_wp2_with fail
        go_ret2
        exact ⟨_, rfl, World.ownsRow_nil _ _ _ _, FIN0.out⟩
      | true =>
        rw [chk_fine hf2] at K2
        generalize 32768 - used (nats M) 15 = left2 at *
        go_enter Try.func34, Try.ntmps34
        go_wp2_with fail
        refine (K1.out _ IL.out).mono ?_
        rintro r w2 ⟨rfl, rfl⟩
        go_wp2_with fail
        refine (K2.out _ IM.out).mono ?_
        rintro r w2 ⟨rfl, rfl⟩
        go_wp2_with fail
        go_ret2
        exact ⟨_, rfl, World.ownsRow_nil _ _ _ _, FIN0.out⟩
    | true =>
      rw [chk_fine hf1] at K1
      generalize 32768 - used (nats L) 15 = left1 at *
      have hf2 : fine M = false := by
        cases h : fine M with
        | false => rfl
        | true => exact absurd ⟨hf1, h⟩ hff
      rw [chk_not hf2] at K2
      clear hff
      go_enter Try.func34, Try.ntmps34
      go_wp2_with fail
      refine (K1.out _ IL.out).mono ?_
      rintro r w2 ⟨rfl, rfl⟩
      go_wp2_with fail
      refine (K2.out _ IM.out).mono ?_
      rintro r w2 ⟨rfl, rfl⟩
      go_wp2_with fail
      go_ret2
      exact ⟨_, rfl, World.ownsRow_nil _ _ _ _, FIN0.out⟩
end Go.Proofs.Ytikfenimgjeplaa.Sym
