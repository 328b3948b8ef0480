/-
  HuffmanBack (layer 5): what is written by codes is decoded again, symbol by symbol.
-/
import Derived.Test.YtildikdoimobhaaRows
import Derived.Test.YtildikdoimobhaaHufBack
import Derived.WalkKit
import Derived.ProofKit
import Derived.OpenShut
import Derived.ShutString
import Derived.ChangeOld
import Derived.Below
import Derived.Lib.SmallJoins
import Derived.Deep.Slices
namespace Go.Proofs.Ytildikdoimobhaa.huffmanBack
open Go.Proofs.Ytildikdoimobhaa.Huf
open Go.ChangeShapes Go.WideShapes Go.ChangeAt Go.RowKit
open Go.ChangeMaps (open_string shut_string)
set_option linter.unusedVariables false

theorem own : ownKnob Try.prog.godebug = none := by kernel_rfl
theorem laidOut : laidOutB Try.prog = true := by kernel_rfl

open Go.Proofs.Ytildikdoimobhaa
open Go.Proofs.Ytildikdoimobhaa.Bit (tb RdAt rnew_any rat_any WrAt wcode_any wstring_any wlen_any pack pad tbits_packed tb_length fre)
theorem rd_below {w w' : World} {b : Nat} {t : ByteArray} {i n : Nat} {e : Bool} (h : RdAt 69 w b t i e) (k : Below n w w') (hn : b < n) : RdAt 69 w' b t i e := by
  unfold RdAt at *; rw [k.block b hn]; exact h
theorem rd_lt {w : World} {b : Nat} {t : ByteArray} {i : Nat} {e : Bool} (h : RdAt 69 w b t i e) : b < w.heap.size := (Array.getElem?_eq_some_iff.1 h).1

set_option maxRecDepth 100000 in
set_option maxHeartbeats 8000000 in
theorem early (a a2 : Option Addr) (n cap n2 cap2 : Nat) (W : World) (hmax : n ≤ 2 ^ 63 - 1) (hmax2 : n2 ≤ 2 ^ 63 - 1) (h : 340 < n ∨ 340 < n2) :
    Calls Try.prog 6 #[.slice a n cap, .slice a2 n2 cap2] W fun e w' => e = .returned (.bool true) ∧ Below W.heap.size W w' := by
  by_cases h1 : 340 < n
  · have h1' : (340 : Int) < n := by omega
    clear h
    go_enter Try.func6, Try.ntmps6
    go_wp2_with fail
    refine (works_any _).mono ?_
    rintro r w1 ⟨rfl, b1⟩
    go_wp2_with fail
    all_goals (go_ret; exact ⟨rfl, b1⟩)
  have h1' : ¬ ((340 : Int) < n) := by omega
  have h2 : (340 : Int) < n2 := by omega
  clear h
  go_enter Try.func6, Try.ntmps6
  go_wp2_with fail
  refine (works_any _).mono ?_
  rintro r w1 ⟨rfl, b1⟩
  go_wp2_with fail
  all_goals (go_ret; exact ⟨rfl, b1⟩)

set_option maxRecDepth 100000 in
set_option maxHeartbeats 8000000 in
theorem walk (a a2 : Option Addr) (n cap n2 cap2 : Nat) (L L2 : List Int) (W : World) (h : L.length = n ∧ n ≤ maxLen ∧ IsInts W a L ∧ ∀ x ∈ L, (Lit.int .i64 x).wf = true) (h2 : L2.length = n2 ∧ n2 ≤ maxLen ∧ IsInts W a2 L2 ∧ ∀ x ∈ L2, (Lit.int .i64 x).wf = true) :
    Calls Try.prog 6 #[.slice a n cap, .slice a2 n2 cap2] W fun e w' => e = .returned (.bool true) ∧ Below W.heap.size W w' := by
  obtain ⟨hn, hmax, hI, _⟩ := h
  obtain ⟨hn2, hmax2, hI2, _⟩ := h2
  unfold maxLen at hmax hmax2
  by_cases hg : 340 < n ∨ 340 < n2
  · exact early a a2 n cap n2 cap2 W hmax hmax2 hg
  have hb1 : ¬ ((340 : Int) < n) := by omega
  have hb2 : ¬ ((340 : Int) < n2) := by omega
  have db1 : decide ((340 : Int) < n) = false := by simp; omega
  have db2 : decide ((340 : Int) < n2) = false := by simp; omega
  have hn340 : n ≤ 340 ∧ n2 ≤ 340 := by omega
  have HI := Lib.hid hI
  have HJ := Lib.hid hI2
  clear hI hI2 hmax hmax2 hg
  by_cases hf : fine L = true
  · obtain ⟨f1, f2, f3⟩ := fine_parts hf
    have C3 := Lib.hid (fun w h => codes_good a n cap L w hn h hf)
    have C1 := Lib.hid (fun w h => new_good a n cap L w hn h hf)
    have hN : (nats L).length = n := by rw [nats_length]; exact hn
    have h15 := nats_le f2
    have HIN : Hid (IsInts W a ((nats L).map fun (x : Nat) => (x : Int))) := Lib.hid (by rw [← nats_cast f2]; exact HI.out)
    generalize nats L = N at *
    have HU := Lib.hid f3
    have H15 := Lib.hid h15
    have HSM : Hid (∀ i, i < N.length → N.getD i 0 ≤ 15 ∧ codeV N i < 2 ^ N.getD i 0) := Lib.hid (fun i hi => by
      have g : N.getD i 0 = N[i] := by rw [List.getD_eq_getElem?_getD, List.getElem?_eq_getElem hi]; rfl
      by_cases h0 : N.getD i 0 = 0
      · unfold codeV; rw [if_pos h0, h0]; decide
      · rw [g] at h0 ⊢
        exact ⟨h15 _ (List.getElem_mem _), codeV_lt N i N[i] hi rfl (by omega) (h15 _ (List.getElem_mem _)) f3⟩)
    have hn320 : n ≤ 320 := by omega
    clear hf f1 f2 f3 h15
    go_enter Try.func6, Try.ntmps6
    go_wp2_with fail
    refine (works_any _).mono ?_
    rintro r w1 ⟨rfl, b1⟩
    have B1 := Lib.hid b1
    clear b1
    go_wp2_with fail
    refine (C3.out _ (HI.out.below B1.out (Nat.le_refl _))).mono ?_
    rintro r w2 ⟨bc, rfl, b2, o2⟩
    have B2 := Lib.hid (B1.out.trans (b2.mono B1.out.size))
    have O2 := Lib.hid (row0 o2)
    clear b2 o2 B1 C3
    go_wp2_with fail
    refine (C1.out _ (HI.out.below B2.out (Nat.le_refl _))).mono ?_
    rintro r w3 ⟨D, S, rfl, b3, hD, d3⟩
    have B3 := Lib.hid (B2.out.trans (b3.mono B2.out.size))
    have D3 := Lib.hid d3
    have O3 := Lib.hid (ownsRow_blockK O2.out (fun j hj => b3.block j (O2.out.lt j hj).2))
    have HJ3 := Lib.hid (HJ.out.below B3.out (Nat.le_refl _))
    have HN3 := Lib.hid (HIN.out.below B3.out (Nat.le_refl _))
    clear b3 d3 B2 O2 C1 hD HI HJ HIN
    go_wp2_with fail
    go_loopw [11] (fun i wr => ∃ (j : Nat) (v : Value), j ≤ n2 ∧ i = .int .i64 j ∧ WrAt wr w3.heap.size v (wrote N ((nats L2).take j)) ∧ (wrote N ((nats L2).take j)).length ≤ 15 * j ∧ (∀ q, q < j → 0 ≤ L2.getD q 0 ∧ (nats L2).getD q 0 < n ∧ N.getD ((nats L2).getD q 0) 0 ≠ 0) ∧ Below w3.heap.size w3 wr ∧ (∀ k, v.ownBlock = some k → w3.heap.size ≤ k)) (fun i _ => n2 - (intOf i).toNat)
    case atStart => exact ⟨0, .slice none 0 0, Nat.zero_le _, rfl, (show WrAt _ _ _ [] from ⟨heap_alloc_new _ _, World.ownsRow_nil _ _ _ _⟩), Nat.zero_le _, fun q h => by omega, (Below.refl _ _).alloc (Nat.le_refl _) _, fun k h => by cases h⟩
    case round =>
      obtain ⟨j, v, hj, rfl, hw, hlen, hgood, hbe, hoff⟩ := hrel
      have HWR := Lib.hid hw
      have HGD := Lib.hid hgood
      have HBE := Lib.hid hbe
      have HOF := Lib.hid hoff
      have HBW := Lib.hid (B3.out.trans (hbe.mono B3.out.size))
      clear hw hgood hbe hoff
      by_cases hlt : j < n2
      · have hlt' : (j : Int) < n2 := by omega
        obtain ⟨b, off, rfl, hbl, hcs⟩ := HJ3.out (by omega)
        have e0 := (HBE.out.cell (p := ⟨b, off + j, none⟩) hbl).trans (hcs j (by omega))
        have hgd : L2.getD j 0 = L2[j] := by rw [List.getD_eq_getElem?_getD, List.getElem?_eq_getElem (by omega)]; rfl
        have hgn : (nats L2).getD j 0 = L2[j].toNat := by
          unfold nats
          rw [List.getD_eq_getElem?_getD, List.getElem?_map, List.getElem?_eq_getElem (by omega)]; rfl
        have hnj : (nats L2)[j]'(by rw [nats_length]; omega) = L2[j].toNat := by unfold nats; simp
        have WT := Lib.hid (wrote_take N (nats L2) j (by rw [nats_length]; omega))
        rw [hnj] at WT
        have HG2 := Lib.hid hgd
        have HGN := Lib.hid hgn
        clear hcs hgd hgn hnj
        generalize L2[j] = y at *
        by_cases y0 : y < 0
        · go_wp2_with fail
          go_ret
          exact ⟨rfl, HBW.out⟩
        · have d0 : decide (y < 0) = false := by simp; omega
          obtain ⟨z, rfl⟩ : ∃ z : Nat, y = z := ⟨y.toNat, by omega⟩
          by_cases hzn : n ≤ z
          · have hzn' : (n : Int) ≤ z := by omega
            have d1 : decide ((n : Int) ≤ z) = true := by simp; omega
            go_wp2_with fail
            go_ret
            exact ⟨rfl, HBW.out⟩
          · have hzn' : (z : Int) < n := by omega
            have d1 : decide ((n : Int) ≤ z) = false := by simp; omega
            obtain ⟨b2, off2, rfl, hbl2, hcs2⟩ := getD_cell HN3.out (by omega)
            have e1 := (HBE.out.cell (p := ⟨b2, off2 + z, none⟩) hbl2).trans (hcs2 z (by omega))
            have hsm := HSM.out z (by omega)
            have dz := rowC_get n (codeV N) (fun i => N.getD i 0) z (by omega)
            have hbc : bc < w3.heap.size := (O3.out.lt bc rfl).2
            have a1 := (HBE.out.cell (p := ⟨bc, z * 2, none⟩) hbc).trans ((O3.out.cellAt (z * 2) (by omega)).trans dz.1)
            have a2 := (HBE.out.cell (p := ⟨bc, z * 2 + 1, none⟩) hbc).trans ((O3.out.cellAt (z * 2 + 1) (by omega)).trans dz.2)
            have HZ : Hid (N.getD z 0 = N.getD (Int.toNat z) 0) := Lib.hid (by simp)
            obtain ⟨l, hl⟩ : ∃ l, N.getD z 0 = l := ⟨_, rfl⟩
            obtain ⟨c, hc⟩ : ∃ c, codeV N z = c := ⟨_, rfl⟩
            rw [hl] at e1 a2 hsm
            rw [hc] at a1 hsm
            have HL := Lib.hid hl
            have HC := Lib.hid hc
            clear hcs2 dz hl hc
            by_cases l0 : l = 0
            · subst l0
              go_wp2_with fail
              go_ret
              exact ⟨rfl, HBW.out⟩
            · have l0' : ((l : Int) == 0) = false := by simp; omega
              have CW := Lib.hid (wcode_any w3.heap.size v _ c l wr HWR.out (by omega))
              go_wp2_with fail
              refine CW.out.mono ?_
              rintro r w5 ⟨rfl, v', hw5, hbut, hnear⟩
              have hWT : wrote N ((nats L2).take (j + 1)) = wrote N ((nats L2).take j) ++ Bit.codeBits c l := by
                rw [WT.out, Int.toNat_natCast, HC.out, HL.out]
              have H1 : Hid (WrAt w5 w3.heap.size v' (wrote N ((nats L2).take (j + 1)))) := Lib.hid (by rw [hWT]; exact hw5)
              have H2 : Hid ((wrote N ((nats L2).take (j + 1))).length ≤ 15 * (j + 1)) := Lib.hid (by
                rw [hWT, List.length_append]
                have := (bigN_code c l hsm.1 hsm.2).2
                omega)
              have H3 : Hid (∀ q, q < j + 1 → 0 ≤ L2.getD q 0 ∧ (nats L2).getD q 0 < n ∧ N.getD ((nats L2).getD q 0) 0 ≠ 0) := Lib.hid (fun q hq => by
                by_cases e : q = j
                · subst e
                  rw [HG2.out, HGN.out]
                  refine ⟨by omega, by omega, ?_⟩
                  rw [← HZ.out, HL.out]; exact l0
                · exact HGD.out q (by omega))
              have H4 : Hid (Below w3.heap.size w3 w5) := Lib.hid (HBE.out.trans ⟨hbut.os, hbut.tape, hbut.output, hbut.size, fun k hk => hbut.block k (by have := HBE.out.size; omega) (by omega) (fun e => by have := HOF.out k e.symm; omega)⟩)
              have H5 : Hid (∀ k, v'.ownBlock = some k → w3.heap.size ≤ k) := Lib.hid (fun k hk => by
                rcases hnear k hk with e | e
                · exact HOF.out k e
                · have := HBE.out.size; omega)
              clear hw5 hbut hnear hWT CW HWR HGD HBE HOF HBW WT
              go_wp2_with fail
              refine ⟨⟨j + 1, v', by omega, by go_num, H1.out, H2.out, H3.out, H4.out, H5.out⟩, ?_⟩
              simp [intOf]; omega
      · obtain rfl : j = n2 := by omega
        go_wp2_with fail
        have htk : (nats L2).take j = nats L2 := List.take_of_length_le (by rw [nats_length]; omega)
        have HW0 := Lib.hid HWR.out
        rw [htk] at HW0
        rw [htk] at hlen
        refine (wstring_any _ v _ wr HW0.out).mono ?_
        rintro r w5 ⟨rfl, rfl⟩
        obtain ⟨t, ht⟩ : ∃ t : ByteArray, (⟨(pack (wrote N (nats L2))).toArray⟩ : ByteArray) = t := ⟨_, rfl⟩
        have htb : tb t = wrote N (nats L2) ++ List.replicate (fre (wrote N (nats L2))) false := by
          rw [← ht]; unfold tb; exact tbits_packed _
        have hts : t.size ≤ 1000000 := by
          have h1 := tb_length t
          rw [htb, List.length_append, List.length_replicate] at h1
          have : fre (wrote N (nats L2)) ≤ 7 := by unfold fre; omega
          omega
        rw [ht]
        have HTB := Lib.hid htb
        clear ht htb htk
        go_wp2_with fail
        refine (rnew_any t wr).mono ?_
        rintro r w6 ⟨rfl, hr, b6⟩
        have b36 : Below w3.heap.size w3 w6 := HBE.out.trans (b6.mono HBE.out.size)
        have B6 := Lib.hid (B3.out.trans (b36.mono B3.out.size))
        have D6 := Lib.hid (D3.out.below b36 (Nat.le_refl _))
        have HJ6 := Lib.hid (HJ3.out.below b36 (Nat.le_refl _))
        have HB36 := Lib.hid b36
        have HW6 : Hid (WrAt w6 w3.heap.size v (wrote N (nats L2))) := Lib.hid (Bit.WrRaw.below HW0.out b6)
        have R6 := Lib.hid hr
        have hw3 : w3.heap.size < wr.heap.size := Bit.WrRaw.lt HW0.out
        have hvo : ∀ k, v.ownBlock = some k → k < wr.heap.size := fun k hk => (HW0.out.own.lt k hk).2
        have HVO := Lib.hid hvo
        have hWs : W.heap.size ≤ wr.heap.size := HBW.out.size
        clear hr b6 b36 HWR HW0 HBE D3 HBW HOF hvo
        generalize wr.heap.size = br at *
        go_wp2_with fail
        go_loopw [13] (fun i wx => ∃ q : Nat, q ≤ j ∧ i = .int .i64 q ∧ RdAt 69 wx br t (wrote N ((nats L2).take q)).length false ∧ w6.grownBy wx (some br)) (fun i _ => j - (intOf i).toNat)
        case atStart => exact ⟨0, Nat.zero_le _, rfl, R6.out, World.grownBy.refl _ _⟩
        case round =>
          obtain ⟨q, hq, rfl, hrd, hgr⟩ := hrel
          have HBX := Lib.hid (B6.out.grown hgr B6.out.size (fun k hk => by cases hk; exact hWs))
          have HGR := Lib.hid hgr
          by_cases hlt : q < j
          · have hlt' : (q : Int) < j := by omega
            have hqL : q < (nats L2).length := by rw [nats_length]; omega
            obtain ⟨g1, g2, g3⟩ := HGD.out q hlt
            have hgz : (nats L2).getD q 0 = (nats L2)[q] := by rw [List.getD_eq_getElem?_getD, List.getElem?_eq_getElem hqL]; rfl
            rw [hgz] at g2 g3
            have hgy : L2.getD q 0 = ((nats L2)[q] : Int) := by
              have h1 : (nats L2)[q] = L2[q].toNat := by simp [nats]
              rw [List.getD_eq_getElem?_getD, List.getElem?_eq_getElem (by omega)] at g1 ⊢
              have h2 : (0 : Int) ≤ L2[q] := g1
              show L2[q] = _
              rw [h1]; omega
            have hsm := HSM.out (nats L2)[q] (by omega)
            obtain ⟨k1, k2, k3⟩ := next_wrote N (nats L2) (List.replicate (fre (wrote N (nats L2))) false) q hqL hsm.1 hsm.2
            rw [← HTB.out] at k1 k2
            have hdx : DecAt wr D S (fst N) (used N 15) (symsOf N N.length) := by
              rw [hN]; exact D6.out.grown hgr R6.out (by decide) (by decide)
            have CN := Lib.hid (next_any D S N br t _ false wr hdx hrd (by omega) (by omega) (by omega) HU.out)
            have hgN : N.getD (nats L2)[q] 0 = N[(nats L2)[q]]'(by omega) := by rw [List.getD_eq_getElem?_getD, List.getElem?_eq_getElem (by omega)]; rfl
            rw [nx_code N (tb t) _ (nats L2)[q] (N.getD (nats L2)[q] 0) H15.out (by omega) hgN.symm (by omega) k2 k1, ← k3] at CN
            obtain ⟨b, off, rfl, hbl, hcs⟩ := HJ3.out (by omega)
            have hL2q : L2[q] = ((nats L2)[q] : Int) := by
              rw [← hgy, List.getD_eq_getElem?_getD, List.getElem?_eq_getElem (by omega)]; rfl
            have hbs := HB36.out.size
            have e0 : wr.cell? ⟨b, off + q, none⟩ = some (.int .i64 ((nats L2)[q] : Nat)) := by
              rw [World.cell?_of_block (a := ⟨b, off + q, none⟩) (hgr.block b (by omega) (by simp; omega)), HB36.out.cell (p := ⟨b, off + q, none⟩) hbl, hcs q (by omega), hL2q]
            have hb6 : b < wr.heap.size := by have := hgr.size; omega
            clear k1 k2 k3 hsm hdx hgz hgN g1 g2 g3 hgy hcs hrd hgr hL2q
            generalize (nats L2)[q] = z at *
            have hzz : ((z : Int) == z) = true := by simp
            go_wp2_with fail
            refine CN.out.mono ?_
            rintro r w8 ⟨rfl, r8, g8⟩
            have e8 := (World.cell?_of_block (a := ⟨b, off + q, none⟩) (g8.block b hb6 (by simp; omega))).trans e0
            have R8 := Lib.hid r8
            have G8 := Lib.hid (HGR.out.trans g8)
            clear r8 g8 CN HGR e0
            go_wp2_with fail
            refine ⟨⟨q + 1, by omega, by go_num, R8.out, G8.out⟩, ?_⟩
            simp [intOf]; omega
          · obtain rfl : q = j := by omega
            have htk : (nats L2).take q = nats L2 := List.take_of_length_le (by rw [nats_length]; omega)
            rw [htk] at hrd
            have hW9 : WrAt wr w3.heap.size v (wrote N (nats L2)) := ⟨by rw [hgr.block _ (by have := HB36.out.size; have h := Bit.WrRaw.lt HW6.out; exact h) (by simp; omega)]; exact HW6.out.blk, ownsRow_blockK HW6.out.own (fun k hk => hgr.block k (HW6.out.own.lt k hk).2 (fun e => by cases e; have := HVO.out _ hk; omega))⟩
            have CA := Lib.hid (rat_any br t _ false wr hrd)
            have CL := Lib.hid (wlen_any w3.heap.size v _ wr hW9 (by omega))
            clear hrd hgr hW9 htk HGR
            generalize (wrote N (nats L2)).length = len at *
            have hll : ((len : Int) == len) = true := by simp
            go_wp2_with fail
            refine CA.out.mono ?_
            rintro r w9 ⟨rfl, rfl⟩
            go_wp2_with fail
            refine CL.out.mono ?_
            rintro r w9 ⟨rfl, t9, rfl⟩
            go_wp2_with fail
            go_ret
            exact ⟨rfl, HBX.out.os, HBX.out.tape, HBX.out.output, HBX.out.size, HBX.out.block⟩
  · have hf' : fine L = false := by simpa using hf
    have C3 := Lib.hid (fun w h => codes_bad a n cap L w hn h (by omega) hf')
    have C1 := Lib.hid (fun w h => new_bad a n cap L w hn h (by omega) hf')
    clear hf hf' HJ
    go_enter Try.func6, Try.ntmps6
    go_wp2_with fail
    refine (works_any _).mono ?_
    rintro r w1 ⟨rfl, b1⟩
    have B1 := Lib.hid b1
    clear b1
    go_wp2_with fail
    refine (C3.out _ (HI.out.below B1.out (Nat.le_refl _))).mono ?_
    rintro r w2 ⟨rfl, b2⟩
    have B2 := Lib.hid (B1.out.trans (b2.mono B1.out.size))
    clear b2 B1 C3
    go_wp2_with fail
    refine (C1.out _ (HI.out.below B2.out (Nat.le_refl _))).mono ?_
    rintro r w3 ⟨rfl, b3⟩
    have B3 := Lib.hid (B2.out.trans (b3.mono B2.out.size))
    clear b3 B2 C1
    go_wp2_with fail
    go_ret
    exact ⟨rfl, B3.out⟩

set_option maxRecDepth 100000 in
theorem lifted (os : Os) (started : os.Started) (H : Type) (enc : TypeId × Value → H) :
    ReturnsInHanded {} Try.checked os 6 .any (Rows.huffmanBackSpec.pre6 enc Try.prog Try.f6 Rows.huffmanBackRow.domain false) (Rows.huffmanBackSpec.post enc Try.prog Try.f6 false true false false) := by
  refine returnsInHanded_of_change (C := Try.checked) own started (by kernel_rfl) Try.func6
    (ChangeSpec.witness6 (enc := enc) (C := Try.checked) false ⟨#[], #[.slice none 0 0, .slice none 0 0], []⟩ 8 (by kernel_rfl) (by kernel_rfl) (by kernel_rfl) (by kernel_rfl)) ?_
  intro W base args ds gs before hval0 hW hcnd _
  have hval : ∀ (j : Nat) t v, Try.f6.params[j]? = some t → args[j]? = some v → Value.okWide Try.prog W .any base t v := hval0
  have hW' := hW
  obtain ⟨p, q, hA0, hV, rfl, hfz, hnd⟩ := hW
  have hA : DataW.TrodAll enc Try.prog W 0 (fun _ => true) true Try.f6.params.toList args.toList ds p := hA0
  rw [Try.params6] at hA hval
  obtain ⟨v0, vs0, d0, ds0, p0, q0, hargs, rfl, rfl, h0, r0⟩ := trodAll_cons hA
  obtain ⟨v1, vs1, d1, ds1, p1, q1, rfl, rfl, rfl, h1, r1⟩ := trodAll_cons r0
  obtain ⟨rfl, rfl, rfl⟩ := trodAll_nil r1
  obtain rfl : args = #[v0, v1] := by cases args; simp_all
  obtain ⟨rfl, rfl⟩ := trodVars_none hV
  have k0 := h0
  have lt0 : ∀ x ∈ p0, x.block < W.heap.size := by obtain ⟨m, hm⟩ := k0; exact DataW.trod_lt m _ _ _ hm
  obtain ⟨a0, len0, cap0, rfl⟩ := okWide_slice Try.underlying22 (hval 0 22 v0 rfl rfl)
  obtain ⟨A0, w0⟩ := ints_see h0
  have k1 := h1
  have lt1 : ∀ x ∈ p1, x.block < W.heap.size := by obtain ⟨m, hm⟩ := k1; exact DataW.trod_lt m _ _ _ hm
  obtain ⟨a1, len1, cap1, rfl⟩ := okWide_slice Try.underlying22 (hval 1 22 v1 rfl rfl)
  obtain ⟨A1, w1⟩ := ints_see h1
  clear hA0 hval0
  refine (walk a0 a1 len0 cap0 len1 cap1 A0 A1 W w0 w1).mono fun e W' ⟨he, bel⟩ => ?_
  subst he
  exact ⟨_, rfl, _, _, _, [], _, [], hW', trodAll_mk1 (shut_bool Try.underlying4 _), (trodAll_cons_mk (Below.trod laidOut (by kernel_rfl) (of_decide_eq_true (by kernel_rfl)) k0 bel lt0) (trodAll_cons_mk (Below.trod laidOut (by kernel_rfl) (of_decide_eq_true (by kernel_rfl)) k1 bel lt1) trodAll_mk0)), rfl, bel.frame _, fun h => by cases h⟩

theorem over : Rows.huffmanBackRow.holds Try.pinned (OpenSpec.ofChange Rows.huffmanBackSpec) :=
  OpenClaim.holds_of_wide 6 Try.f6 rfl rfl rfl rfl rfl rfl rfl ⟨rfl, rfl, rfl, rfl, rfl⟩ rfl rfl rfl rfl rfl (by kernel_rfl) Try.func6 (by kernel_rfl)
    (of_decide_eq_true (by kernel_rfl)) (by unfold Func.isWrapper; first | (rw [if_pos (by decide +kernel)]; kernel_rfl) | (rw [if_neg (by decide +kernel)]; exact ⟨rfl, rfl⟩))
    (fun os started H enc _ => lifted os started H enc)

theorem proved : Rows.HuffmanBackSaid := over
end Go.Proofs.Ytildikdoimobhaa.huffmanBack
