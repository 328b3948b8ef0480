/-
  How often each symbol comes: contract of the reference's Count.
-/
import Derived.Test.YtikfenimgjeplaaSymCount
namespace Go.Proofs.Ytikfenimgjeplaa.Sym
open Go.ChangeShapes Go.WideShapes Go.ChangeAt Go.RowKit
open Go.Proofs.Ytikfenimgjeplaa.Huf (IsInts info_int info_parts)
open Go.Proofs.Ytikfenimgjeplaa.Lz (Tok okT tokC IsToks TokAt valid_any refValid_any okT_byte okT_piece)
set_option linter.unusedVariables false
set_option maxRecDepth 100000

theorem litC_nil (s : Nat) : litC [] s = if s = 256 then 1 else 0 := by rw [litC_eq]; simp [litsOf]
theorem litC_le (l : List Tok) (s : Nat) : litC l s ≤ l.length + 1 := by
  rw [litC_eq]; have := lits_le l s; split <;> omega

set_option maxHeartbeats 4000000 in
theorem refCount_any (a : Option Addr) (l : List Tok) (n cap : Nat) (w : World) (hn : l.length = n) (h : IsToks w a l) (hl : n ≤ 1000000) :
    Calls Try.prog 20 #[.slice a n cap] w fun e w' => ∃ g1 g2, e = .returned (.tuple #[.slice (some ⟨g1, 0, none⟩) 286 286, .slice (some ⟨g2, 0, none⟩) 30 30]) ∧ AtN w' g1 286 (litC l) ∧ AtN w' g2 30 (dstC l) ∧ Below w.heap.size w w' := by
  have H := Lib.hid h
  clear h
  have m1 : ∀ w, (Instr.makeSlice 25 (.int .i64 286) (.int .i64 286)).run Try.prog w = .ok (.slice (some ⟨w.heap.size, 0, none⟩) 286 286) (w.alloc (.cells (rowN 286 fun _ => 0) 3)) := make_ints 286 (by decide)
  have m2 : ∀ w, (Instr.makeSlice 25 (.int .i64 30) (.int .i64 30)).run Try.prog w = .ok (.slice (some ⟨w.heap.size, 0, none⟩) 30 30) (w.alloc (.cells (rowN 30 fun _ => 0) 3)) := make_ints 30 (by decide)
  obtain ⟨B, hB⟩ : ∃ B, w.heap.size = B := ⟨_, rfl⟩
  have HBW := Lib.hid hB
  clear hB
  have e1 : (rowN 286 fun _ => 0).setIfInBounds 256 (.int .i64 1) = rowN 286 (litC []) := by
    rw [show (rowN 286 fun _ => 0).setIfInBounds 256 (.int .i64 1) = rowN 286 (fun i => if i = 256 then 1 else 0) from rowN_set 286 (fun _ => 0) 256 1]
    exact rowN_congr fun j _ => (litC_nil j).symm
  have E1 := Lib.hid e1
  clear e1
  go_enter Try.func20, Try.ntmps20
  go_wp2_with fail
  rw [E1.out]
  obtain ⟨A1, A2, BB0⟩ := two_rows w 286 30 (litC []) (fun _ => 0)
  have A1 : AtN ((w.alloc (.cells (rowN 286 (litC [])) 3)).alloc (.cells (rowN 30 fun _ => 0) 3)) w.heap.size 286 (litC []) := A1
  have A2 : AtN ((w.alloc (.cells (rowN 286 (litC [])) 3)).alloc (.cells (rowN 30 fun _ => 0) 3)) (w.heap.size + 1) 30 (fun _ => 0) := A2
  have BB1 : Below w.heap.size w ((w.alloc (.cells (rowN 286 (litC [])) 3)).alloc (.cells (rowN 30 fun _ => 0) 3)) := ⟨BB0.os, BB0.tape, BB0.output, BB0.size, BB0.block⟩
  have hne : w.heap.size ≠ w.heap.size + 1 := by omega
  rw [HBW.out] at BB1
  have BB := Lib.hid BB1
  have hge1 : B ≤ w.heap.size := by rw [← HBW.out]; exact Nat.le_refl _
  have hge2 : B ≤ w.heap.size + 1 := by rw [← HBW.out]; omega
  clear BB0 BB1 m1 m2 E1
  rename_i A1o A2o
  clear A1o A2o
  generalize ((w.alloc (.cells (rowN 286 (litC [])) 3)).alloc (.cells (rowN 30 fun _ => 0) 3)) = w1 at *
  generalize w.heap.size + 1 = g2 at A2 hne hge2 ⊢
  generalize w.heap.size = g1 at A1 hne hge1 ⊢
  have HA := Lib.hid (And.intro A1 A2)
  clear A1 A2
  go_loopw [6] (fun i wr => ∃ k : Nat, k ≤ n ∧ i = .int .i64 k ∧ AtN wr g1 286 (litC (l.take k)) ∧ AtN wr g2 30 (dstC (l.take k)) ∧ Below B w wr) (fun i _ => n - (intOf i).toNat)
  case atStart => exact ⟨0, Nat.zero_le _, rfl, HA.out.1, HA.out.2, BB.out⟩
  case round =>
    obtain ⟨k, hk, rfl, h1, h2, hb⟩ := hrel
    clear HA
    by_cases hlt : k < n
    · obtain ⟨b, off, rfl, hbb, hc⟩ := H.out (by omega)
      obtain ⟨q1, q2, q3⟩ := hc k (by omega)
      have hbB : b < B := by rw [← HBW.out]; exact hbb
      have c1 := (hb.cell (p := ⟨b, off + k * 3, none⟩) hbB).trans q1
      have c2 := (hb.cell (p := ⟨b, off + k * 3 + 1, none⟩) hbB).trans q2
      have c3 := (hb.cell (p := ⟨b, off + k * 3 + 2, none⟩) hbB).trans q3
      have hkl : k < l.length := by omega
      have NB := Lib.hid (fun hv => next_bad (l := l) (k := k) hkl hv)
      have NT := Lib.hid (fun hv h0 s => next_byte (l := l) (k := k) hkl hv h0 s)
      have NP := Lib.hid (fun hv h0 s => next_piece (l := l) (k := k) hkl hv h0 s)
      have hbg1 : b ≠ g1 := by omega
      have hbg2 : b ≠ g2 := by omega
      clear hc hbb
      generalize htk : l[k] = t at *
      have Q := Lib.hid (And.intro q1 (And.intro q2 q3))
      have H1 := Lib.hid h1
      have H2 := Lib.hid h2
      have HB := Lib.hid hb
      clear h1 h2 hb htk q1 q2 q3
      go_wp2_with fail
      refine (refValid_any t _).mono ?_
      rintro r w' ⟨rfl, rfl⟩
      have hBr : B ≤ wr.heap.size := by have := HB.out.size; rw [HBW.out] at this; exact this
      have b2 : Below wr.heap.size wr (wr.alloc (.cells (tokC t) 64)) := (Below.refl _ _).alloc (Nat.le_refl _) _
      generalize (wr.alloc (.cells (tokC t) 64)) = w2 at *
      have hb2 : Below B w w2 := HB.out.trans (b2.mono hBr)
      have n1 := H1.out.below b2
      have n2 := H2.out.below b2
      have d0 := (hb2.cell (p := ⟨b, off + k * 3, none⟩) hbB).trans Q.out.1
      have d1 := (hb2.cell (p := ⟨b, off + k * 3 + 1, none⟩) hbB).trans Q.out.2.1
      have d2 := (hb2.cell (p := ⟨b, off + k * 3 + 2, none⟩) hbB).trans Q.out.2.2
      have HB2 := Lib.hid hb2
      clear b2 hb2 H1 H2 HB c1 c2 c3
      cases hv : okT t with
      | false =>
        obtain ⟨e1, e2⟩ := NB.out hv
        have N12 := Lib.hid (And.intro n1 n2)
        have E12 : Hid (litC (l.take (k + 1)) = litC (l.take k) ∧ dstC (l.take (k + 1)) = dstC (l.take k)) := Lib.hid ⟨by unfold litC; rw [e1], by unfold dstC; rw [e2]⟩
        clear n1 n2 e1 e2 hv
        go_wp2_with fail
        refine ⟨⟨k + 1, by omega, by go_num, by rw [E12.out.1]; exact N12.out.1, by rw [E12.out.2]; exact N12.out.2, HB2.out⟩, ?_⟩
        simp [intOf]; omega
      | true =>
        by_cases h0 : t.L = 0
        · obtain ⟨hd, hB0, hB1⟩ := okT_byte hv h0
          have NT2 := Lib.hid (NT.out hv h0)
          obtain ⟨bN, hbN⟩ : ∃ bN : Nat, t.B = bN := ⟨t.B.toNat, by omega⟩
          have hbt : t.B.toNat = bN := by omega
          rw [hbt] at NT2
          rw [hbN] at d0
          rw [h0] at d1
          have hbN2 : bN < 286 := by omega
          have hbN3 : (bN : Int) < 286 := by omega
          have c5 := n1.cell bN hbN2
          have f5 := n1.frozen bN
          have hle := litC_le (l.take k) bN
          have hle2 : (l.take k).length ≤ 1000000 := by rw [List.length_take]; omega
          have s1 := n1.set bN (litC (l.take k) bN + 1)
          have s2 := n2.other (j := bN) (v := .int .i64 ((litC (l.take k) bN + 1 : Nat) : Int)) (Ne.symm hne)
          have S12 := Lib.hid (And.intro s1 s2)
          rw [Int.natCast_add, Int.natCast_one] at S12
          have hx1 : (litC (l.take k) bN : Int) ≤ 1000001 := by omega
          generalize hX : litC (l.take k) bN = X at *
          have HX := Lib.hid hX
          clear s1 s2 n1 n2 hle hle2 hd hB0 hB1 hbN hbt hv NP NB NT hX
          go_wp2_with fail
          refine ⟨⟨k + 1, by omega, by go_num, S12.out.1.congr fun s hs => ?_, S12.out.2.congr fun s hs => by unfold dstC; rw [(NT2.out 0).2], HB2.out.setCell (p := ⟨g1, bN, none⟩) hge1 _⟩, ?_⟩
          · rw [litC_eq (l.take (k + 1)), (NT2.out s).1]
            by_cases hsb : s = bN
            · subst hsb; rw [if_pos rfl, if_pos rfl, ← HX.out, litC_eq]; omega
            · rw [if_neg hsb, if_neg hsb, Nat.add_zero, litC_eq]
          · simp [intOf]; omega
        · have NP2 := Lib.hid (NP.out hv h0)
          have hLlt := (okT_piece hv h0)
          have hl1 : 257 + li t.L.toNat < 286 := by have := litN_lt hv; unfold litN at this; rw [if_neg h0] at this; exact this
          have hl2 := di_lt hv h0
          have CL := Lib.hid (fun w => refLength_any t.L (by omega) w)
          have CD := Lib.hid (fun w => refDistance_any t.D (by omega) w)
          rw [len_sym hv h0] at CL
          rw [dist_sym hv h0] at CD
          unfold trip at CL CD
          have hL0 : (t.L == 0) = false := by simpa using h0
          generalize 257 + li t.L.toNat = sL at *
          generalize di t.D.toNat = sD at *
          generalize t.L.toNat - LB (li t.L.toNat) = eL at *
          generalize LX (li t.L.toNat) = bL at *
          generalize t.D.toNat - DB sD = eD at *
          generalize DX sD = bD at *
          have hx1 := litC_le (l.take k) sL
          have hx2 := dsts_le (l.take k) sD
          have hle2 : (l.take k).length ≤ 1000000 := by rw [List.length_take]; omega
          have hx3 : (litC (l.take k) sL : Int) ≤ 1000001 := by omega
          have hx4 : (dstC (l.take k) sD : Int) ≤ 1000000 := by unfold dstC; omega
          have N12 := Lib.hid (And.intro n1 n2)
          have HBN : Hid (B ≤ w2.heap.size) := Lib.hid (by have := HB2.out.size; rw [HBW.out] at this; exact this)
          clear hx1 hx2 hle2 hLlt n1 n2 NP NB NT d0
          go_wp2_with fail
          refine (CL.out _).mono ?_
          rintro r w3 ⟨rfl, b3⟩
          have d2' := (b3.cell (p := ⟨b, off + k * 3 + 2, none⟩) (by have := HBN.out; show b < w2.heap.size; omega)).trans d2
          have n1 := N12.out.1.below b3
          have n2 := N12.out.2.below b3
          have N34 := Lib.hid (And.intro n1 n2)
          have HB3 : Hid (Below B w w3) := Lib.hid (HB2.out.trans (b3.mono HBN.out))
          clear b3 n1 n2 N12 d1 d2 CL
          go_wp2_with fail
          refine (CD.out _).mono ?_
          rintro r w5 ⟨rfl, b5⟩
          have n1 := N34.out.1.below b5
          have n2 := N34.out.2.below b5
          have hb5 : Below B w w5 := HB3.out.trans (b5.mono (by have := HB3.out.size; rw [HBW.out] at this; exact this))
          have c5 := n1.cell sL hl1
          have f5 := n1.frozen sL
          have hl1' : (sL : Int) < 286 := by omega
          have hl2' : (sD : Int) < 30 := by omega
          have s1 := n1.set sL (litC (l.take k) sL + 1)
          have s2 := n2.other (j := sL) (v := .int .i64 ((litC (l.take k) sL + 1 : Nat) : Int)) (Ne.symm hne)
          rw [Int.natCast_add, Int.natCast_one] at s1 s2
          have hb4 := hb5.setCell (p := ⟨g1, sL, none⟩) hge1 (.int .i64 ((litC (l.take k) sL : Int) + 1))
          generalize hW4 : w5.setCell ⟨g1, sL, none⟩ (.int .i64 ((litC (l.take k) sL : Int) + 1)) = w4 at *
          have c6 := s2.cell sD hl2
          have f6 := s2.frozen sD
          have s3 := s2.set sD (dstC (l.take k) sD + 1)
          have s4 := s1.other (j := sD) (v := .int .i64 ((dstC (l.take k) sD + 1 : Nat) : Int)) hne
          rw [Int.natCast_add, Int.natCast_one] at s3 s4
          have hb6 := hb4.setCell (p := ⟨g2, sD, none⟩) hge2 (.int .i64 ((dstC (l.take k) sD : Int) + 1))
          have S34 := Lib.hid (And.intro s4 s3)
          have HB6 := Lib.hid hb6
          clear s1 s2 s3 s4 hb4 hb5 hb6 b5 n1 n2 CD d2'
          generalize hX : litC (l.take k) sL = X at *
          generalize hY : dstC (l.take k) sD = Y at *
          have HX := Lib.hid hX
          have HY := Lib.hid hY
          clear hX hY
          go_wp2_with fail
          refine ⟨⟨k + 1, by omega, by go_num, S34.out.1.congr fun s hs => ?_, S34.out.2.congr fun s hs => ?_, HB6.out⟩, ?_⟩
          · rw [litC_eq (l.take (k + 1)), (NP2.out s).1]
            by_cases hsb : s = sL
            · subst hsb; rw [if_pos rfl, if_pos rfl, ← HX.out, litC_eq]; omega
            · rw [if_neg hsb, if_neg hsb, Nat.add_zero, litC_eq]
          · show _ = (dstsOf (l.take (k + 1))).count s
            rw [(NP2.out s).2]
            by_cases hsb : s = sD
            · subst hsb; rw [if_pos rfl, if_pos rfl, ← HY.out]; rfl
            · rw [if_neg hsb, if_neg hsb, Nat.add_zero]; rfl
          · simp [intOf]; omega
    · obtain rfl : k = n := by omega
      have htk : l.take k = l := List.take_of_length_le (by omega)
      rw [htk] at h1 h2
      have S12 := Lib.hid (And.intro h1 h2)
      have HB6 := Lib.hid hb
      clear h1 h2 hb htk
      go_wp2_with fail
      go_ret2
      exact ⟨g1, g2, rfl, S12.out.1, S12.out.2, by rw [HBW.out]; exact HB6.out⟩
end Go.Proofs.Ytikfenimgjeplaa.Sym
