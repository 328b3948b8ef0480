/-
  SymbolsBack (layer 7): what is written is read again, by the fixed codes and by the best codes of what comes, whatever stands behind it.
-/
import Derived.Test.YtikfenimgjeplaaRows
import Derived.Test.YtikfenimgjeplaaSymBest
import Derived.WalkKit
import Derived.ProofKit
import Derived.OpenShut
import Derived.ShutString
import Derived.ChangeOld
import Derived.Below
import Derived.Lib.SmallJoins
import Derived.Deep.Slices
namespace Go.Proofs.Ytikfenimgjeplaa.symbolsBack
open Go.Proofs.Ytikfenimgjeplaa.Sym
open Go.ChangeShapes Go.WideShapes Go.ChangeAt Go.RowKit
open Go.ChangeMaps (open_string shut_string)
set_option linter.unusedVariables false

theorem own : ownKnob Try.prog.godebug = none := by kernel_rfl
theorem laidOut : laidOutB Try.prog = true := by kernel_rfl

open Go.Proofs.Ytikfenimgjeplaa.Lz (Tok okT tokC IsToks toks_see refValid_any valid_any)
open Go.Proofs.Ytikfenimgjeplaa.Huf (IsInts nats)
open Go.Proofs.Ytikfenimgjeplaa.Bit (WrAt WrRaw But Near RdAt tb tb_length rnew_any rat_any wstring_any wlen_any pack pack_length)
theorem draws_below (w : World) (q : Nat) : Below w.heap.size w (w.drewN q) := ⟨rfl, rfl, rfl, Nat.le_refl _, fun _ _ => rfl⟩
theorem ints_lt {w : World} {g : Nat} {N : List Nat} (h : IsInts w (some ⟨g, 0, none⟩) (ints N)) (h0 : 0 < N.length) : g < w.heap.size := by
  obtain ⟨g', off, e, hg, _⟩ := h (by rw [ints_length]; exact h0)
  cases e; exact hg

set_option maxRecDepth 100000 in
set_option maxHeartbeats 8000000 in
theorem early (a : Option Addr) (n cap : Nat) (s : ByteArray) (W : World) (ws : s.size ≤ maxLen) (h : 60 < n ∨ 60 < s.size) :
    Calls Try.prog 7 #[.slice a n cap, .string s] W fun e w' => e = .returned (.bool true) ∧ Below W.heap.size W w' := by
  unfold maxLen at ws
  by_cases h1 : 60 < n
  · clear h
    have d1 : decide ((60 : Int) < (n : Int)) = true := by simp; omega
    have p1 : (60 : Int) < n := by omega
    go_enter Try.func7, Try.ntmps7
    go_wp2_with fail
    refine (works_any _).mono ?_
    rintro r w1 ⟨rfl, b1⟩
    go_wp2_with fail
    all_goals (go_ret; exact ⟨rfl, b1⟩)
  have d1 : decide ((60 : Int) < (n : Int)) = false := by simp; omega
  have p1 : ¬ ((60 : Int) < n) := by omega
  have h2 : 60 < s.size := by omega
  clear h
  have d2 : decide ((60 : Int) < (s.size : Int)) = true := by simp; omega
  have p2 : (60 : Int) < s.size := by omega
  go_enter Try.func7, Try.ntmps7
  go_wp2_with fail
  refine (works_any _).mono ?_
  rintro r w1 ⟨rfl, b1⟩
  go_wp2_with fail
  all_goals (go_ret; exact ⟨rfl, b1⟩)

set_option maxRecDepth 100000 in
set_option maxHeartbeats 16000000 in
theorem walk (a : Option Addr) (n cap : Nat) (l : List Tok) (s : ByteArray) (W : World) (w0 : l.length = n ∧ n ≤ maxLen ∧ IsToks W a l ∧ (a = none → n = 0 ∧ cap = 0)) (ws : s.size ≤ maxLen) :
    Calls Try.prog 7 #[.slice a n cap, .string s] W fun e w' => e = .returned (.bool true) ∧ Below W.heap.size W w' := by
  by_cases hg : 60 < n ∨ 60 < s.size
  · exact early a n cap s W ws hg
  obtain ⟨hl, _, hT, _⟩ := w0
  have d1 : decide ((60 : Int) < (n : Int)) = false := by simp; omega
  have p1 : ¬ ((60 : Int) < n) := by omega
  have d2 : decide ((60 : Int) < (s.size : Int)) = false := by simp; omega
  have p2 : ¬ ((60 : Int) < s.size) := by omega
  have hn60 : n ≤ 60 := by omega
  have hs60 : s.size ≤ 60 := by omega
  have HT := Lib.hid hT
  have HL := Lib.hid hl
  have HTB : Hid (0 < n → ∀ y, a = some y → y.block < W.heap.size) := Lib.hid fun h0 y hy => by
    obtain ⟨bb, off, e, hlt, _⟩ := hT (by omega)
    rw [hy] at e; cases e; exact hlt
  clear hT hl hg ws
  go_enter Try.func7, Try.ntmps7
  go_wp2_with fail
  refine (works_any _).mono ?_
  rintro r w1 ⟨rfl, b1⟩
  have HB1 := Lib.hid b1
  clear b1
  go_wp2_with fail
  go_loopw [6] (fun i wr => ∃ k : Nat, k ≤ n ∧ i = .int .i64 k ∧ (l.take k).all okT = true ∧ Below W.heap.size W wr) (fun i _ => n - (intOf i).toNat)
  case atStart => exact ⟨0, Nat.zero_le _, rfl, rfl, HB1.out⟩
  case round =>
    obtain ⟨k, hk, rfl, hall, hb⟩ := hrel
    clear HB1
    by_cases hlt : k < n
    · obtain ⟨bb, off, rfl, hbb, hc⟩ := HT.out (by rw [HL.out]; omega)
      have hkl : k < l.length := by rw [HL.out]; omega
      obtain ⟨q1, q2, q3⟩ := hc k hkl
      have c1 := (hb.cell (p := ⟨bb, off + k * 3, none⟩) hbb).trans q1
      have c2 := (hb.cell (p := ⟨bb, off + k * 3 + 1, none⟩) hbb).trans q2
      have c3 := (hb.cell (p := ⟨bb, off + k * 3 + 2, none⟩) hbb).trans q3
      have AN := Lib.hid (fun (h : okT l[k] = true) => all_take_succ hkl hall h)
      clear hc hbb q1 q2 q3 hall
      generalize l[k] = t at *
      have HB := Lib.hid hb
      clear hb
      go_wp2_with fail
      refine (valid_any t _).mono ?_
      rintro r w' ⟨rfl, rfl⟩
      have b2 : Below wr.heap.size wr (wr.alloc (.cells (tokC t) 64)) := (Below.refl _ _).alloc (Nat.le_refl _) _
      generalize (wr.alloc (.cells (tokC t) 64)) = w2 at *
      have HB2 := Lib.hid (HB.out.trans (b2.mono HB.out.size))
      clear b2 HB c1 c2 c3
      cases hv : okT t with
      | false =>
        clear hv
        go_wp2_with fail
        go_ret
        exact ⟨rfl, HB2.out⟩
      | true =>
        have HA := Lib.hid (AN.out hv)
        clear hv
        go_wp2_with fail
        refine ⟨⟨k + 1, by omega, by go_num, HA.out, HB2.out⟩, ?_⟩
        simp [intOf]; omega
    · obtain rfl : k = n := by omega
      rw [List.take_of_length_le (by rw [HL.out]; exact Nat.le_refl _)] at hall
      have HALL := Lib.hid hall
      have HB := Lib.hid hb
      clear hall hb
      go_wp2_with fail
      go_loopw [7] (fun i wx => ∃ j : Nat, j ≤ 2 ∧ i = .int .i64 j ∧ Below W.heap.size W wx) (fun i _ => 2 - (intOf i).toNat)
      case atStart => exact ⟨0, by omega, rfl, HB.out⟩
      case round =>
        obtain ⟨j, hj, rfl, hb⟩ := hrel
        have HBL := Lib.hid hb
        clear hb HB
        generalize hn' : k = n at *
        clear hn' hlt
        obtain rfl | rfl | rfl : j = 0 ∨ j = 1 ∨ j = 2 := by omega
        · rw [show ((0 : Nat) : Int) = 0 from rfl]
          go_wp2_with fail
          refine (fixed_any _).mono ?_
          rintro r wA ⟨ga, ca, gb, cb, rfl, iA, iB, bA⟩
          have HBA := Lib.hid (HBL.out.trans (bA.mono HBL.out.size))
          have IA := Lib.hid iA
          have IB := Lib.hid iB
          have CV := Lib.hid (fix_cov l)
          have HLN : Hid (fxL.length = 288 ∧ fxD.length = 30) := Lib.hid ⟨rfl, rfl⟩
          clear iA iB bA HBL
          generalize fxL = NL at *
          generalize fxD = NM at *
          go_wp2_with fail
          have hwr := wr_new wA
          have bX : Below wA.heap.size wA (wA.alloc (.cells #[.slice none 0 0, .int .i64 0] 39)) := (Below.refl _ _).alloc (Nat.le_refl _) _
          generalize (wA.alloc (.cells #[.slice none 0 0, .int .i64 0] 39)) = w1 at *
          have HB1 := Lib.hid (HBA.out.trans (bX.mono HBA.out.size))
          have hge : W.heap.size ≤ wA.heap.size := HBA.out.size
          have hlt1 : wA.heap.size < w1.heap.size := WrRaw.lt hwr
          have IA1 := Lib.hid (And.intro (IA.out.below bX (Nat.le_refl _)) (IB.out.below bX (Nat.le_refl _)))
          have LT := Lib.hid (show ga < wA.heap.size ∧ gb < wA.heap.size from ⟨ints_lt IA.out (by rw [HLN.out.1]; decide), ints_lt IB.out (by rw [HLN.out.2]; decide)⟩)
          have CW := Lib.hid (write_any wA.heap.size (.slice none 0 0) [] (some ⟨ga, 0, none⟩) (some ⟨gb, 0, none⟩) a 288 ca 30 cb n cap (ints NL) (ints NM) l w1 hwr (by rw [ints_length]; exact HLN.out.1) (by rw [ints_length]; exact HLN.out.2) HL.out IA1.out.1 IA1.out.2 (HT.out.below HB1.out (Nat.le_refl _))
            (fun h0 y hy => by have := HTB.out h0 y hy; exact ⟨by omega, fun e => by cases e⟩) (by decide) (by decide) (by omega) (by decide))
          rw [wrE_ok HALL.out CV.out.1 CV.out.2, nats_ints, nats_ints] at CW
          clear bX HBA IA IB hwr
          generalize wA.heap.size = bw at *
          refine CW.out.mono ?_
          rintro r w2 ⟨rfl, v2, h2, k2, n2⟩
          obtain ⟨BS, hBS⟩ : ∃ BS, wrBits NL NM l = BS := ⟨_, rfl⟩
          have hw2 : WrAt w2 bw v2 BS := by rw [← hBS]; exact h2
          have HBS := Lib.hid hBS
          have hBl : BS.length ≤ 6000 := by have := wrBits_length NL NM l; rw [hBS, HL.out] at this; omega
          have hv2 : ∀ i, v2.ownBlock = some i → bw ≤ i := fun i hi => by
            rcases n2 i hi with h | h
            · cases h
            · omega
          have HV2 := Lib.hid hv2
          have HB2 := Lib.hid (below_but HB1.out (Nat.le_refl _) k2 hge (fun i h => by cases h))
          have IA2 := Lib.hid (And.intro (ints_block IA1.out.1 k2.size fun g off e hg => by cases e; exact k2.block ga hg (by have := LT.out.1; omega) (fun h => by cases h)) (ints_block IA1.out.2 k2.size fun g off e hg => by cases e; exact k2.block gb hg (by have := LT.out.2; omega) (fun h => by cases h)))
          have HW2 := Lib.hid hw2
          clear h2 k2 n2 hw2 hBS hv2 HB1 IA1 CW LT
          go_wp2_with fail
          refine (wstring_any bw v2 BS w2 HW2.out).mono ?_
          rintro r w3 ⟨rfl, rfl⟩
          obtain ⟨Z, hZ⟩ := tb_back BS s
          have hxs : (⟨(pack BS).toArray⟩ : ByteArray).size ≤ 800 := by
            have h1 : (⟨(pack BS).toArray⟩ : ByteArray).size = (pack BS).length := by simp [ByteArray.size]
            rw [h1, pack_length]; omega
          obtain ⟨x, hx⟩ : ∃ x : ByteArray, (⟨(pack BS).toArray⟩ : ByteArray) = x := ⟨_, rfl⟩
          rw [hx] at hZ hxs ⊢
          obtain ⟨t, htx⟩ : ∃ t : ByteArray, x ++ s = t := ⟨_, rfl⟩
          have hts : t.size ≤ 1000000 := by
            rw [← htx, ByteArray.size_append]; omega
          rw [htx] at hZ
          clear hx
          have HZ := Lib.hid hZ
          clear hZ
          go_wp2_with fail
          refine (rnew_any t w2).mono ?_
          rintro r w3 ⟨rfl, r3, b3⟩
          have hlt2 : bw < w2.heap.size := WrRaw.lt HW2.out
          have HB3 := Lib.hid (HB2.out.trans (b3.mono HB2.out.size))
          have HW3 := Lib.hid (wr_below HW2.out b3)
          have IA3 := Lib.hid (And.intro (IA2.out.1.below b3 (Nat.le_refl _)) (IA2.out.2.below b3 (Nat.le_refl _)))
          have HR3 := Lib.hid r3
          have HVL : Hid (∀ i, v2.ownBlock = some i → i < w2.heap.size) := Lib.hid fun i hi => (HW2.out.own.lt i hi).2
          have hge3 : W.heap.size ≤ w2.heap.size := HB2.out.size
          have CR := Lib.hid (read_any w2.heap.size t 0 (some ⟨ga, 0, none⟩) (some ⟨gb, 0, none⟩) 288 ca 30 cb (ints NL) (ints NM) 1073741824 w3 HR3.out (Nat.zero_le _) hts (by rw [ints_length]; exact HLN.out.1) (by rw [ints_length]; exact HLN.out.2) IA3.out.1 IA3.out.2 (by decide) (by decide))
          rw [HZ.out] at CR
          have hbk := back HALL.out CV.out.1 CV.out.2 Z 1073741824 (by rw [HL.out]; omega)
          rw [nats_ints, nats_ints, HBS.out] at hbk
          rw [hbk] at CR
          simp only at CR
          clear hbk r3 b3 HB2 HW2 IA2 HBS
          generalize w2.heap.size = br at *
          go_wp2_with fail
          refine CR.out.mono ?_
          rintro r w4 ⟨v4, rfl, o4, r4, g4⟩
          have HB4 := Lib.hid (below_grow HB3.out (Nat.le_refl _) g4 hge3)
          have HW4 : Hid (WrAt w4 bw v2 BS) := Lib.hid ⟨by rw [g4.block bw (WrRaw.lt HW3.out) (fun e => by cases e; omega)]; exact HW3.out.blk, Bit.ownsRow_block HW3.out.own (fun i hi => g4.block i (HW3.out.own.lt i hi).2 (fun e => by cases e; have := HVL.out _ hi; omega))⟩
          have HR4 := Lib.hid r4
          rw [HL.out] at o4
          obtain ⟨av, cv, rfl, tv, nv⟩ := row_toks o4 HL.out
          have CS := Lib.hid (same_any a av n cap cv l w4 HL.out (HT.out.below HB4.out (Nat.le_refl _)) tv nv)
          clear o4 r4 g4 tv CR HB3 HW3 IA3 HR3
          go_wp2_with fail
          refine CS.out.mono ?_
          rintro r w5 ⟨rfl, q5, rfl⟩
          have HB5 := Lib.hid (below_drew HB4.out q5)
          have HR5 := Lib.hid (rd_below HR4.out (draws_below w4 q5))
          have HW5 := Lib.hid (wr_below HW4.out (draws_below w4 q5))
          clear CS HB4 HR4 HW4
          generalize w4.drewN q5 = w5 at *
          go_wp2_with fail
          refine (rat_any br t BS.length false w5 HR5.out).mono ?_
          rintro r w6 ⟨rfl, rfl⟩
          go_wp2_with fail
          refine (wlen_any bw v2 BS w5 HW5.out (by omega)).mono ?_
          rintro r w6 ⟨rfl, q6, rfl⟩
          have HB6 := Lib.hid (below_drew HB5.out q6)
          clear HB5 HW5 HR5
          go_wp2_with fail
          refine ⟨⟨0 + 1, by omega, by go_num, HB6.out⟩, ?_⟩
          simp [intOf]
        · rw [show ((1 : Nat) : Int) = 1 from rfl]
          go_wp2_with fail
          refine (fixed_any _).mono ?_
          rintro r w3 ⟨fa, fca, fb, fcb, rfl, _, _, b3⟩
          have HB3 := Lib.hid (HBL.out.trans (b3.mono HBL.out.size))
          have CC := Lib.hid (count_any a l n cap w3 HL.out (HT.out.below HB3.out (Nat.le_refl _)) (by omega))
          clear b3 HBL
          go_wp2_with fail
          refine CC.out.mono ?_
          rintro r w4 ⟨g1, g2, rfl, n1, n2, b4⟩
          have HB4 := Lib.hid (HB3.out.trans (b4.mono HB3.out.size))
          have HG2 := Lib.hid n2
          have CL := Lib.hid (best_any g1 286 (litC l) w4 n1 (by decide) (fun x => Nat.le_trans (litC_le l x) (by rw [HL.out]; omega)))
          clear b4 HB3 CC n1 n2
          go_wp2_with fail
          refine CL.out.mono ?_
          rintro r w5 ⟨ga, NL, rfl, lnL, iA, cvL, b5⟩
          have HB5 := Lib.hid (HB4.out.trans (b5.mono HB4.out.size))
          have CM := Lib.hid (best_any g2 30 (dstC l) w5 (HG2.out.below b5) (by decide) (fun x => Nat.le_trans (dsts_le l x) (by rw [HL.out]; omega)))
          have IA5 := Lib.hid iA
          have CVL := Lib.hid cvL
          clear b5 HB4 iA cvL CL HG2
          go_wp2_with fail
          refine CM.out.mono ?_
          rintro r wA ⟨gb, NM, rfl, lnM, iB, cvM, bA⟩
          have HBA := Lib.hid (HB5.out.trans (bA.mono HB5.out.size))
          have IA := Lib.hid (IA5.out.below bA (Nat.le_refl _))
          have IB := Lib.hid iB
          have CV := Lib.hid (And.intro CVL.out cvM)
          have HLN := Lib.hid (And.intro lnL lnM)
          clear iB bA HB5 IA5 CVL cvM CM lnL lnM
          go_wp2_with fail
          have hwr := wr_new wA
          have bX : Below wA.heap.size wA (wA.alloc (.cells #[.slice none 0 0, .int .i64 0] 39)) := (Below.refl _ _).alloc (Nat.le_refl _) _
          generalize (wA.alloc (.cells #[.slice none 0 0, .int .i64 0] 39)) = w1 at *
          have HB1 := Lib.hid (HBA.out.trans (bX.mono HBA.out.size))
          have hge : W.heap.size ≤ wA.heap.size := HBA.out.size
          have hlt1 : wA.heap.size < w1.heap.size := WrRaw.lt hwr
          have IA1 := Lib.hid (And.intro (IA.out.below bX (Nat.le_refl _)) (IB.out.below bX (Nat.le_refl _)))
          have LT := Lib.hid (show ga < wA.heap.size ∧ gb < wA.heap.size from ⟨ints_lt IA.out (by rw [HLN.out.1]; decide), ints_lt IB.out (by rw [HLN.out.2]; decide)⟩)
          have CW := Lib.hid (write_any wA.heap.size (.slice none 0 0) [] (some ⟨ga, 0, none⟩) (some ⟨gb, 0, none⟩) a 286 286 30 30 n cap (ints NL) (ints NM) l w1 hwr (by rw [ints_length]; exact HLN.out.1) (by rw [ints_length]; exact HLN.out.2) HL.out IA1.out.1 IA1.out.2 (HT.out.below HB1.out (Nat.le_refl _))
            (fun h0 y hy => by have := HTB.out h0 y hy; exact ⟨by omega, fun e => by cases e⟩) (by decide) (by decide) (by omega) (by decide))
          rw [wrE_ok HALL.out CV.out.1 CV.out.2, nats_ints, nats_ints] at CW
          clear bX HBA IA IB hwr
          generalize wA.heap.size = bw at *
          refine CW.out.mono ?_
          rintro r w2 ⟨rfl, v2, h2, k2, n2⟩
          obtain ⟨BS, hBS⟩ : ∃ BS, wrBits NL NM l = BS := ⟨_, rfl⟩
          have hw2 : WrAt w2 bw v2 BS := by rw [← hBS]; exact h2
          have HBS := Lib.hid hBS
          have hBl : BS.length ≤ 6000 := by have := wrBits_length NL NM l; rw [hBS, HL.out] at this; omega
          have hv2 : ∀ i, v2.ownBlock = some i → bw ≤ i := fun i hi => by
            rcases n2 i hi with h | h
            · cases h
            · omega
          have HV2 := Lib.hid hv2
          have HB2 := Lib.hid (below_but HB1.out (Nat.le_refl _) k2 hge (fun i h => by cases h))
          have IA2 := Lib.hid (And.intro (ints_block IA1.out.1 k2.size fun g off e hg => by cases e; exact k2.block ga hg (by have := LT.out.1; omega) (fun h => by cases h)) (ints_block IA1.out.2 k2.size fun g off e hg => by cases e; exact k2.block gb hg (by have := LT.out.2; omega) (fun h => by cases h)))
          have HW2 := Lib.hid hw2
          clear h2 k2 n2 hw2 hBS hv2 HB1 IA1 CW LT
          go_wp2_with fail
          refine (wstring_any bw v2 BS w2 HW2.out).mono ?_
          rintro r w3 ⟨rfl, rfl⟩
          obtain ⟨Z, hZ⟩ := tb_back BS s
          have hxs : (⟨(pack BS).toArray⟩ : ByteArray).size ≤ 800 := by
            have h1 : (⟨(pack BS).toArray⟩ : ByteArray).size = (pack BS).length := by simp [ByteArray.size]
            rw [h1, pack_length]; omega
          obtain ⟨x, hx⟩ : ∃ x : ByteArray, (⟨(pack BS).toArray⟩ : ByteArray) = x := ⟨_, rfl⟩
          rw [hx] at hZ hxs ⊢
          obtain ⟨t, htx⟩ : ∃ t : ByteArray, x ++ s = t := ⟨_, rfl⟩
          have hts : t.size ≤ 1000000 := by
            rw [← htx, ByteArray.size_append]; omega
          rw [htx] at hZ
          clear hx
          have HZ := Lib.hid hZ
          clear hZ
          go_wp2_with fail
          refine (rnew_any t w2).mono ?_
          rintro r w3 ⟨rfl, r3, b3⟩
          have hlt2 : bw < w2.heap.size := WrRaw.lt HW2.out
          have HB3 := Lib.hid (HB2.out.trans (b3.mono HB2.out.size))
          have HW3 := Lib.hid (wr_below HW2.out b3)
          have IA3 := Lib.hid (And.intro (IA2.out.1.below b3 (Nat.le_refl _)) (IA2.out.2.below b3 (Nat.le_refl _)))
          have HR3 := Lib.hid r3
          have HVL : Hid (∀ i, v2.ownBlock = some i → i < w2.heap.size) := Lib.hid fun i hi => (HW2.out.own.lt i hi).2
          have hge3 : W.heap.size ≤ w2.heap.size := HB2.out.size
          have CR := Lib.hid (read_any w2.heap.size t 0 (some ⟨ga, 0, none⟩) (some ⟨gb, 0, none⟩) 286 286 30 30 (ints NL) (ints NM) 1073741824 w3 HR3.out (Nat.zero_le _) hts (by rw [ints_length]; exact HLN.out.1) (by rw [ints_length]; exact HLN.out.2) IA3.out.1 IA3.out.2 (by decide) (by decide))
          rw [HZ.out] at CR
          have hbk := back HALL.out CV.out.1 CV.out.2 Z 1073741824 (by rw [HL.out]; omega)
          rw [nats_ints, nats_ints, HBS.out] at hbk
          rw [hbk] at CR
          simp only at CR
          clear hbk r3 b3 HB2 HW2 IA2 HBS
          generalize w2.heap.size = br at *
          go_wp2_with fail
          refine CR.out.mono ?_
          rintro r w4 ⟨v4, rfl, o4, r4, g4⟩
          have HB4 := Lib.hid (below_grow HB3.out (Nat.le_refl _) g4 hge3)
          have HW4 : Hid (WrAt w4 bw v2 BS) := Lib.hid ⟨by rw [g4.block bw (WrRaw.lt HW3.out) (fun e => by cases e; omega)]; exact HW3.out.blk, Bit.ownsRow_block HW3.out.own (fun i hi => g4.block i (HW3.out.own.lt i hi).2 (fun e => by cases e; have := HVL.out _ hi; omega))⟩
          have HR4 := Lib.hid r4
          rw [HL.out] at o4
          obtain ⟨av, cv, rfl, tv, nv⟩ := row_toks o4 HL.out
          have CS := Lib.hid (same_any a av n cap cv l w4 HL.out (HT.out.below HB4.out (Nat.le_refl _)) tv nv)
          clear o4 r4 g4 tv CR HB3 HW3 IA3 HR3
          go_wp2_with fail
          refine CS.out.mono ?_
          rintro r w5 ⟨rfl, q5, rfl⟩
          have HB5 := Lib.hid (below_drew HB4.out q5)
          have HR5 := Lib.hid (rd_below HR4.out (draws_below w4 q5))
          have HW5 := Lib.hid (wr_below HW4.out (draws_below w4 q5))
          clear CS HB4 HR4 HW4
          generalize w4.drewN q5 = w5 at *
          go_wp2_with fail
          refine (rat_any br t BS.length false w5 HR5.out).mono ?_
          rintro r w6 ⟨rfl, rfl⟩
          go_wp2_with fail
          refine (wlen_any bw v2 BS w5 HW5.out (by omega)).mono ?_
          rintro r w6 ⟨rfl, q6, rfl⟩
          have HB6 := Lib.hid (below_drew HB5.out q6)
          clear HB5 HW5 HR5
          go_wp2_with fail
          refine ⟨⟨1 + 1, by omega, by go_num, HB6.out⟩, ?_⟩
          simp [intOf]
        · rw [show ((2 : Nat) : Int) = 2 from rfl]
          go_wp2_with fail
          go_ret
          exact ⟨rfl, HBL.out⟩

set_option maxRecDepth 100000 in
theorem lifted (os : Os) (started : os.Started) (H : Type) (enc : TypeId × Value → H) :
    ReturnsInHanded {} Try.checked os 7 .any (Rows.symbolsBackSpec.pre6 enc Try.prog Try.f7 Rows.symbolsBackRow.domain false) (Rows.symbolsBackSpec.post enc Try.prog Try.f7 false true false false) := by
  refine returnsInHanded_of_change (C := Try.checked) own started (by kernel_rfl) Try.func7
    (ChangeSpec.witness6 (enc := enc) (C := Try.checked) false ⟨#[], #[.slice none 0 0, .string ByteArray.empty], []⟩ 8 (by kernel_rfl) (by kernel_rfl) (by kernel_rfl) (by kernel_rfl)) ?_
  intro W base args ds gs before hval0 hW hcnd _
  have hval : ∀ (j : Nat) t v, Try.f7.params[j]? = some t → args[j]? = some v → Value.okWide Try.prog W .any base t v := hval0
  have hW' := hW
  obtain ⟨p, q, hA0, hV, rfl, hfz, hnd⟩ := hW
  have hA : DataW.TrodAll enc Try.prog W 0 (fun _ => true) true Try.f7.params.toList args.toList ds p := hA0
  rw [Try.params7] at hA hval
  obtain ⟨v0, vs0, d0, ds0, p0, q0, hargs, rfl, rfl, h0, r0⟩ := trodAll_cons hA
  obtain ⟨v1, vs1, d1, ds1, p1, q1, rfl, rfl, rfl, h1, r1⟩ := trodAll_cons r0
  obtain ⟨rfl, rfl, rfl⟩ := trodAll_nil r1
  obtain rfl : args = #[v0, v1] := by cases args; simp_all
  obtain ⟨rfl, rfl⟩ := trodVars_none hV
  have k0 := h0
  have lt0 : ∀ x ∈ p0, x.block < W.heap.size := by obtain ⟨m, hm⟩ := k0; exact DataW.trod_lt m _ _ _ hm
  obtain ⟨a0, len0, cap0, rfl⟩ := okWide_slice Try.underlying32 (hval 0 32 v0 rfl rfl)
  obtain ⟨A0, w0⟩ := toks_see h0
  have k1 := h1
  have lt1 : ∀ x ∈ p1, x.block < W.heap.size := by obtain ⟨m, hm⟩ := k1; exact DataW.trod_lt m _ _ _ hm
  obtain ⟨a1, rfl, rfl, rfl, w1⟩ := open_string Try.underlying9 (hval 1 9 v1 rfl rfl) h1
  clear hA0 hval0
  refine (walk a0 len0 cap0 A0 a1 W w0 w1).mono fun e W' ⟨he, bel⟩ => ?_
  subst he
  exact ⟨_, rfl, _, _, _, [], _, [], hW', trodAll_mk1 (shut_bool Try.underlying4 _), (trodAll_cons_mk (Below.trod laidOut (by kernel_rfl) (of_decide_eq_true (by kernel_rfl)) k0 bel lt0) (trodAll_cons_mk (Below.trod laidOut (by kernel_rfl) (of_decide_eq_true (by kernel_rfl)) k1 bel lt1) trodAll_mk0)), rfl, bel.frame _, fun h => by cases h⟩

theorem over : Rows.symbolsBackRow.holds Try.pinned (OpenSpec.ofChange Rows.symbolsBackSpec) :=
  OpenClaim.holds_of_wide 7 Try.f7 rfl rfl rfl rfl rfl rfl rfl ⟨rfl, rfl, rfl, rfl, rfl⟩ rfl rfl rfl rfl rfl (by kernel_rfl) Try.func7 (by kernel_rfl)
    (of_decide_eq_true (by kernel_rfl)) (by unfold Func.isWrapper; first | (rw [if_pos (by decide +kernel)]; kernel_rfl) | (rw [if_neg (by decide +kernel)]; exact ⟨rfl, rfl⟩))
    (fun os started H enc _ => lifted os started H enc)

theorem proved : Rows.SymbolsBackSaid := over
end Go.Proofs.Ytikfenimgjeplaa.symbolsBack
