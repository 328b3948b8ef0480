/-
  Contract of the reference's symbol.
-/
import Derived.Test.YtikfenimgjeplaaSymReadM
import Derived.Test.YtikfenimgjeplaaSymPut
import Derived.Test.YtikfenimgjeplaaBitRfS
namespace Go.Proofs.Ytikfenimgjeplaa.Sym
open Go.ChangeShapes Go.WideShapes Go.ChangeAt Go.RowKit
open Go.Proofs.Ytikfenimgjeplaa.Huf (nxG nx_spec nextB nextB_length nextB_succ bigN findV find_any IsBits codeV codeV_lt Stop info_parts top fst cn used)
open Go.Proofs.Ytikfenimgjeplaa.Bit (BlAt From Near RfAt rfbits_any rV rI rOk errI tat num cellsB row_ne wpList_append_near info_bool lenOf cellsB_length rgrown_trans)
set_option linter.unusedVariables false
set_option maxRecDepth 100000

theorem grown_row {w wr w' : World} {v : Value} {b : Nat} (h : w.grownBy wr (some b)) (hg : wr.grownBy w' v.ownBlock) (hf : From w.heap.size v) : w.grownBy w' (some b) :=
  ⟨hg.os.trans h.os, hg.tape.trans h.tape, hg.output.trans h.output, Nat.le_trans h.size hg.size, fun k hk hkb => (hg.block k (Nat.lt_of_lt_of_le hk h.size) (fun e => by have := hf k e.symm; omega)).trans (h.block k hk hkb)⟩
theorem rf_row {w w' : World} {v u : Value} {b i B : Nat} {T : List Bool} {e : Bool} (h : RfAt w b v T i e) (hg : w.grownBy w' u.ownBlock) (hb : b < B) (hv : ∀ k, v.ownBlock = some k → k < B) (hu : From B u) : RfAt w' b v T i e :=
  ⟨by rw [hg.block b h.lt (fun e => by have := hu b e.symm; omega)]; exact h.blk, h.row.block fun k hk => hg.block k (World.ownsRow.lt h.row k hk).2 (fun e => by have := hv k hk; have := hu k e.symm; omega)⟩
theorem bits_at {w : World} {a : Option Addr} {n cap : Nat} {l : List Bool} (h : BlAt w (.slice a n cap) l) : IsBits w a l := by
  intro h0
  obtain ⟨a', cap', e, hs⟩ := h.shape
  simp only [Value.slice.injEq] at e
  obtain ⟨g, rfl, hg, hc⟩ := hs h0
  obtain ⟨rfl, _, _⟩ := e
  exact ⟨g, 0, rfl, hg, fun i hi => by rw [Nat.zero_add, hc i hi]; simp [cellsB, hi]⟩
theorem small_codes {N : List Nat} (h15 : ∀ x ∈ N, x ≤ 15) (hU : used N 15 ≤ 32768) : ∀ i, i < N.length → codeV N i < 2 ^ N.getD i 0 := fun i hi => by
  have g : N.getD i 0 = N[i] := by rw [List.getD_eq_getElem?_getD, List.getElem?_eq_getElem hi]; rfl
  by_cases h0 : N.getD i 0 = 0
  · unfold codeV; rw [if_pos h0, h0]; decide
  · rw [g] at h0 ⊢
    exact codeV_lt N i N[i] hi rfl (by omega) (h15 _ (List.getElem_mem _)) hU
theorem next_bit (T : List Bool) (i : Nat) (h : i < T.length) : rV T i false 1 = (tat T i).toNat ∧ rI T i false 1 = i + 1 ∧ rOk T i false 1 = true := by
  have h1 : rOk T i false 1 = true := by unfold rOk; simp; omega
  refine ⟨?_, ?_, h1⟩
  · unfold rV
    have e : (T.drop i).take 1 = [T[i]] := by rw [List.drop_eq_getElem_cons h]; rfl
    rw [if_pos h1, e]
    simp [num, tat, h]
  · unfold rI; rw [if_pos h1]
theorem next_none (T : List Bool) (i : Nat) (h : i = T.length) : rV T i false 1 = 0 ∧ rI T i false 1 = i ∧ rOk T i false 1 = false := by
  have h1 : rOk T i false 1 = false := by unfold rOk; simp; omega
  refine ⟨?_, ?_, h1⟩
  · unfold rV; rw [h1]; simp
  · unfold rI; rw [h1]; simp
theorem nextB_snoc (T : List Bool) (i q : Nat) (h : i + q < T.length) : nextB T i (q + 1) = nextB T i q ++ [tat T (i + q)] := by
  unfold nextB
  rw [List.take_succ_eq_append_getElem (by rw [List.length_drop]; omega)]
  congr 2
  simp [tat, h]

/-- Where there is no error, so far was read. -/
def okAt (e : Int) (pos j : Nat) (bad : Bool) : Prop := e = 0 → j = pos ∧ bad = false
theorem row_own {w : World} {v : Value} {l : List Bool} {q : Nat} (h : BlAt w v l) (e : l.length = q) : w.ownsRow 0 4 1 v q (cellsB l) := by subst e; exact h

set_option maxHeartbeats 8000000 in
theorem refSym_any (c n b p : Nat) (v : Value) (N : List Nat) (T : List Bool) (w : World) (hN : N.length = n) (hn : n ≤ 320) (h15 : ∀ x ∈ N, x ≤ 15) (hU : used N 15 ≤ 32768) (hc : CodesAt w c n N) (hr : RfAt w b v T p false) (hp : p ≤ T.length) (hT : T.length ≤ 8000000) :
    Calls Try.prog 60 #[.slice (some ⟨c, 0, none⟩) n n, .pointer (some ⟨b, 0, none⟩)] w fun r w' =>
      r = .returned (.tuple #[.int .i64 (nxG N T p false 15 0 0).1, .int .i64 (nxG N T p false 15 0 0).2.1]) ∧ ∃ j bad, RfAt w' b v T j bad ∧ okAt (nxG N T p false 15 0 0).2.1 (nxG N T p false 15 0 0).2.2.1 j bad ∧ w.grownBy w' (some b) := by
  obtain ⟨t0, hi0, hz0, hz1, hz2⟩ := info_parts info_bool
  obtain ⟨m, _, hm15, hpm, hall, hst⟩ := nx_spec N T p h15 15 0 0 rfl rfl (by omega) (by simp [top, fst, cn])
  generalize nxG N T p false 15 0 0 = x at *
  obtain ⟨xs, xe, xj, xb⟩ := x
  have H15 := Lib.hid h15
  have HSM := Lib.hid (small_codes h15 hU)
  have HC := Lib.hid hc
  have HR := Lib.hid hr
  have HALL := Lib.hid hall
  have HST := Lib.hid hst
  have HT := Lib.hid hT
  have hbw := hr.lt
  have hvw : ∀ k, v.ownBlock = some k → k < w.heap.size := fun k hk => (World.ownsRow.lt hr.row k hk).2
  have HVW := Lib.hid hvw
  clear hst hall hc hr h15 hU hvw hT
  simp only
  go_enter Try.func60, Try.ntmps60
  go_wp2_with fail
  go_loopw [6] (fun u wr => ∃ q : Nat, q ≤ m ∧ BlAt wr u (nextB T p q) ∧ RfAt wr b v T (p + q) false ∧ w.grownBy wr (some b) ∧ From w.heap.size u ∧ lenOf u = q) (fun u _ => m - lenOf u)
  case atStart => exact ⟨0, Nat.zero_le _, BlAt.nil _, HR.out, World.grownBy.refl _ _, From.nil _, rfl⟩
  case round =>
    obtain ⟨q, hq, hbl, hrf, hg, hf, hlen⟩ := hrel
    have hnl : (nextB T p q).length = q := nextB_length T p q (by omega)
    obtain ⟨ua, uc, rfl, _⟩ := hbl.shape
    rw [hnl] at hbl hf hlen ⊢
    have hcw : CodesAt wr c n N := rowK HC.out fun k hk => by
      cases hk
      exact hg.block c HC.out.lt (fun e => by
        cases e
        obtain ⟨_, h2⟩ := HC.out
        rcases h2 with ⟨e1, _⟩ | ⟨g', cap, cur, e1, _, h3, _⟩
        · cases e1
        · cases e1
          have := HR.out.blk
          rw [h3] at this
          simp at this)
    have CF := Lib.hid (find_any c n q uc ua N (nextB T p q) wr hN hnl hn (by omega) H15.out HSM.out hcw (bits_at hbl))
    have HBL := Lib.hid hbl
    have HRF := Lib.hid hrf
    have HG := Lib.hid hg
    have HF := Lib.hid hf
    clear hbl hrf hg hf hcw hlen
    go_wp2_with fail
    refine CF.out.mono ?_
    rintro r w2 ⟨rfl, b2⟩
    have HBL2 := Lib.hid (HBL.out.below b2)
    have HRF2 := Lib.hid (HRF.out.below b2)
    have HG2 : Hid (w.grownBy w2 (some b)) := Lib.hid (rgrown_trans HG.out ⟨b2.os, b2.tape, b2.output, b2.size, fun i hi _ => b2.block i hi⟩)
    clear b2 HBL HRF HG CF
    by_cases hqm : q < m
    · obtain ⟨e1, e2⟩ := HALL.out q (Nat.zero_le _) hqm
      rw [e1]
      obtain ⟨n1, n2, n3⟩ := next_bit T (p + q) e2
      have CB := Lib.hid (rfbits_any b v T (p + q) false 1 w2 HRF2.out (by omega) (by have := HT.out; omega))
      rw [show Bit.cnt 1 = 1 from rfl, n1, n2, n3] at CB
      have hsn := nextB_snoc T p q e2
      generalize tat T (p + q) = bit at *
      have HSN := Lib.hid hsn
      clear n1 n2 n3 hsn e1
      go_wp2_with fail
      refine CB.out.mono ?_
      rintro r w3 ⟨rfl, r3, g3⟩
      have HBL3 := Lib.hid (HBL2.out.block fun k hk => g3.block k (World.ownsRow.lt HBL2.out k hk).2 (fun e => by cases e; exact row_ne HBL2.out HRF2.out.blk (by decide) hk))
      have HG3 := Lib.hid (rgrown_trans HG2.out g3)
      have HRF3 : Hid (RfAt w3 b v T (p + q + 1) false) := Lib.hid r3
      obtain ⟨k0, k1, k2, _, _⟩ := r3.cells
      have k2' : w3.cell? ⟨b, 2, none⟩ = some (.int .i64 0) := k2
      clear r3 g3 CB HBL2 HG2 HRF2 k2
      have FIN : Hid (∀ v6 w6, w6.ownsRow 0 4 1 v6 (q + 1) (cellsB (nextB T p q) ++ [.bool bit]) → (w3.alloc (.cells #[.bool bit] 4)).grownBy w6 (Value.slice ua q uc).ownBlock → Near (w3.alloc (.cells #[.bool bit] 4)) (.slice ua q uc) v6 →
          BlAt w6 v6 (nextB T p (q + 1)) ∧ RfAt w6 b v T (p + (q + 1)) false ∧ w.grownBy w6 (some b) ∧ From w.heap.size v6 ∧ lenOf v6 = q + 1) := Lib.hid fun v6 w6 o6 g6 n6 => by
        have hs : (w3.alloc (.cells #[.bool bit] 4)).heap.size = w3.heap.size + 1 := by simp
        have hb3 : Below w3.heap.size w3 (w3.alloc (.cells #[.bool bit] 4)) := (Below.refl _ _).alloc (Nat.le_refl _) _
        have hws := HG3.out.size
        have ob : BlAt w6 v6 (nextB T p (q + 1)) := by
          rw [HSN.out]; unfold BlAt
          rw [List.length_append, hnl, Bit.cellsB_append]; exact o6
        refine ⟨ob, ?_, ?_, ?_, ?_⟩
        · exact rf_row (HRF3.out.below hb3) g6 hbw HVW.out HF.out
        · exact grown_row (rgrown_trans HG3.out ⟨hb3.os, hb3.tape, hb3.output, hb3.size, fun i hi _ => hb3.block i hi⟩) g6 HF.out
        · exact HF.out.near n6 (by omega)
        · obtain ⟨a', c', e, _⟩ := ob.shape
          rw [e, nextB_length T p (q + 1) (by omega)]; rfl
      have hq6 : q + 1 ≤ m := by omega
      clear HSN HRF3 HG3 HF
      rcases (show bit = true ∨ bit = false by cases bit <;> simp) with rfl | rfl
      all_goals (
        go_wp2_with (at_builtin; refine wpList_append_near _ rfl _ _ 41 rfl 4 t0 (.bool false) 1 1 Try.underlying41 hi0 hz0 hz1 hz2 rfl (by decide) (.slice ua q uc) q (cellsB (nextB T p q)) rfl (row_own (HBL3.out.alloc _) hnl) ⟨w3.heap.size, 0, none⟩ 1 1 [.bool _] rfl rfl (cell_one_new _ _ _) (by intro u hu; simp at hu; subst hu; rfl) (by unfold maxLen; omega) (by omega) ?_; intro v6 w6 o6 g6 n6; have H6 := Lib.hid (FIN.out v6 w6 o6 g6 n6); clear o6 g6 n6)
        refine ⟨⟨q + 1, hq6, H6.out⟩, ?_⟩
        rw [H6.out.2.2.2.2]
        show m - (q + 1) < m - q
        omega)
    · obtain rfl : q = m := by omega
      have hE : w2.cell? ⟨b, 2, none⟩ = some (.int .i64 0) := HRF2.out.cells.2.2.1
      rcases HST.out with ⟨s1, s2, s3, s4⟩ | ⟨s1, s2, s3⟩ | ⟨sy, s1, s2⟩
      · simp only at s3 s4
        subst s3
        subst s4
        rw [s1]
        obtain ⟨n1, n2, n3⟩ := next_none T (p + q) s2
        have CB := Lib.hid (rfbits_any b v T (p + q) false 1 w2 HRF2.out (by omega) (by have := HT.out; omega))
        rw [show Bit.cnt 1 = 1 from rfl, n1, n2, n3] at CB
        clear n1 n2 n3 hE
        go_wp2_with fail
        refine CB.out.mono ?_
        rintro r w3 ⟨rfl, r3, g3⟩
        have HG3 := Lib.hid (rgrown_trans HG2.out g3)
        have HRF3 : Hid (RfAt w3 b v T (p + q) true) := Lib.hid r3
        have k2' : w3.cell? ⟨b, 2, none⟩ = some (.int .i64 2) := r3.cells.2.2.1
        clear r3 g3 CB HG2 HRF2 HBL2
        go_wp2_with fail
        go_quiet (fail)
        have HRF4 := Lib.hid (HRF3.out.draws nq)
        have HG4 : Hid (w.grownBy (w3.drewN nq) (some b)) := Lib.hid ⟨HG3.out.os, HG3.out.tape, HG3.out.output, HG3.out.size, HG3.out.block⟩
        go_wp2_with fail
        go_ret2
        exact ⟨rfl, _, _, HRF4.out, fun h => by simp at h, HG4.out⟩
      · simp only at s2 s3
        subst s2
        subst s3
        rw [s1]
        go_wp2_with fail
        go_ret2
        exact ⟨rfl, _, _, HRF2.out, fun h => by simp at h, HG2.out⟩
      · simp only [Prod.mk.injEq] at s2
        obtain ⟨rfl, rfl, rfl, rfl⟩ := s2
        rw [s1]
        have hge : (0 : Int) ≤ (xs : Int) := by omega
        have hge2 : decide ((0 : Int) ≤ (xs : Int)) = true := by simp
        go_wp2_with fail
        go_ret2
        exact ⟨rfl, _, _, HRF2.out, fun _ => ⟨rfl, rfl⟩, HG2.out⟩
end Go.Proofs.Ytikfenimgjeplaa.Sym
