/-
  The program of layer 16 (plain): the iterator over the values of bytes, which eats the text that it captured.
-/
import Derived.Test.YtbdlmcpdplmdnaaPlnPrgB
import Derived.Test.YtbdlmcpdplmdnaaPredIn
namespace Go.Proofs.Ytbdlmcpdplmdnaa.Pln
open Go.ChangeShapes Go.WideShapes Go.ChangeAt Go.RowKit Go.Shelf Lz RowG RegVal Fmt Oct OwnB
set_option linter.unusedVariables false
set_option linter.unusedSimpArgs false
set_option maxRecDepth 100000
attribute [local go_sem] Oper.semAt_some

/-- What stands while the text is cut: all reads, then the store. -/
structure CutS (B1 : Nat) (u : Value) (Wd : World) (ℓ : Nat → Bool) (W : World) : Prop where
  c4 : ℓ 4 = true → ℓ 3 = true
  c3 : ℓ 3 = true → ℓ 0 = true ∧ ℓ 2 = true
  c2 : ℓ 2 = true → ℓ 1 = true
  n : ℓ 4 = false → Below Wd.heap.size Wd W
  j : ℓ 4 = true → ∃ W6, Below Wd.heap.size Wd W6 ∧ W = W6.setCell ⟨B1, 0, none⟩ u
theorem CutS.start (B1 : Nat) (u : Value) (Wd : World) : CutS B1 u Wd (fun _ => false) Wd :=
  ⟨fun h => (by cases h), fun h => (by cases h), fun h => (by cases h), fun _ => Below.refl _ _, fun h => (by cases h)⟩
theorem CutS.early {B1 : Nat} {u : Value} {Wd W : World} {ℓ : Nat → Bool} (h : CutS B1 u Wd ℓ W) (i : Nat) (hi : i < 4) (hl : ℓ i = false) : ℓ 4 = false := by
  cases e : ℓ 4 with
  | false => rfl
  | true =>
    have e3 := h.c4 e
    obtain ⟨e0, e2⟩ := h.c3 e3
    have e1 := h.c2 e2
    have : i = 0 ∨ i = 1 ∨ i = 2 ∨ i = 3 := by omega
    rcases this with rfl | rfl | rfl | rfl
    · rw [e0] at hl; cases hl
    · rw [e1] at hl; cases hl
    · rw [e2] at hl; cases hl
    · rw [e3] at hl; cases hl
theorem CutS.step {B1 : Nat} {u : Value} {Wd W W' : World} {ℓ : Nat → Bool} (h : CutS B1 u Wd ℓ W) (i : Nat) (hi : i < 4) (hl : ℓ i = false) (h3 : i = 3 → ℓ 0 = true ∧ ℓ 2 = true) (h2 : i = 2 → ℓ 1 = true) (b : Below W.heap.size W W') : CutS B1 u Wd (fun j => if j = i then true else ℓ j) W' := by
  have e4 := h.early i hi hl
  have hn := h.n e4
  have k4 : (if 4 = i then true else ℓ 4) = false := by rw [if_neg (by omega)]; exact e4
  refine ⟨fun e => ?_, fun e => ?_, fun e => ?_, fun _ => hn.trans (b.mono hn.size), fun e => ?_⟩
  · simp only [k4] at e; cases e
  · by_cases q : i = 3
    · subst q; simpa using h3 rfl
    · simp only [if_neg (Ne.symm q)] at e
      obtain ⟨a0, a2⟩ := h.c3 e
      exact ⟨by by_cases q : 0 = i <;> simp [q, a0], by by_cases q : 2 = i <;> simp [q, a2]⟩
  · by_cases q : i = 2
    · subst q; simpa using h2 rfl
    · simp only [if_neg (Ne.symm q)] at e
      have a1 := h.c2 e
      by_cases q : 1 = i <;> simp [q, a1]
  · simp only [k4] at e; cases e
def viV (F sR sR' : Value) (s : Nat) : Nat → Option Value
  | 0 => some sR
  | 1 => some F
  | 2 => some (.int .i64 (s : Nat))
  | 3 => some sR'
  | _ => none
def viE (X : Nat → Int) (M : Nat) (x : Fin M) : Array Value := #[.int .i64 (X x.1)]
def lenOf (B : Nat) (w : World) : Nat := match w.heap[B]? with | some (.cells cs _ _) => (match cs.getD 0 undef with | .string t => t.size | _ => 0) | _ => 0
theorem ext_ext (t : ByteArray) (a b : Nat) (h : a + b ≤ t.size) : (t.extract a t.size).extract b (t.extract a t.size).size = t.extract (a + b) t.size := by
  apply ByteArray.ext
  apply Array.ext'
  have e : ∀ (u : ByteArray) (k : Nat), (u.extract k u.size).data.toList = u.data.toList.drop k := fun u k => by
    simp
    exact List.take_of_length_le (by rw [List.length_drop]; exact Nat.le_refl _)
  rw [e, e, e, List.drop_drop]
theorem ext_zero (t : ByteArray) : t.extract 0 t.size = t := by
  apply ByteArray.ext
  apply Array.ext'
  simp
theorem ext_size (t : ByteArray) (a : Nat) : (t.extract a t.size).size = t.size - a := by simp
set_option maxHeartbeats 4000000 in
theorem valsIn_in (n : Nat) (hn : 2 ≤ n) (f : Fm) (hf : f.Wf) (hok : f.ok = true) (t : ByteArray) (M : Nat) (hM : M * f.size = t.size) (ht : t.size ≤ 100000) (w0 : World) (Bk B1 B2 Bt : Nat) (hB1 : Bt ≤ B1) (hBk : Bk ≤ B1) (h21 : B2 ≠ B1)
    (c1 : w0.heap[B1]? = some (.cells #[.string t] 9 (0, 0))) (c2 : w0.heap[B2]? = some (.cells #[.int .i64 f.B, .int .i64 f.D, .bool f.big, .bool f.tr, .int .i64 f.rm, .int .i64 f.gm, .int .i64 f.bm, .int .i64 f.rs, .int .i64 f.gs, .int .i64 f.bs] 23 (0, 0))) :
    Gives n Try.prog 51 #[.pointer (some ⟨B1, 0, none⟩), .pointer (some ⟨B2, 0, none⟩)] (viE (fun k => f.get (t.extract (k * f.size) t.size)) M) (VoK Bk B1 B2) 9 Bt (List.finRange M) w0 := by
  intro l J W hW hJ hY h0
  rw [List.length_finRange] at hY
  have ka : B1 < w0.heap.size := (Array.getElem?_eq_some_iff.1 c1).1
  have kb : B2 < w0.heap.size := (Array.getElem?_eq_some_iff.1 c2).1
  have ca := (hW.block B1 ka).trans c1
  have cb := (hW.block B2 kb).trans c2
  have hs1 := (size_le4 f).2.1 hok
  have hs4 := (size_le4 f).1
  have SZ := Lib.hid (fun w => size_any f hf w)
  have GE := Lib.hid (fun (k : Nat) (w : World) => fget_any f hf (t.extract (k * f.size) t.size) (by rw [ext_size]; omega) w)
  obtain ⟨X, hX⟩ : ∃ X, (fun k => f.get (t.extract (k * f.size) t.size)) = X := ⟨_, rfl⟩
  obtain ⟨E, hE⟩ : ∃ E, (fun k => f.getE (t.extract (k * f.size) t.size)) = E := ⟨_, rfl⟩
  rw [hX] at hY
  have GX : RowKit.Hid (∀ (k : Nat) (w : World), Calls Try.prog 52 #[f.v, .string (t.extract (k * f.size) t.size)] w fun e w' => e = .returned (.tuple #[.int .i64 (X k), .int .i64 (E k)]) ∧ Below w.heap.size w w') := Lib.hid (fun k w => by rw [← hX, ← hE]; exact GE.out k w)
  have HF : f.v = .agg #[.int .i64 f.B, .int .i64 f.D, .bool f.big, .bool f.tr, .int .i64 f.rm, .int .i64 f.gm, .int .i64 f.bm, .int .i64 f.rs, .int .i64 f.gs, .int .i64 f.bs] := rfl
  rw [HF] at SZ GX
  obtain ⟨s, hs⟩ : ∃ s, f.size = s := ⟨_, rfl⟩
  rw [hs] at hM hs4 hs1 SZ GX
  have hs0 := hs1.1
  have hkW : B1 < W.heap.size ∧ B2 < W.heap.size := ⟨by have := hW.size; omega, by have := hW.size; omega⟩
  have HJ := Lib.hid hJ
  have HY := Lib.hid hY
  have H0 := Lib.hid h0
  have HCA := Lib.hid ca
  have HCB := Lib.hid cb
  have HM := Lib.hid hM
  clear hJ hY h0 c1 c2 ka kb hW ca cb GE hX hE HF hs1 hs hok hf hM
  obtain ⟨B, D, big, tr, rm, gm, bm, rs, gs, bs⟩ := f
  simp only at *
  have HFM : RowKit.Hid (∀ (W : World), W.heap[B2]? = some (.cells #[.int .i64 B, .int .i64 D, .bool big, .bool tr, .int .i64 rm, .int .i64 gm, .int .i64 bm, .int .i64 rs, .int .i64 gs, .int .i64 bs] 23 (0, 0)) → FmAt W B2 ⟨B, D, big, tr, rm, gm, bm, rs, gs, bs⟩) := Lib.hid (fun W h => ⟨cellAt h rfl, cellAt h rfl, cellAt h rfl, cellAt h rfl, cellAt h rfl, cellAt h rfl, cellAt h rfl, cellAt h rfl, cellAt h rfl, cellAt h rfl⟩)
  refine callsIn_of_wp Try.func51 rfl trivial ?_ rfl
  simp only [Try.ntmps51, List.size_toArray, List.length_cons, List.length_nil, Nat.reduceAdd, Nat.reduceSub, Array.replicate_succ, Array.replicate_zero, List.push_toArray, List.append_toArray, List.nil_append, List.cons_append]
  gi_wp2
  gi_loopw [4] (fun _ wr => ∃ k : Nat, k ≤ M ∧ J (upto M k) wr ∧ wr.heap[B1]? = some (.cells #[.string (t.extract (k * s) t.size)] 9 (0, 0)) ∧ wr.heap[B2]? = some (.cells #[.int .i64 B, .int .i64 D, .bool big, .bool tr, .int .i64 rm, .int .i64 gm, .int .i64 bm, .int .i64 rs, .int .i64 gs, .int .i64 bs] 23 (0, 0)) ) (fun _ wr => lenOf B1 wr)
  case atStart => exact ⟨0, Nat.zero_le _, by rw [upto_zero]; exact H0.out, by rw [Nat.zero_mul, ext_zero]; exact HCA.out, HCB.out⟩
  case round =>
    obtain ⟨k, hk, hj, ha, hb⟩ := hrel
    have HJJ := Lib.hid hj
    have HA := Lib.hid ha
    have HB := Lib.hid hb
    have ca := cellAt (o := 0) ha rfl
    obtain ⟨R, hR⟩ : ∃ R, t.extract (k * s) t.size = R := ⟨_, rfl⟩
    have hRs : R.size = (M - k) * s := by rw [← hR, ext_size, ← HM.out, Nat.mul_sub_right_distrib]
    rw [hR] at ca HA
    by_cases hlt : k < M
    · have hRp : s ≤ R.size := by
        rw [hRs]
        exact Nat.le_trans (by omega) (Nat.mul_le_mul_right s (show 1 ≤ M - k by omega))
      have d1 : decide ((0 : Int) < R.size) = true := decide_eq_true (by omega)
      have d2 : decide (0 < R.size) = true := decide_eq_true (by omega)
      have hRb : R.size ≤ 100000 := by rw [← hR, ext_size]; omega
      have G1 := Lib.hid (fun w => GX.out k w)
      rw [hR] at G1
      obtain ⟨R2, hR2⟩ : ∃ R2, R.extract s R.size = R2 := ⟨_, rfl⟩
      have HR2 : RowKit.Hid (t.extract ((k + 1) * s) t.size = R2 ∧ R2.size = R.size - s) := Lib.hid ⟨by
        rw [← hR2, ← hR, ext_ext t (k * s) s (by rw [← HM.out, ← Nat.succ_mul]; exact Nat.mul_le_mul_right _ hlt), Nat.succ_mul], by rw [← hR2, ext_size]⟩
      have hsI : (s : Int) ≤ R.size := by omega
      obtain ⟨x, hx⟩ : ∃ x, X k = x := ⟨_, rfl⟩
      obtain ⟨ee, hee⟩ : ∃ ee, E k = ee := ⟨_, rfl⟩
      rw [hx, hee] at G1
      have hEq : viE X M ⟨k, hlt⟩ = #[.int .i64 x] := by unfold viE; rw [hx]
      have hy := fun Wc (h : J (upto M k) Wc) => HY.out (upto M k) ⟨k, hlt⟩ Wc h (by rw [upto_length (Nat.le_of_lt hlt)]; exact hlt)
      rw [hEq] at hy
      have HYY := Lib.hid hy
      have HLT := Lib.hid hlt
      obtain ⟨a0, a1, a2, a3, a4, a5, a6, a7, a8, a9⟩ := HFM.out wr hb
      clear hj hy hEq hx hee hR hRs ha hb
      gi_wp2
      refine ⟨trivial, fun _ => by omega, (callsIn_wide.2 (G1.out _)).mono ?_⟩
      rintro e w5 ⟨rfl, b5⟩
      have ha5 := (b5.block B1 (Array.getElem?_eq_some_iff.1 HA.out).1).trans HA.out
      have hb5 := (b5.block B2 (Array.getElem?_eq_some_iff.1 HB.out).1).trans HB.out
      have HJ5 := Lib.hid (HJ.out _ _ _ HJJ.out (turn_below b5))
      clear b5 G1 a0 a1 a2 a3 a4 a5 a6 a7 a8 a9 ca
      gi_wp2
      obtain ⟨Wd, hWd⟩ : ∃ Wd, w5.drew = Wd := ⟨_, rfl⟩
      have HAd : RowKit.Hid (Wd.heap[B1]? = some (.cells #[.string R] 9 (0, 0))) := Lib.hid (by rw [← hWd]; exact ha5)
      have HBd : RowKit.Hid (Wd.heap[B2]? = some (.cells #[.int .i64 B, .int .i64 D, .bool big, .bool tr, .int .i64 rm, .int .i64 gm, .int .i64 bm, .int .i64 rs, .int .i64 gs, .int .i64 bs] 23 (0, 0))) := Lib.hid (by rw [← hWd]; exact hb5)
      have HJd : RowKit.Hid (J (upto M k) Wd) := Lib.hid (by rw [← hWd]; exact HJ.out _ _ _ HJ5.out (Turn.drewN _ _ _ 1))
      refine regionIn_preds (by kernel_rfl) (viV (.agg #[.int .i64 B, .int .i64 D, .bool big, .bool tr, .int .i64 rm, .int .i64 gm, .int .i64 bm, .int .i64 rs, .int .i64 gs, .int .i64 bs]) (.string R) (.string R2) s) (fun _ _ _ => True) (CutS B1 (.string R2) Wd) [1, 2]
        [none, none, none, none, none, none, none, none, none, none, none, none, none, none, none, some 0, some 1, some 2, some 3, none, none, none, none]
        (by kernel_rfl) (by kernel_rfl) (by rfl) (by kernel_rfl) (by kernel_rfl) (by kernel_rfl) (by rw [hWd]; exact CutS.start _ _ _) ⟨?_, ?_, ?_, ?_, ?_, trivial⟩ ?_
      case refine_6 =>
        intro vs ℓ wc hl hS hR
        obtain ⟨W6, hb6, rfl⟩ := hS.j (hl 4 (by decide))
        clear hR hl hS
        simp only [zipF, viV, Option.getD_some, Option.getD_none]
        have ha6 := (hb6.block B1 (Array.getElem?_eq_some_iff.1 HAd.out).1).trans HAd.out
        have hb6' := (hb6.block B2 (Array.getElem?_eq_some_iff.1 HBd.out).1).trans HBd.out
        have ha7 : (W6.setCell ⟨B1, 0, none⟩ (.string R2)).heap[B1]? = some (.cells #[.string R2] 9 (0, 0)) := setRowAt ha6 rfl
        have hb7 : (W6.setCell ⟨B1, 0, none⟩ (.string R2)).heap[B2]? = some (.cells #[.int .i64 B, .int .i64 D, .bool big, .bool tr, .int .i64 rm, .int .i64 gm, .int .i64 bm, .int .i64 rs, .int .i64 gs, .int .i64 bs] 23 (0, 0)) := (setOther h21).trans hb6'
        have hj7 : J (upto M k) (W6.setCell ⟨B1, 0, none⟩ (.string R2)) := HJ.out _ _ _ (HJ.out _ _ _ HJd.out (turn_below hb6)) (Turn.setCell hB1 ha6 0 _)
        obtain ⟨fn, tmps, assign, body, hy, hR⟩ := HYY.out _ hj7
        have HR := Lib.hid hR
        have HA7 := Lib.hid ha7
        have HB7 := Lib.hid hb7
        generalize W6.setCell ⟨B1, 0, none⟩ (.string R2) = w7 at *
        clear hR hj7 hb6 ha6 hb6' ha7 hb7
        gi_wp2
        refine ⟨fun _ => by omega, HR.out.mono ?_⟩
        rintro e w8 ⟨rfl, hJ8, hK8⟩
        have HJ8 : RowKit.Hid (J (upto M (k + 1)) w8) := Lib.hid (by rw [upto_succ HLT.out]; exact hJ8)
        have HA8 : RowKit.Hid (w8.heap[B1]? = some (.cells #[.string (t.extract ((k + 1) * s) t.size)] 9 (0, 0))) := Lib.hid (by rw [HR2.out.1]; exact hK8.b1.trans HA7.out)
        have HB8 := Lib.hid (hK8.b2.trans HB7.out)
        have HK8 := Lib.hid hK8
        clear hJ8 hK8 HR hy
        gi_wp2
        refine ⟨⟨k + 1, HLT.out, HJ8.out, HA8.out, HB8.out⟩, ?_⟩
        have e1 : lenOf B1 w8 = R2.size := by unfold lenOf; rw [HA8.out, HR2.out.1]; rfl
        have e2 : lenOf B1 wr = R.size := by unfold lenOf; rw [HA.out]; rfl
        rw [e1, e2]
        have := HR2.out.2
        omega
      case refine_5 =>
        intro ℓ act W9 hl hS hw hx hr hd
        have l3 : ℓ 3 = true := hw ⟨3, .data⟩ (by simp) (by rfl)
        clear hw hx
        simp [readFacts, depFactsP, dstOf, Region.binds, viV] at hr hd
        refine ⟨wanted_none (by rfl), fun K hK => ?_⟩
        have hn := hS.n hl
        have e2 := (hn.block B1 (Array.getElem?_eq_some_iff.1 HAd.out).1).trans HAd.out
        have cbx := cellAt (o := 0) e2 rfl
        have cbf := frozenAt (o := 0) e2
        unfold Oper.wpIn
        refine ⟨fun _ _ => trivial, ?_⟩
        go_simp
        refine hK undef _ trivial ⟨fun _ => by simpa using l3, fun _ => by have := hS.c3 l3; simpa using this, fun _ => by have := hS.c2 (hS.c3 l3).2; simpa using this, fun e => by simp at e, fun _ => ⟨W9, hn, rfl⟩⟩ (fun _ _ _ _ _ => trivial)
      case refine_3 =>
        intro ℓ act W9 hl hS hw hx hr hd
        have l1 : ℓ 1 = true := hw ⟨1, .data⟩ (by simp) (by rfl)
        clear hw hx
        simp [readFacts, depFactsP, dstOf, Region.binds, viV] at hr hd
        refine ⟨wanted_none (by rfl), fun K hK => ?_⟩
        unfold Oper.wpIn
        refine ⟨fun _ _ => trivial, ?_⟩
        go_simp
        refine ⟨fun _ => by omega, (callsIn_wide.2 (SZ.out _)).mono ?_⟩
        rintro e w' ⟨rfl, b⟩
        exact hK _ _ rfl (hS.step 2 (by decide) hl (fun e => absurd e (by decide)) (fun _ => l1) b) (fun _ _ _ _ _ => trivial)
      case refine_4 =>
        intro ℓ act W9 hl hS hw hx hr hd
        have l0 : ℓ 0 = true := hw ⟨0, .data⟩ (by simp) (by rfl)
        have l2 : ℓ 2 = true := hw ⟨2, .data⟩ (by simp) (by rfl)
        clear hw hx
        simp [readFacts, depFactsP, dstOf, Region.binds, viV] at hr hd
        refine ⟨wanted_none (by rfl), fun K hK => ?_⟩
        unfold Oper.wpIn
        refine ⟨fun _ _ => trivial, ?_⟩
        go_simp
        exact hK _ _ (by first | rfl | (rw [hR2]; rfl)) (hS.step 3 (by decide) hl (fun _ => ⟨l0, l2⟩) (fun e => absurd e (by decide)) (Below.refl _ _)) (fun _ _ _ _ _ => trivial)
      case refine_1 =>
        intro ℓ act W9 hl hS hw hx hr hd
        clear hw hx
        simp only [readFacts, depFactsP] at hr hd
        have hn := hS.n (hS.early 0 (by decide) hl)
        have cbx := cellAt (o := 0) ((hn.block B1 (Array.getElem?_eq_some_iff.1 HAd.out).1).trans HAd.out) rfl
        refine ⟨wanted_none (by rfl), fun K hK => ?_⟩
        unfold Oper.wpIn
        refine ⟨fun _ _ => trivial, ?_⟩
        go_simp
        exact hK _ _ rfl (hS.step 0 (by decide) hl (fun e => absurd e (by decide)) (fun e => absurd e (by decide)) (Below.refl _ _)) (fun _ _ _ _ _ => trivial)
      case refine_2 =>
        intro ℓ act W9 hl hS hw hx hr hd
        clear hw hx
        simp only [readFacts, depFactsP] at hr hd
        have hn := hS.n (hS.early 1 (by decide) hl)
        obtain ⟨a0, a1, a2, a3, a4, a5, a6, a7, a8, a9⟩ := HFM.out W9 ((hn.block B2 (Array.getElem?_eq_some_iff.1 HBd.out).1).trans HBd.out)
        dsimp only at a0 a1 a2 a3 a4 a5 a6 a7 a8 a9
        refine ⟨wanted_none (by rfl), fun K hK => ?_⟩
        unfold Oper.wpIn
        refine ⟨fun _ _ => trivial, ?_⟩
        go_simp
        exact hK _ _ rfl (hS.step 1 (by decide) hl (fun e => absurd e (by decide)) (fun e => absurd e (by decide)) (Below.refl _ _)) (fun _ _ _ _ _ => trivial)
    · obtain rfl : k = M := by omega
      have hJe : J (List.finRange k) wr := by
        have e := HJJ.out
        rw [upto_all] at e
        exact e
      have hR0 : R.size = 0 := by rw [hRs, Nat.sub_self, Nat.zero_mul]
      have d1 : decide ((0 : Int) < R.size) = false := decide_eq_false (by omega)
      have d2 : decide (0 < R.size) = false := decide_eq_false (by omega)
      have HJE := Lib.hid hJe
      clear hJe hj ha hb hRs hR
      gi_wp2
      go_end0
      exact ⟨⟨_, rfl⟩, HJE.out⟩
end Go.Proofs.Ytbdlmcpdplmdnaa.Pln
