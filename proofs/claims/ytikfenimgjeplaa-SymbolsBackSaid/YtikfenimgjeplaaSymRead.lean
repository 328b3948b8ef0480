/-
  Contracts of symbols.number and symbols.token.
-/
import Derived.Test.YtikfenimgjeplaaSymReadM
import Derived.Test.YtikfenimgjeplaaSymPut
import Derived.Laws.ResultCell
namespace Go.Proofs.Ytikfenimgjeplaa.Sym
open Go.ChangeShapes Go.WideShapes Go.ChangeAt Go.RowKit
open Go.Proofs.Ytikfenimgjeplaa.Huf (nxG next_any DecAt fst used symsOf)
open Go.Proofs.Ytikfenimgjeplaa.Bit (rV rI rOk errI RdAt tb tb_length rbits_any rerr_any rgrown_trans rgrown_set cnt_nat)
open Go.Proofs.Ytikfenimgjeplaa.Lz (Tok okT tokC)
set_option linter.unusedVariables false
set_option maxRecDepth 100000

theorem rd_lt {w : World} {b : Nat} {t : ByteArray} {i : Nat} {e : Bool} (h : RdAt 91 w b t i e) : b < w.heap.size := (Array.getElem?_eq_some_iff.1 h).1
theorem rd_below {w w' : World} {b : Nat} {t : ByteArray} {i : Nat} {e : Bool} (h : RdAt 91 w b t i e) (k : Below w.heap.size w w') : RdAt 91 w' b t i e := by
  have hl := rd_lt h
  unfold RdAt at *; rw [k.block b hl]; exact h
theorem grown_of {w w' : World} (k : Below w.heap.size w w') (row : Option Nat) : w.grownBy w' row := ⟨k.os, k.tape, k.output, k.size, fun i hi _ => k.block i hi⟩
theorem grown_set {w w' : World} {row : Option Nat} (h : w.grownBy w' row) {P : Nat} (hP : w.heap.size ≤ P) (o : Nat) (v : Value) : w.grownBy (w'.setCell ⟨P, o, none⟩ v) row :=
  ⟨h.os, h.tape, h.output, by simpa using h.size, fun i hi hr => (heap_setCell_other w' ⟨P, o, none⟩ i v (fun e => by have : P = i := e.symm; omega)).trans (h.block i hi hr)⟩
theorem rd_set {w : World} {b P o : Nat} {t : ByteArray} {i : Nat} {e : Bool} {v : Value} (h : RdAt 91 w b t i e) (hP : P ≠ b) : RdAt 91 (w.setCell ⟨P, o, none⟩ v) b t i e := by
  unfold RdAt at *
  rw [heap_setCell_other w ⟨P, o, none⟩ b v (fun e => hP e.symm)]
  exact h
theorem store3 {w : World} {R : Nat} {x0 x1 x2 : Value} {T : TypeId} (h : w.heap[R]? = some (.cells #[x0, x1, x2] T (0, 0))) (a b c : Value) :
    (((w.setCell ⟨R, 0, none⟩ a).setCell ⟨R, 1, none⟩ b).setCell ⟨R, 2, none⟩ c).heap[R]? = some (.cells #[a, b, c] T (0, 0)) := by
  have h1 := heap_setCell_same w R 0 _ _ a h
  have h2 := heap_setCell_same (w.setCell ⟨R, 0, none⟩ a) R 1 _ _ b h1
  have h3 := heap_setCell_same ((w.setCell ⟨R, 0, none⟩ a).setCell ⟨R, 1, none⟩ b) R 2 _ _ c h2
  exact h3
theorem ret_cell_tmp {P : Program} {fn : Func} {p u : Tmp} {ty : TypeId} (h : fn.results = #[.cell p ty, .tmp u]) (tmps : Array Value) (w : World) (g : Nat) (t : TypeId) (cs : Array Value) (fr : Nat × Nat) (d : TypeDesc)
    (hp : tmps.getD p undef = .pointer (some ⟨g, 0, none⟩)) (hg : w.heap[g]? = some (.cells cs t fr))
    (hu : P.underlying ty = some d) (hd : (match d with | .struct _ | .array _ _ => true | _ => false) = true) (hi : (P.info? ty).map (·.size) = some cs.size) :
    (results fn tmps).run P w = .ok (.tuple #[.agg cs, tmps.getD u undef]) w := by
  rw [results_cell_tmp h, hp]
  simp [asAddr, run_loadVar_row w g t ty cs fr d hg hu hd hi, Result.andThen]

set_option maxHeartbeats 1000000 in
theorem number_any (fid : FuncId) (b : Nat) (t : ByteArray) (i s : Nat) (o : Nat × Nat) (w : World) (h : RdAt 91 w b t i false) (hi : i ≤ (tb t).length) (ht : t.size ≤ 1000000) (h1 : o.1 ≤ 100000) (h2 : o.2 ≤ 32)
    (hE : Enters Try.prog fid) (hf : ∀ w, Calls Try.prog fid #[.int .i64 s] w fun r w' => r = .returned (pairN o) ∧ Below w.heap.size w w') :
    Calls Try.prog 77 #[.pointer (some ⟨b, 0, none⟩), .int .i64 s, .func (.func fid) #[] #[]] w fun r w' =>
      r = .returned (.tuple #[.int .i64 (numG o (tb t) i).1, .int .i64 (numG o (tb t) i).2.1]) ∧ RdAt 91 w' b t (numG o (tb t) i).2.2.1 (numG o (tb t) i).2.2.2 ∧ w.grownBy w' (some b) := by
  have hE2 : ∀ w, (callFunc fid #[.int .i64 s]).run Try.prog w = .ok (.enter fid #[.int .i64 s]) w := fun w => hE _ w
  have HF := Lib.hid hf
  have H := Lib.hid h
  have HI := Lib.hid hi
  obtain ⟨o1, o2⟩ := o
  have hrv : rV (tb t) i false o2 ≤ 4294967296 := by
    unfold rV
    split
    · have h3 := Bit.num_lt (((tb t).drop i).take o2)
      have h4 : (2 : Nat) ^ (((tb t).drop i).take o2).length ≤ 2 ^ 32 := Nat.pow_le_pow_right (by decide) (by rw [List.length_take]; omega)
      omega
    · omega
  clear hE hf h hi
  unfold pairN at HF
  simp only at h1 h2 HF
  have CR := Lib.hid (fun w h => rbits_any b t i false o2 w h HI.out (by omega))
  rw [cnt_nat o2 h2] at CR
  unfold numG
  simp only
  generalize rV (tb t) i false o2 = x at *
  generalize rI (tb t) i false o2 = j at *
  generalize rOk (tb t) i false o2 = ok at *
  by_cases h0 : o1 = 0
  · rw [if_pos h0]
    subst h0
    go_enter Try.func77, Try.ntmps77
    go_wp2_with fail
    refine (HF.out w).mono ?_
    rintro r w1 ⟨rfl, b1⟩
    have HR := Lib.hid (rd_below H.out b1)
    have HG := Lib.hid (grown_of b1 (some b))
    clear b1
    go_wp2_with fail
    go_ret2
    exact ⟨rfl, HR.out, HG.out⟩
  · rw [if_neg h0]
    have h0' : ((o1 : Int) == 0) = false := by simpa using h0
    have hw : IntKind.i64.wrap ((o1 : Int) + x) = ((o1 + x : Nat) : Int) := by push_cast; exact IntWalk.i64_in _ (by omega)
    generalize o1 + x = ox at *
    go_enter Try.func77, Try.ntmps77
    go_wp2_with fail
    refine (HF.out w).mono ?_
    rintro r w1 ⟨rfl, b1⟩
    have HR := Lib.hid (rd_below H.out b1)
    have HG := Lib.hid (grown_of b1 (some b))
    clear b1
    go_wp2_with fail
    refine (CR.out _ HR.out).mono ?_
    rintro r w2 ⟨rfl, r2, g2⟩
    have HR2 := Lib.hid r2
    have HG2 := Lib.hid (rgrown_trans HG.out g2)
    clear r2 g2 HR HG CR
    go_wp2_with fail
    refine (rerr_any b t j (!ok) w2 HR2.out).mono ?_
    rintro r w3 ⟨rfl, rfl⟩
    go_wp2_with fail
    go_ret2
    exact ⟨rfl, HR2.out, HG2.out⟩

/-- What a token that lies in a result's cell is handed back as. -/
theorem ret_token (tmps : Array Value) (w : World) (R : Nat) (t : Tok) (e : Int) (hp : tmps.getD 6 undef = .pointer (some ⟨R, 0, none⟩)) (he : tmps.getD 7 undef = .int .i64 e) (hg : w.heap[R]? = some (.cells (tokC t) 64 (0, 0))) :
    (results Try.f59 tmps).run Try.prog w = .ok (.tuple #[.agg (tokC t), .int .i64 e]) w := by
  rw [ret_cell_tmp rfl tmps w R 64 (tokC t) (0, 0) _ hp hg Try.underlying64 rfl (by kernel_rfl), he]

set_option maxHeartbeats 4000000 in
theorem token_any (b : Nat) (t : ByteArray) (i s D : Nat) (S : Nat → Value) (M : List Nat) (w : World) (h : RdAt 91 w b t i false) (hd : DecAt w D S (fst M) (used M 15) (symsOf M M.length))
    (hi : i ≤ (tb t).length) (ht : t.size ≤ 1000000) (hM : M.length ≤ 320) (hU : used M 15 ≤ 32768) :
    Calls Try.prog 59 #[.pointer (some ⟨b, 0, none⟩), .int .i64 s, .pointer (some ⟨D, 0, none⟩)] w fun r w' =>
      r = .returned (.tuple #[.agg (tokC (tokG M (tb t) i s).1), .int .i64 (tokG M (tb t) i s).2.1]) ∧ RdAt 91 w' b t (tokG M (tb t) i s).2.2.1 (tokG M (tb t) i s).2.2.2 ∧ w.grownBy w' (some b) := by
  have H := Lib.hid h
  have HD := Lib.hid hd
  have HU := Lib.hid hU
  have hbw := rd_lt h
  clear h hd hU
  obtain ⟨⟨rt, re, rj, rb⟩, hres⟩ : ∃ res, tokG M (tb t) i s = res := ⟨_, rfl⟩
  rw [hres]
  have HRES := Lib.hid hres
  clear hres
  simp only
  by_cases h1 : s < 256
  · have h1' : (s : Int) < 256 := by omega
    have e := HRES.out
    rw [tokG_byte h1] at e
    simp only [Prod.mk.injEq] at e
    obtain ⟨rfl, rfl, rfl, rfl⟩ := e
    clear HRES
    go_enter Try.func59, Try.ntmps59
    go_wp2_with fail
    (try simp only [Exit.inBlock, Exit.then])
    have bX : Below w.heap.size w (w.alloc (.cells #[.int .i64 s, .int .i64 0, .int .i64 0] 64)) := (Below.refl _ _).alloc (Nat.le_refl _) _
    refine bodyPost_ret (v := .tuple #[.agg (tokC ⟨s, 0, 0⟩), .int .i64 0]) (ret_token _ _ w.heap.size ⟨s, 0, 0⟩ 0 rfl rfl (heap_alloc_new _ _)) rfl ?_
    exact ⟨rfl, rd_below H.out bX, grown_of bX _⟩
  · have h1' : ¬ ((s : Int) < 256) := by omega
    have H1 := Lib.hid h1
    have ls := lenO_small s
    have a1 := num_ok (o := lenO s) hi
    have CN := Lib.hid (fun w h => number_any 16 b t i s (lenO s) w h hi ht (by omega) (by omega) (enters_of Try.func16 (by kernel_rfl) rfl) (fun w => lengthOf_any s w))
    generalize hga : numG (lenO s) (tb t) i = a at *
    obtain ⟨av, ae, aj, ab⟩ := a
    have HGA := Lib.hid hga
    simp only at a1 CN
    have hX := heap_alloc_new w (.cells #[.int .i64 0, .int .i64 0, .int .i64 0] 64)
    have bX : Below w.heap.size w (w.alloc (.cells #[.int .i64 0, .int .i64 0, .int .i64 0] 64)) := (Below.refl _ _).alloc (Nat.le_refl _) _
    clear hga
    go_enter Try.func59, Try.ntmps59
    go_wp2_with fail
    have hPw : w.heap.size < (w.alloc (.cells #[.int .i64 0, .int .i64 0, .int .i64 0] 64)).heap.size := by simp
    generalize (w.alloc (.cells #[.int .i64 0, .int .i64 0, .int .i64 0] 64)) = w1 at *
    have HR1 := Lib.hid (rd_below H.out bX)
    have HD1 := Lib.hid (HD.out.below bX (Nat.le_refl _))
    have HG1 := Lib.hid (grown_of bX (some b))
    have HP1 := Lib.hid hX
    have hPb : w.heap.size ≠ b := by omega
    clear bX hX
    generalize hPp : w.heap.size = P at hPw HP1 hPb ⊢
    have HPp := Lib.hid hPp
    clear hPp
    refine (CN.out w1 HR1.out).mono ?_
    rintro r w2 ⟨rfl, r2, g2⟩
    have HR2 := Lib.hid r2
    have HP2 := Lib.hid ((g2.block P hPw (by simp; exact hPb)).trans HP1.out)
    have HD2 := Lib.hid (HD1.out.grown g2 HR1.out (by decide) (by decide))
    have HG2 := Lib.hid (rgrown_trans HG1.out g2)
    have hPw2 : P < w2.heap.size := Nat.lt_of_lt_of_le hPw g2.size
    have STORE : Hid (∀ (wk : World) (x0 x1 x2 : Value) (j : Nat) (e : Bool), wk.heap[P]? = some (.cells #[.int .i64 0, .int .i64 0, .int .i64 0] 64 (0, 0)) → RdAt 91 wk b t j e → w.grownBy wk (some b) →
        (((wk.setCell ⟨P, 0, none⟩ x0).setCell ⟨P, 1, none⟩ x1).setCell ⟨P, 2, none⟩ x2).heap[P]? = some (.cells #[x0, x1, x2] 64 (0, 0)) ∧
        RdAt 91 (((wk.setCell ⟨P, 0, none⟩ x0).setCell ⟨P, 1, none⟩ x1).setCell ⟨P, 2, none⟩ x2) b t j e ∧ w.grownBy (((wk.setCell ⟨P, 0, none⟩ x0).setCell ⟨P, 1, none⟩ x1).setCell ⟨P, 2, none⟩ x2) (some b)) := Lib.hid fun wk x0 x1 x2 j e k1 k2 k3 =>
      ⟨store3 k1 x0 x1 x2, rd_set (rd_set (rd_set k2 hPb) hPb) hPb, grown_set (grown_set (grown_set k3 (by rw [HPp.out]; exact Nat.le_refl _) _ _) (by rw [HPp.out]; exact Nat.le_refl _) _ _) (by rw [HPp.out]; exact Nat.le_refl _) _ _⟩
    clear r2 g2 HR1 HD1 HG1 HP1 CN hPw
    by_cases hae : ae = 0
    · subst hae
      obtain ⟨rfl, haj⟩ := a1.1 rfl
      have haT := a1.2
      have CX := Lib.hid (fun w h hd => next_any D S M b t aj false w hd h haT ht hM HU.out)
      have x1 := nx_ok M (tb t) aj 15 0 0 (by omega)
      have x2 := nx_le M (tb t) aj false 15 0 0 (by omega)
      generalize hgx : nxG M (tb t) aj false 15 0 0 = x at *
      obtain ⟨xs, xe, xj, xb⟩ := x
      have HGX := Lib.hid hgx
      simp only at x1 x2 CX
      clear a1 haj haT hgx
      go_wp2_with fail
      refine (CX.out w2 HR2.out HD2.out).mono ?_
      rintro r w3 ⟨rfl, r3, g3⟩
      have HR3 := Lib.hid r3
      have HP3 := Lib.hid ((g3.block P hPw2 (by simp; exact hPb)).trans HP2.out)
      have HG3 := Lib.hid (rgrown_trans HG2.out g3)
      have hPw3 : P < w3.heap.size := Nat.lt_of_lt_of_le hPw2 g3.size
      clear r3 g3 HR2 HP2 HG2 HD2 CX
      by_cases hxe : xe = 0
      · subst hxe
        obtain ⟨rfl, hxj⟩ := x1 rfl
        have ds := distO_small xs
        have d1 := num_ok (o := distO xs) x2
        have CD := Lib.hid (fun w h => number_any 18 b t xj xs (distO xs) w h x2 ht (by omega) (by omega) (enters_of Try.func18 (by kernel_rfl) rfl) (fun w => distanceOf_any xs w))
        generalize hgd : numG (distO xs) (tb t) xj = d at *
        obtain ⟨dv, de, dj, db⟩ := d
        have HGD := Lib.hid hgd
        simp only at d1 CD
        clear hgd x1 x2 hxj ds
        go_wp2_with fail
        refine (CD.out w3 HR3.out).mono ?_
        rintro r w4 ⟨rfl, r4, g4⟩
        have HR4 := Lib.hid r4
        have HP4 := Lib.hid ((g4.block P hPw3 (by simp; exact hPb)).trans HP3.out)
        have HG4 := Lib.hid (rgrown_trans HG3.out g4)
        clear r4 g4 HR3 HP3 HG3 CD
        have f0 : w4.frozen? ⟨P, 0, none⟩ = false := frozen_of_row w4 P 0 _ _ HP4.out
        have f1 : w4.frozen? ⟨P, 1, none⟩ = false := frozen_of_row w4 P 1 _ _ HP4.out
        have f2 : w4.frozen? ⟨P, 2, none⟩ = false := frozen_of_row w4 P 2 _ _ HP4.out
        obtain ⟨c0, c1, c2⟩ := tok_block HP4.out
        by_cases hde : de = 0
        · subst hde
          have e := HRES.out
          rw [tokG_ok H1.out HGA.out HGX.out HGD.out] at e
          simp only [Prod.mk.injEq] at e
          obtain ⟨rfl, rfl, rfl, rfl⟩ := e
          have K := Lib.hid (STORE.out w4 (.int .i64 0) (.int .i64 av) (.int .i64 dv) dj db HP4.out HR4.out HG4.out)
          clear HRES d1 STORE
          go_wp2_with fail
          (try simp only [Exit.inBlock, Exit.then])
          refine bodyPost_ret (v := .tuple #[.agg (tokC ⟨0, av, dv⟩), .int .i64 0]) (ret_token _ _ P ⟨0, av, dv⟩ 0 rfl rfl K.out.1) rfl ?_
          exact ⟨rfl, K.out.2⟩
        · have hde2 : (de == 0) = false := by simpa using hde
          have e := HRES.out
          rw [tokG_e3 H1.out HGA.out HGX.out HGD.out hde] at e
          simp only [Prod.mk.injEq] at e
          obtain ⟨rfl, rfl, rfl, rfl⟩ := e
          have K := Lib.hid (STORE.out w4 (.int .i64 0) (.int .i64 0) (.int .i64 0) dj db HP4.out HR4.out HG4.out)
          clear HRES d1 STORE
          go_wp2_with fail
          (try simp only [Exit.inBlock, Exit.then])
          refine bodyPost_ret (v := .tuple #[.agg (tokC ⟨0, 0, 0⟩), .int .i64 de]) (ret_token _ _ P ⟨0, 0, 0⟩ de rfl rfl K.out.1) rfl ?_
          exact ⟨rfl, K.out.2⟩
      · have hxe2 : (xe == 0) = false := by simpa using hxe
        have f0 : w3.frozen? ⟨P, 0, none⟩ = false := frozen_of_row w3 P 0 _ _ HP3.out
        have f1 : w3.frozen? ⟨P, 1, none⟩ = false := frozen_of_row w3 P 1 _ _ HP3.out
        have f2 : w3.frozen? ⟨P, 2, none⟩ = false := frozen_of_row w3 P 2 _ _ HP3.out
        obtain ⟨c0, c1, c2⟩ := tok_block HP3.out
        have e := HRES.out
        rw [tokG_e2 H1.out HGA.out HGX.out hxe] at e
        simp only [Prod.mk.injEq] at e
        obtain ⟨rfl, rfl, rfl, rfl⟩ := e
        have K := Lib.hid (STORE.out w3 (.int .i64 0) (.int .i64 0) (.int .i64 0) xj xb HP3.out HR3.out HG3.out)
        clear HRES x1 STORE
        go_wp2_with fail
        (try simp only [Exit.inBlock, Exit.then])
        refine bodyPost_ret (v := .tuple #[.agg (tokC ⟨0, 0, 0⟩), .int .i64 xe]) (ret_token _ _ P ⟨0, 0, 0⟩ xe rfl rfl K.out.1) rfl ?_
        exact ⟨rfl, K.out.2⟩
    · have hae2 : (ae == 0) = false := by simpa using hae
      have f0 : w2.frozen? ⟨P, 0, none⟩ = false := frozen_of_row w2 P 0 _ _ HP2.out
      have f1 : w2.frozen? ⟨P, 1, none⟩ = false := frozen_of_row w2 P 1 _ _ HP2.out
      have f2 : w2.frozen? ⟨P, 2, none⟩ = false := frozen_of_row w2 P 2 _ _ HP2.out
      obtain ⟨c0, c1, c2⟩ := tok_block HP2.out
      have e := HRES.out
      rw [tokG_e1 H1.out HGA.out hae] at e
      simp only [Prod.mk.injEq] at e
      obtain ⟨rfl, rfl, rfl, rfl⟩ := e
      have K := Lib.hid (STORE.out w2 (.int .i64 0) (.int .i64 0) (.int .i64 0) aj ab HP2.out HR2.out HG2.out)
      clear HRES a1 STORE
      go_wp2_with fail
      (try simp only [Exit.inBlock, Exit.then])
      refine bodyPost_ret (v := .tuple #[.agg (tokC ⟨0, 0, 0⟩), .int .i64 ae]) (ret_token _ _ P ⟨0, 0, 0⟩ ae rfl rfl K.out.1) rfl ?_
      exact ⟨rfl, K.out.2⟩
end Go.Proofs.Ytikfenimgjeplaa.Sym
