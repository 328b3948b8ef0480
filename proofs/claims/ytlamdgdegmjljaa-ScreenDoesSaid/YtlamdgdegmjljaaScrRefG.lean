/-
  Contracts of the reference of layer 14 (screen): colours that are drawn.
-/
import Derived.Test.YtlamdgdegmjljaaScrRefD
namespace Go.Proofs.Ytlamdgdegmjljaa.Scr
open Go.ChangeShapes Go.WideShapes Go.ChangeAt Go.RowKit Lz RowG RegVal Reg
set_option linter.unusedVariables false
set_option maxRecDepth 100000

theorem all_step (q : List Int) (k : Nat) (hk : k < q.length) (h : (q.take k).all colB = true) : (colB (px q k) = true → (q.take (k + 1)).all colB = true) ∧ (colB (px q k) = false → q.all colB = false) := by
  have e : q.take (k + 1) = q.take k ++ [px q k] := by rw [List.take_succ_eq_append_getElem hk, px_get hk]
  refine ⟨fun hc => by rw [e, List.all_append, h, Bool.true_and]; simp [hc], fun hc => ?_⟩
  cases ha : q.all colB with
  | false => rfl
  | true =>
    rw [List.all_eq_true] at ha
    have := ha _ (List.getElem_mem hk)
    rw [px_get hk] at hc
    rw [hc] at this
    cases this
set_option maxHeartbeats 4000000 in
theorem refBlit_any (W H : Int) (l : List Int) (v : Value) (r : Rc) (q : List Int) (qv : Value) (w : World) (hm : ImOk W H l) (hs : SI w v l) (hq : SW w qv q) (hql : q.length ≤ 1000000000) :
    Calls Try.prog 16 #[imgV W H v, r.v, qv] w fun e w' => ∃ v', e = .returned (.tuple #[imgV W H v', .int .i64 (blitE W H r q)]) ∧ SI w' v' (blitS W H r q l) ∧ Below w.heap.size w w' ∧ Near w v v' := by
  obtain ⟨a, n, cap, rfl, hln, hrd⟩ := hs.read
  obtain ⟨b, m, bcap, rfl, hqn, hqd⟩ := hq.read
  have hw := hm.w
  have hh := hm.h
  have hn := hm.n
  have hb := hm.bound
  rw [hln] at hn hb
  rw [hqn] at hql
  have R0 := Rdy.new (W := W) (H := H) (cap := cap) (r := r) hrd
  have HSI := Lib.hid hs
  have HQD := Lib.hid hqd
  have z1 := alloc_size w (.cells #[.int .i64 W, .int .i64 H, .slice a n cap] 32)
  have z2 := alloc_size (w.alloc (.cells #[.int .i64 W, .int .i64 H, .slice a n cap] 32)) (.cells #[.int .i64 r.x, .int .i64 r.y, .int .i64 r.w, .int .i64 r.h] 35)
  obtain ⟨w1, hw1⟩ : ∃ w1, w.alloc (.cells #[.int .i64 W, .int .i64 H, .slice a n cap] 32) = w1 := ⟨_, rfl⟩
  rw [hw1] at R0 z1 z2
  obtain ⟨w2, hw2⟩ : ∃ w2, w1.alloc (.cells #[.int .i64 r.x, .int .i64 r.y, .int .i64 r.w, .int .i64 r.h] 35) = w2 := ⟨_, rfl⟩
  rw [hw2] at R0 z2
  have z2 : w2.heap.size = w.heap.size + 2 := by omega
  obtain ⟨w3, hw3⟩ : ∃ w3, w2.alloc (.cells #[.int .i64 0, .int .i64 0, .slice none 0 0] 32) = w3 := ⟨_, rfl⟩
  rw [hw3] at R0
  have RDY := Lib.hid (fun W' (k : Below (w.heap.size + 3) w3 W') => R0.keep hs k)
  have hs3 := R0.s
  have HI := Lib.hid (fun w => refInside_any r W H (by simp [Lit.wf, IntKind.min, IntKind.max, IntKind.signed, IntKind.bits]; omega) (by simp [Lit.wf, IntKind.min, IntKind.max, IntKind.signed, IntKind.bits]; omega) w)
  have HC := Lib.hid refColour_any
  obtain ⟨⟨c0, c1, c2⟩, _⟩ := R0.i.cells
  obtain ⟨r0, r1, r2, r3⟩ := R0.r
  have hrv : r.v = .agg #[.int .i64 r.x, .int .i64 r.y, .int .i64 r.w, .int .i64 r.h] := rfl
  rw [hrv] at HI ⊢
  have HLN := Lib.hid hln
  have HQN := Lib.hid hqn
  have HRQ : RowKit.Hid (rightQ r q = (decide ((q.length : Int) = r.w * r.h) && q.all colB)) := Lib.hid rfl
  clear R0 hrd hqd hs hq hln hqn
  unfold imgV
  cases hins : insB r W H with
  | false =>
    rw [hins] at HI
    have hE : blitE W H r q = 140 := by unfold blitE; rw [hins]; rfl
    have hS : blitS W H r q l = l := by unfold blitS; rw [hins]; rfl
    rw [hE, hS]
    clear hE hS hins HC
    go_enter Try.func16, Try.ntmps16
    go_wp2_with fail
    refine (HI.out _).mono ?_
    rintro q w4 ⟨rfl, b4⟩
    clear c0 c1 c2 r0 r1 r2 r3 HI
    have RD := RDY.out w4 (b4.mono hs3)
    obtain ⟨⟨c0, c1, c2⟩, _⟩ := RD.i.cells
    obtain ⟨⟨o0, o1, o2⟩, fz⟩ := RD.o.cells
    have HO := Lib.hid RD.o
    have HB := Lib.hid RD.b
    clear RD RDY
    go_wp2_with fail
    refine bodyPost_ret (Ret.ret_cell_tmp rfl _ _ (w.heap.size + 2) 32 _ (0, 0) _ rfl (store3 HO.out _ _ _) Try.underlying32 rfl (by kernel_rfl)) rfl ⟨.slice a n cap, rfl, ?_, below_store3 HB.out (by omega) _ _ _, Near.refl _ _⟩
    exact SI.below HSI.out (below_store3 HB.out (by omega) _ _ _)
  | true =>
  rw [hins] at HI
  have hbd := ins_iff.1 hins
  have hp1 : r.w * r.h ≤ 4096 * 4096 := Int.mul_le_mul (by omega) (by omega) (by omega) (by omega)
  have hp0 : 0 ≤ r.w * r.h := Int.mul_nonneg (by omega) (by omega)
  obtain ⟨P, hP⟩ : ∃ P : Nat, r.w * r.h = P := ⟨(r.w * r.h).toNat, by omega⟩
  have hPb : P ≤ 16777216 := by omega
  have n1 : IntKind.i64.wrap (P : Nat) = (P : Nat) := IntWalk.i64_in _ (by omega)
  have n2 : wrap64 (P : Nat) = (P : Nat) := IntWalk.wrap64_in _ (by omega)
  have HN12 := Lib.hid (And.intro n1 n2)
  clear hp1 hp0 n1 n2
  have HE : RowKit.Hid (∀ t, rightQ r q = t → blitE W H r q = (if t then 0 else 1) ∧ blitS W H r q l = if t then gen n (blitF W r q l) else l) := Lib.hid (fun t ht => by
    unfold blitE blitS
    rw [hins, ht]
    refine ⟨rfl, ?_⟩
    cases t with
    | true => show blitL W r q l = _; unfold blitL; rw [HLN.out]; rfl
    | false => rfl)
  by_cases hmP : m = P
  case neg =>
    have d0 : ((m : Int) != P) = true := by
      have : ¬ (m : Int) = P := by omega
      simpa using this
    have hR : rightQ r q = false := by
      rw [HRQ.out, decide_eq_false (by rw [HQN.out, hP]; omega), Bool.false_and]
    obtain ⟨hE, hS⟩ := HE.out false hR
    rw [hE, hS]
    simp only [Bool.false_eq_true, if_false]
    clear hE hS hins HC HE HRQ hR hbd hmP
    go_enter Try.func16, Try.ntmps16
    go_wp2_with fail
    refine (HI.out _).mono ?_
    rintro q w4 ⟨rfl, b4⟩
    have RD := RDY.out w4 (b4.mono hs3)
    obtain ⟨r0, r1, r2, r3⟩ := RD.r
    obtain ⟨n1, n2⟩ := HN12.out
    clear c0 c1 c2 HI
    obtain ⟨⟨c0, c1, c2⟩, _⟩ := RD.i.cells
    obtain ⟨⟨o0, o1, o2⟩, fz⟩ := RD.o.cells
    have HO := Lib.hid RD.o
    have HB := Lib.hid RD.b
    clear RD RDY
    go_wp2_with fail
    clear n1 n2
    refine bodyPost_ret (Ret.ret_cell_tmp rfl _ _ (w.heap.size + 2) 32 _ (0, 0) _ rfl (store3 HO.out _ _ _) Try.underlying32 rfl (by kernel_rfl)) rfl ⟨.slice a n cap, rfl, ?_, below_store3 HB.out (by omega) _ _ _, Near.refl _ _⟩
    exact SI.below HSI.out (below_store3 HB.out (by omega) _ _ _)
  subst hmP
  have HLEN : RowKit.Hid (decide ((q.length : Int) = r.w * r.h) = true) := Lib.hid (decide_eq_true (by rw [HQN.out, hP]))
  have HIN := Lib.hid (fun x y w => refIn_any r x y (by omega) (by omega) w)
  rw [hrv] at HIN
  have HSP : RowKit.Hid (∀ x y : Int, inB r x y = true → 0 ≤ y - r.y ∧ 0 ≤ (y - r.y) * r.w ∧ 0 ≤ (y - r.y) * r.w + x - r.x ∧ (y - r.y) * r.w + x - r.x < m) := Lib.hid (fun x y h => by
    have h1 := spot h
    have h2 := in_iff.1 h
    rw [hP] at h1
    exact ⟨by omega, Int.mul_nonneg (by omega) (by omega), h1.1, h1.2⟩)
  have HAS := Lib.hid (all_step q)
  have HF : RowKit.Hid (∀ i : Nat, blitF W r q l i = if inB r (i % W) (i / W) then px q ((i / W - r.y) * r.w + i % W - r.x).toNat else px l i) := Lib.hid (fun _ => rfl)
  have HBD := Lib.hid hbd
  clear hbd hins
  generalize blitF W r q l = F at *
  generalize blitE W H r q = BE at *
  generalize blitS W H r q l = BS at *
  go_enter Try.func16, Try.ntmps16
  go_wp2_with fail
  refine (HI.out _).mono ?_
  rintro p0 w4 ⟨rfl, b4⟩
  clear c0 c1 c2 r0 r1 r2 r3
  have RD := RDY.out w4 (b4.mono hs3)
  obtain ⟨r0, r1, r2, r3⟩ := RD.r
  have hs4 := RD.s
  have HB4 := Lib.hid b4
  have HWB := Lib.hid RD.b
  clear RD b4 HI
  obtain ⟨n1, n2⟩ := HN12.out
  go_wp2_with fail
  clear r0 r1 r2 r3 n1 n2
  go_loopw [8] (fun i wr => ∃ k : Nat, k ≤ m ∧ i = .int .i64 k ∧ w4 = wr ∧ RowKit.Hid ((q.take k).all colB = true)) (fun i _ => m - (intOf i).toNat)
  case atStart => exact ⟨0, Nat.zero_le _, rfl, by first | rfl | trivial, Lib.hid rfl⟩
  case round =>
    obtain ⟨k, hk, rfl, rfl, hall⟩ := hrel
    by_cases hlt : k < m
    · have d1 : decide (k < m) = true := decide_eq_true hlt
      have d2 : decide ((k : Int) < m) = true := decide_eq_true (Int.ofNat_lt.2 hlt)
      obtain ⟨g, off, rfl, hcell⟩ := HQD.out _ HWB.out (by omega)
      have q0 := hcell k hlt
      obtain ⟨as1, as2⟩ := HAS.out k (by rw [HQN.out]; exact hlt) hall.out
      have A1 := Lib.hid as1
      have A2 := Lib.hid as2
      clear hcell as1 as2
      generalize px q k = c at *
      go_wp2_with fail
      refine (HC.out c _).mono ?_
      rintro p0 w5 ⟨rfl, rfl⟩
      cases hcol : colB c with
      | false =>
        have hR : rightQ r q = false := by rw [HRQ.out, A2.out hcol, Bool.and_false]
        obtain ⟨hE, hS⟩ := HE.out false hR
        simp only [Bool.false_eq_true, if_false] at hE hS
        have HE1 := Lib.hid hE
        have HS1 := Lib.hid hS
        have RD := RDY.out w4 (HB4.out.mono hs3)
        obtain ⟨⟨c0, c1, c2⟩, _⟩ := RD.i.cells
        obtain ⟨⟨o0, o1, o2⟩, fz⟩ := RD.o.cells
        have HO := Lib.hid RD.o
        have HB := Lib.hid RD.b
        clear RD RDY hR hE hS HE A1 A2 HAS hcol
        go_wp2_with fail
        refine bodyPost_ret (Ret.ret_cell_tmp rfl _ _ (w.heap.size + 2) 32 _ (0, 0) _ rfl (store3 HO.out _ _ _) Try.underlying32 rfl (by kernel_rfl)) rfl ⟨.slice a n cap, by rw [HE1.out]; rfl, ?_, below_store3 HB.out (by omega) _ _ _, Near.refl _ _⟩
        rw [HS1.out]
        exact SI.below HSI.out (below_store3 HB.out (by omega) _ _ _)
      | true =>
        have HN := Lib.hid (A1.out hcol)
        clear A1 A2 HAS hcol
        go_wp2_with fail
        exact ⟨⟨k + 1, by omega, by go_num, by first | rfl | trivial, HN⟩, by simp [intOf]; omega⟩
    · obtain rfl : k = m := by omega
      have hR : rightQ r q = true := by
        have := hall.out
        rw [List.take_of_length_le (by rw [HQN.out]; exact Nat.le_refl _)] at this
        rw [HRQ.out, HLEN.out, this]; rfl
      obtain ⟨hE, hS⟩ := HE.out true hR
      simp only [if_true] at hE hS
      have HE1 := Lib.hid hE
      have HS1 := Lib.hid hS
      have RD := RDY.out w4 (HB4.out.mono hs3)
      obtain ⟨⟨c0, c1, c2⟩, _⟩ := RD.i.cells
      have L0 := Lib.hid (Lp.new w4 W H)
      clear RD hR hE hS HE HAS hall HC HRQ
      go_wp2_with fail
      clear c0 c1 c2
      go_loopw [10] (fun i wr => ∃ j : Nat, j ≤ n ∧ i = .int .i64 j ∧ ∃ v, Lp w4 wr W H v (gen j F)) (fun i _ => n - (intOf i).toNat)
      case atStart => exact ⟨0, Nat.zero_le _, rfl, _, L0.out⟩
      case round =>
        obtain ⟨j, hj, rfl, v, M⟩ := hrel
        have RD := RDY.out wr ((HB4.out.mono hs3).trans (M.bel.mono hs4))
        have HM := Lib.hid M
        by_cases hlt2 : j < n
        · have d1 : decide (j < n) = true := decide_eq_true hlt2
          have d2 : decide ((j : Int) < n) = true := decide_eq_true (Int.ofNat_lt.2 hlt2)
          obtain ⟨⟨c0, c1, c2⟩, _⟩ := RD.i.cells
          obtain ⟨r0, r1, r2, r3⟩ := RD.r
          obtain ⟨g, off, rfl, hcell⟩ := RD.c (by omega)
          have q0 := hcell j hlt2
          have hpk : 0 ≤ (j : Int) / W := Int.ediv_nonneg (by omega) (by omega)
          have hpm : 0 ≤ (j : Int) % W := Int.emod_nonneg _ (by omega)
          have hkW : (j : Int) / W ≤ j := Int.ediv_le_self _ (by omega)
          have hW0 : ¬ W = 0 := by omega
          have t3 : (W == 0) = false := by simpa using hW0
          obtain ⟨yv, hyv⟩ : ∃ yv : Nat, (j : Int) / W = yv := ⟨((j : Int) / W).toNat, (Int.toNat_of_nonneg hpk).symm⟩
          obtain ⟨xv, hxv⟩ : ∃ xv : Nat, (j : Int) % W = xv := ⟨((j : Int) % W).toNat, (Int.toNat_of_nonneg hpm).symm⟩
          have hjb : 0 ≤ (j : Int) ∧ (j : Int) ≤ 9223372036854775807 ∧ 1 ≤ W := by omega
          have hq64 : -9223372036854775808 ≤ (j : Int) / W ∧ (j : Int) / W ≤ 9223372036854775807 := ⟨Int.le_trans (by decide) hpk, Int.le_trans hkW hjb.2.1⟩
          have HT := Lib.hid (And.intro ((IntWalk.rem_in _ _ hjb.1).trans hxv) (And.intro ((IntWalk.i64_quo _ _ hjb).trans hyv) ((IntWalk.wrap64_in _ hq64).trans hyv)))
          have hyb : (yv : Int) ≤ j := by rw [← hyv]; exact hkW
          have hxb : (xv : Int) < W := by rw [← hxv]; exact Int.emod_lt_of_pos _ (by omega)
          have hF1 := HF.out j
          rw [hyv, hxv] at hF1
          have HF1 := Lib.hid hF1
          clear hF1
          clear hyv hxv hpk hpm hkW hjb hq64
          have HIN1 := Lib.hid (fun w => HIN.out xv yv w)
          have HSP1 := Lib.hid (HSP.out xv yv)
          have HQ : RowKit.Hid (∀ W', Below wr.heap.size wr W' → _) := Lib.hid (fun W' (k : Below wr.heap.size wr W') => (RDY.out W' (((HB4.out.mono hs3).trans (M.bel.mono hs4)).trans (k.mono RD.s))))
          have HS := Lib.hid (gen_succ j F)
          have HG := Lib.hid (gen_length j F)
          clear RD M hcell L0
          generalize inB r xv yv = p at *
          obtain ⟨t1, t2, t4⟩ := HT.out
          go_wp2_with fail
          try simp only [t4]
          clear t1 t2 t4
          refine (HIN1.out _).mono ?_
          rintro p0 w6 ⟨rfl, b6⟩
          have RD := HQ.out w6 b6
          obtain ⟨⟨c0, c1, c2⟩, _⟩ := RD.i.cells
          obtain ⟨r0, r1, r2, r3⟩ := RD.r
          have M1 := HM.out.keep b6
          have HM1 := Lib.hid M1
          obtain ⟨⟨g0, g1, g2⟩, _⟩ := M1.g.cells
          have hBl := M1.sz
          have HR := Lib.hid M1.row
          have HWB6 := Lib.hid RD.b
          clear RD M1 HQ b6 HM HIN1
          cases p with
          | false =>
            have hf : F j = px l j := by rw [HF1.out, if_neg (by simp)]
            have HFK := Lib.hid hf
            clear hf HF1 HF
            generalize px l j = c' at *
            go_wp2_with (at_builtin; refine wpl_int rfl _ _ rfl v (w4.heap.size + 1) (gen j F) rfl HR.out hBl (by rw [HG.out]; exact Nat.le_trans (Nat.le_of_lt hlt2) (Nat.le_trans hb (by decide))) c' _ rfl ?_; intro v' w7 h1 b1; have hv := (HM1.out.g.below b1 (Nat.lt_succ_self _)).cells; have c2' := hv.1.2.2; have fz := hv.2; have HN := Lib.hid (HM1.out.step b1 h1); obtain ⟨a4, n4, cap4, rfl⟩ := shape4 h1; clear h1 b1 hv)
            refine ⟨⟨j + 1, by omega, by go_num, .slice a4 n4 cap4, ?_⟩, by simp [intOf]; omega⟩
            rw [HS.out, HFK.out]
            exact HN.out
          | true =>
            obtain ⟨s1, s2, s3, s4⟩ := HSP1.out rfl
            obtain ⟨ya, hya⟩ : ∃ ya : Nat, (yv : Int) - r.y = ya := ⟨((yv : Int) - r.y).toNat, by omega⟩
            rw [hya] at s2 s3 s4
            obtain ⟨yb, hyb⟩ : ∃ yb : Nat, (ya : Int) * r.w = yb := ⟨((ya : Int) * r.w).toNat, by omega⟩
            rw [hyb] at s3 s4
            obtain ⟨yc, hyc⟩ : ∃ yc : Nat, (yb : Int) + xv = yc := ⟨yb + xv, by omega⟩
            rw [hyc] at s3 s4
            obtain ⟨yd, hyd⟩ : ∃ yd : Nat, (yc : Int) - r.x = yd := ⟨((yc : Int) - r.x).toNat, by omega⟩
            rw [hyd] at s3 s4
            have hdm : yd < k := by omega
            have hbd := HBD.out
            have b1 : (ya : Int) ≤ 1000000000 ∧ (yb : Int) ≤ 1000000000 ∧ (yc : Int) ≤ 1000000000 ∧ (yd : Int) ≤ 1000000000 := by omega
            have hf : F j = px q yd := by rw [HF1.out, if_pos rfl, hya, hyb, hyc, hyd, Int.toNat_natCast]
            have HFK := Lib.hid hf
            obtain ⟨g', off', hb', hcell⟩ := HQD.out _ HWB6.out (by omega)
            have q1 := hcell yd hdm
            subst hb'
            clear hf HF1 HF hcell s1 s2 s3 s4 hbd
            generalize px q yd = c' at *
            obtain ⟨x1, x2, x3, x4⟩ := b1
            go_wp2_with (at_builtin; refine wpl_int rfl _ _ rfl v (w4.heap.size + 1) (gen j F) rfl HR.out hBl (by rw [HG.out]; exact Nat.le_trans (Nat.le_of_lt hlt2) (Nat.le_trans hb (by decide))) c' _ rfl ?_; intro v' w7 h1 b1; have hv := (HM1.out.g.below b1 (Nat.lt_succ_self _)).cells; have c2' := hv.1.2.2; have fz := hv.2; have HN := Lib.hid (HM1.out.step b1 h1); obtain ⟨a4, n4, cap4, rfl⟩ := shape4 h1; clear h1 b1 hv)
            clear x1 x2 x3 x4
            refine ⟨⟨j + 1, by omega, by go_num, .slice a4 n4 cap4, ?_⟩, by simp [intOf]; omega⟩
            rw [HS.out, HFK.out]
            exact HN.out
        · obtain rfl : j = n := by omega
          have d1 : decide (j < j) = false := decide_eq_false hlt2
          have d2 : decide ((j : Int) < j) = false := decide_eq_false (by omega)
          obtain ⟨⟨g0, g1, g2⟩, _⟩ := M.g.cells
          obtain ⟨⟨o0, o1, o2⟩, fz⟩ := RD.o.cells
          obtain ⟨⟨i0, i1, i2⟩, _⟩ := RD.i.cells
          obtain ⟨a4, n4, cap4, rfl⟩ := shape4 M.row
          have HO := Lib.hid RD.o
          have HB := Lib.hid RD.b
          have hs5 := RD.s
          clear M RD RDY HIN HF L0
          go_wp2_with fail
          refine bodyPost_ret (Ret.ret_cell_tmp rfl _ _ (w.heap.size + 2) 32 _ (0, 0) _ rfl (store3 HO.out _ _ _) Try.underlying32 rfl (by kernel_rfl)) rfl ⟨.slice a4 n4 cap4, by rw [HE1.out]; rfl, ?_, below_store3 HB.out (by omega) _ _ _, Fresh.near (fresh_row HM.out.row (by omega)) _⟩
          rw [HS1.out]
          exact (row_store3 HM.out.row (by omega) _ _ _).si
end Go.Proofs.Ytlamdgdegmjljaa.Scr
