/-
  The reference of layer 17 (rre): the pieces.
-/
import Derived.Test.YtmjjbapahgejmaaRreRefA
namespace Go.Proofs.Ytmjjbapahgejmaa.Rre
open Go.ChangeShapes Go.WideShapes Go.ChangeAt Go.RowKit Lz RowG RegVal Pln
set_option linter.unusedVariables false
set_option maxRecDepth 100000

theorem info_piece : (Try.prog.info? 33).map (fun i => (i.zero, i.size, i.bytes)) = some (some (.agg #[.int .i64 0, .int .i64 0, .int .i64 0, .int .i64 0, .int .i64 0]), 5, 40) := by kernel_rfl
theorem wpl_piece {w0 : World} {ops : Array Oper} {rest : List Oper} {o : Oper} {a : Act} {Q : Exit → Act → World → Prop} (hgd : o.guard = none) (s x : Operand)
    (ho : o.op = .call { callee := .builtin .append, args := #[s, x], argTypes := #[26, 26] })
    (v : Value) (B : Nat) (l : List Pc) (hs : a.eval s = v) (hown : PcsAt 33 B w0 v l) (hB : B ≤ w0.heap.size) (hl : l.length ≤ 1000000000) (p : Pc) (T : TypeId) (hx : a.eval x = .slice (some ⟨w0.heap.size, 0, none⟩) 1 1)
    (h : ∀ v' w', PcsAt 33 B w' v' (l ++ [p]) → Below B w0 w' → wpList Try.prog ops Q rest (a.put o.dst v') w') : wpList Try.prog ops Q (o :: rest) a (w0.alloc (.cells #[.int .i64 p.v, .int .i64 p.x, .int .i64 p.y, .int .i64 p.n, .int .i64 p.m] T)) := by
  obtain ⟨i0, hi, hz0, hz1, hz2⟩ := info_parts info_piece
  refine wpl_grow _ hgd s x 26 ho 33 i0 _ 5 40 Try.underlying26 hi hz0 hz1 hz2 rfl (by decide) v B l.length (cellsP l) hs (hown.alloc _) (by simp; omega) 1 (cellsP [p]) _ hx (sees_new w0 5 #[.int .i64 p.v, .int .i64 p.x, .int .i64 p.y, .int .i64 p.n, .int .i64 p.m] T 1 rfl (cellsP_one [p])) (by unfold maxLen; omega) (by omega) ?_
  intro v' w' h1 h2
  refine h v' w' ?_ (((Below.refl B w0).alloc hB _).trans h2)
  unfold PcsAt
  rw [List.length_append, cellsP_append]
  exact h1
theorem step_no {w h : Nat} {vals : List Int} {g : Int} {l : List Pc} {x y : Nat} {v : Int} (hv : px vals (y * w + x) = v) (hh : v = g ∨ freeL w vals l v x y 1 = false) : stepP w h vals g l x y = l := by
  unfold stepP
  rw [hv, if_pos hh]
theorem step_yes {w h : Nat} {vals : List Int} {g : Int} {l : List Pc} {x y n m : Nat} {v : Int} (hv : px vals (y * w + x) = v) (hg : v ≠ g) (hf : freeL w vals l v x y 1 = true)
    (n1 : 1 ≤ n) (nw : x + n ≤ w) (hn : ∀ i, 1 ≤ i → i < n → goR w vals l v x y i = true) (hn2 : goR w vals l v x y n = false)
    (m1 : 1 ≤ m) (mh : y + m ≤ h) (hm : ∀ i, 1 ≤ i → i < m → goD w h vals l v x y n i = true) (hm2 : goD w h vals l v x y n m = false) :
    stepP w h vals g l x y = l ++ [⟨v, x, y, n, m⟩] := by
  unfold stepP
  rw [hv, if_neg (fun c => c.elim hg (fun c => by rw [hf] at c; exact absurd c (by decide)))]
  have e1 : sideR w vals l v x y = n := stop_eq _ _ _ n1 (by omega) hn hn2
  have e2 : sideD w h vals l v x y n = m := stop_eq _ _ _ m1 (by omega) hm hm2
  rw [e1, e2]
set_option maxHeartbeats 8000000 in
theorem refPieces_any (w h : Int) (vals : List Int) (vv : Value) (g : Int) (w0 : World) (hv : SW w0 vv vals) (hlen : vals.length ≤ 100000000)
    (hwb : -9223372036854775808 ≤ w ∧ w ≤ 9223372036854775807) (hhb : -9223372036854775808 ≤ h ∧ h ≤ 9223372036854775807) :
    Calls Try.prog 11 #[.int .i64 w, .int .i64 h, vv, .int .i64 g] w0 fun e w' => ∃ v', e = .returned v' ∧ PcsAt 33 w0.heap.size w' v' (piecesL w h vals g) ∧ Below w0.heap.size w0 w' := by
  have HSW := Lib.hid hv
  obtain ⟨va, vn, vcap, rfl, hvl, hvr⟩ := hv.read
  have HV := Lib.hid hvr
  have HR : RowKit.Hid (piecesL w h vals g = if w < 0 ∨ h < 0 ∨ 4096 < w ∨ 4096 < h ∨ (vn : Int) ≠ w * h then [] else piecesN w.toNat h.toNat vals g) := Lib.hid (by unfold piecesL; rw [hvl])
  have HVL := Lib.hid hvl
  rw [hvl] at hlen
  clear hv hvr hvl
  generalize piecesL w h vals g = RES at *
  go_enter Try.func11, Try.ntmps11
  by_cases h1 : w < 0
  case pos =>
    have d1 : decide (w < 0) = true := decide_eq_true h1
    have hres := HR.out
    rw [if_pos (.inl h1)] at hres
    clear HR
    subst hres
    go_wp2_with fail
    go_ret
    exact ⟨_, rfl, RowAt.nil _ _ _ _, Below.refl _ _⟩
  have d1 : decide (w < 0) = false := decide_eq_false h1
  by_cases h2 : h < 0
  case pos =>
    have d2 : decide (h < 0) = true := decide_eq_true h2
    have hres := HR.out
    rw [if_pos (.inr (.inl h2))] at hres
    clear HR
    subst hres
    go_wp2_with fail
    go_ret
    exact ⟨_, rfl, RowAt.nil _ _ _ _, Below.refl _ _⟩
  have d2 : decide (h < 0) = false := decide_eq_false h2
  by_cases h3 : 4096 < w
  case pos =>
    have d3 : decide (4096 < w) = true := decide_eq_true h3
    have hres := HR.out
    rw [if_pos (.inr (.inr (.inl h3)))] at hres
    clear HR
    subst hres
    go_wp2_with fail
    go_ret
    exact ⟨_, rfl, RowAt.nil _ _ _ _, Below.refl _ _⟩
  have d3 : decide (4096 < w) = false := decide_eq_false h3
  by_cases h4 : 4096 < h
  case pos =>
    have d4 : decide (4096 < h) = true := decide_eq_true h4
    have hres := HR.out
    rw [if_pos (.inr (.inr (.inr (.inl h4))))] at hres
    clear HR
    subst hres
    go_wp2_with fail
    go_ret
    exact ⟨_, rfl, RowAt.nil _ _ _ _, Below.refl _ _⟩
  have d4 : decide (4096 < h) = false := decide_eq_false h4
  obtain ⟨W, rfl⟩ : ∃ W : Nat, w = W := ⟨w.toNat, by omega⟩
  obtain ⟨H, rfl⟩ : ∃ H : Nat, h = H := ⟨h.toNat, by omega⟩
  have hW : W ≤ 4096 := by omega
  have hH : H ≤ 4096 := by omega
  have hWH : W * H ≤ 4096 * 4096 := Nat.mul_le_mul hW hH
  have t0 : IntKind.i64.wrap ((W : Int) * H) = ((W * H : Nat) : Int) := by
    rw [← Int.natCast_mul]
    exact IntWalk.i64_in _ (by omega)
  obtain ⟨N, hN⟩ : ∃ N, W * H = N := ⟨_, rfl⟩
  have hN' : (W : Int) * H = (N : Int) := by rw [← hN, Int.natCast_mul]
  rw [hN] at t0 hWH
  rw [hN'] at HR
  clear hwb hhb h1 h2 h3 h4
  by_cases h5 : vn = N
  case neg =>
    have d5 : decide ((vn : Int) = (N : Int)) = false := decide_eq_false (by omega)
    have hres := HR.out
    rw [if_pos (.inr (.inr (.inr (.inr (by omega)))))] at hres
    clear HR
    subst hres
    go_wp2_with fail
    go_ret
    exact ⟨_, rfl, RowAt.nil _ _ _ _, Below.refl _ _⟩
  subst h5
  have d5 : decide ((vn : Int) = (vn : Int)) = true := decide_eq_true rfl
  have hR0 : RES = piecesN W H vals g := by
    rw [HR.out, if_neg (by omega)]
    rfl
  have HSTEP : RowKit.Hid (∀ x y, x < W → pcs W H vals g (y * W + x + 1) = stepP W H vals g (pcs W H vals g (y * W + x)) x y) := Lib.hid (fun x y hx => pcs_step hx)
  have HLEN : RowKit.Hid (∀ k, (pcs W H vals g k).length ≤ k) := Lib.hid (pcs_length W H vals g)
  have HINS : RowKit.Hid (∀ k, k ≤ vn → ∀ p ∈ pcs W H vals g k, p.x + p.n ≤ 100000 ∧ p.y + p.m ≤ 100000) := Lib.hid (fun k hk p hp => by
    have := (pcs_inv (g := g) (vals := vals) k (by rw [hN]; exact hk)).inside p hp
    omega)
  have HEND : RowKit.Hid (RES = pcs W H vals g (H * W)) := Lib.hid (by rw [hR0, Nat.mul_comm H W]; rfl)
  have HP0 : RowKit.Hid (pcs W H vals g 0 = []) := Lib.hid rfl
  have HAT : RowKit.Hid (∀ x y, x < W → y < H → y * W + x < vn) := Lib.hid (fun x y hx hy => by rw [← hN]; exact at_lt hx hy)
  have HROW : RowKit.Hid (∀ y, y ≤ H → y * W ≤ vn) := Lib.hid (fun y hy => by rw [← hN, Nat.mul_comm W H]; exact Nat.mul_le_mul_right W hy)
  have HNX : RowKit.Hid (∀ y, y * W + W = (y + 1) * W) := Lib.hid (fun y => by rw [Nat.add_mul, Nat.one_mul])
  clear HR hR0 hN hN'
  generalize hPP : pcs W H vals g = P at *
  clear hPP
  go_wp2_with fail
  go_loopw [9, 10] (fun vl i wr => ∃ y : Nat, y ≤ H ∧ i = .int .i64 y ∧ PcsAt 33 w0.heap.size wr vl (P (y * W)) ∧ Below w0.heap.size w0 wr) (fun _ i _ => H - (intOf i).toNat)
  case atStart => exact ⟨0, Nat.zero_le _, rfl, by rw [Nat.zero_mul, HP0.out]; exact RowAt.nil _ _ _ _, Below.refl _ _⟩
  case round =>
    obtain ⟨y, hy, rfl, hA, hbr⟩ := hrel
    have HA := Lib.hid hA
    have HB := Lib.hid hbr
    by_cases hly : y < H
    · have dy : decide ((y : Int) < (H : Int)) = true := decide_eq_true (by omega)
      clear hA hbr
      go_wp2_with fail
      go_loopw [9, 11] (fun vl i wq => ∃ x : Nat, x ≤ W ∧ i = .int .i64 x ∧ PcsAt 33 w0.heap.size wq vl (P (y * W + x)) ∧ Below w0.heap.size w0 wq) (fun _ i _ => W - (intOf i).toNat)
      case atStart => exact ⟨0, Nat.zero_le _, rfl, HA.out, HB.out⟩
      case round =>
        obtain ⟨x, hx, rfl, hA2, hbq⟩ := hrel
        have HA2 := Lib.hid hA2
        have HB2 := Lib.hid hbq
        by_cases hlx : x < W
        · have dx : decide ((x : Int) < (W : Int)) = true := decide_eq_true (by omega)
          obtain ⟨va', off, rfl, hc⟩ := HV.out _ hbq (by have := HAT.out x y hlx hly; omega)
          have hJ := HAT.out x y hlx hly
          have q0 := hc (y * W + x) hJ
          have HST := Lib.hid (HSTEP.out x y hlx)
          have HLN := HLEN.out (y * W + x)
          have HIN := Lib.hid (HINS.out (y * W + x) (by omega))
          obtain ⟨M, hM⟩ : ∃ M, y * W = M := ⟨_, rfl⟩
          have t1 : IntKind.i64.wrap ((y : Int) * W) = (M : Nat) := by
            rw [← Int.natCast_mul, hM]
            exact IntWalk.i64_in _ (by omega)
          have t2 : IntKind.i64.wrap ((M : Int) + (x : Int)) = ((M + x : Nat) : Int) := by
            rw [← Int.natCast_add]
            exact IntWalk.i64_in _ (by omega)
          have hle2 : w0.heap.size ≤ wr.heap.size := hbq.size
          have HSWq := Lib.hid (HSW.out.below hbq)
          generalize hLq : P (y * W + x) = L at *
          obtain ⟨la, lcap, rfl⟩ := RowAt.shape hA2
          obtain ⟨pv, hpv⟩ : ∃ pv, px vals (y * W + x) = pv := ⟨_, rfl⟩
          have C1 : RowKit.Hid (∀ w' v' x' y' n', Below wr.heap.size wr w' → x' + n' ≤ W → y' < H → 0 < n' → Calls Try.prog 30 #[.int .i64 W, .slice (some ⟨va', off, none⟩) vn vcap, .slice la L.length lcap, .int .i64 v', .int .i64 (x' : Nat), .int .i64 (y' : Nat), .int .i64 (n' : Nat)] w' fun e w'' => e = .returned (.bool (freeL W vals L v' x' y' n')) ∧ Below w'.heap.size w' w'') := Lib.hid (fun w' v' x' y' n' k hx' hy' hn' =>
            refFree_any W vals _ L _ v' x' y' n' w' (HSWq.out.below k) (HA2.out.sp.below k) HIN.out (by omega) (by omega) (fun _ => by
              have := HAT.out (x' + n' - 1) y' (by omega) hy'
              rw [HVL.out]
              omega) (by rw [HVL.out]; omega) (by have := HROW.out y' (by omega); omega))
          rw [hpv] at q0
          have hMJ : M + x < vn := by rw [← hM]; exact hJ
          have eJ : y * W + x = M + x := by rw [hM]
          rw [eJ] at q0
          clear hc hA2
          have b2sz := HB2.out.size
          clear hbq
          go_wp2_with fail
          refine (C1.out _ _ _ _ 1 (Below.refl _ _) (by omega) hly (by decide)).mono ?_
          rintro r w3 ⟨rfl, b3⟩
          have B3 := Lib.hid b3
          have HA3 := Lib.hid (RowAt.below HA2.out b3)
          have HB3 := Lib.hid (HB2.out.trans (b3.mono hle2))
          clear b3 HA2 HB2
          obtain ⟨FF, hFF⟩ : ∃ FF, freeL W vals L pv x y 1 = FF := ⟨_, rfl⟩
          rw [hFF]
          by_cases hpg : pv = g
          case pos =>
            have dg : decide (pv = g) = true := decide_eq_true hpg
            have HE := Lib.hid (HST.out.trans (step_no hpv (.inl hpg)))
            clear HST C1
            go_wp2_with fail
            exact ⟨⟨x + 1, by omega, by go_num, by rw [← Nat.add_assoc, HE.out]; exact HA3.out, HB3.out⟩, by simp [intOf]; omega⟩
          have dg : decide (pv = g) = false := decide_eq_false hpg
          cases FF with
          | false =>
            have HE := Lib.hid (HST.out.trans (step_no hpv (.inr hFF)))
            clear HST C1
            go_wp2_with fail
            exact ⟨⟨x + 1, by omega, by go_num, by rw [← Nat.add_assoc, HE.out]; exact HA3.out, HB3.out⟩, by simp [intOf]; omega⟩
          | true =>
            have w3sz : wr.heap.size ≤ w3.heap.size := B3.out.size
            go_wp2_with fail
            go_loopw [14] (fun i wn => ∃ n : Nat, 1 ≤ n ∧ x + n ≤ W ∧ i = .int .i64 n ∧ RowKit.Hid (∀ q, 1 ≤ q → q < n → goR W vals L pv x y q = true) ∧ Below w3.heap.size w3 wn) (fun i _ => W - (intOf i).toNat)
            case atStart => exact ⟨1, Nat.le_refl _, by omega, rfl, Lib.hid (fun q h1 h2 => by omega), Below.refl _ _⟩
            case round =>
              obtain ⟨n, n1, hnW, rfl, hgo, hbn⟩ := hrel
              have HBN := Lib.hid (B3.out.trans (hbn.mono w3sz))
              have HBN3 := Lib.hid hbn
              have xn : IntKind.i64.wrap ((x : Int) + (n : Int)) = ((x + n : Nat) : Int) := by
                rw [← Int.natCast_add]
                exact IntWalk.i64_in _ (by omega)
              by_cases hln : x + n < W
              · have dn : decide (((x + n : Nat) : Int) < (W : Int)) = true := decide_eq_true (by omega)
                have CN := Lib.hid (fun w' k => C1.out w' pv (x + n) y 1 k (by omega) hly (by omega))
                obtain ⟨FN, hFN⟩ : ∃ FN, freeL W vals L pv (x + n) y 1 = FN := ⟨_, rfl⟩
                rw [hFN] at CN
                have hGR : goR W vals L pv x y n = FN := by unfold goR; rw [hFN, decide_eq_true hln]; rfl
                obtain ⟨Z, hZ⟩ : ∃ Z, x + n = Z := ⟨_, rfl⟩
                rw [hZ] at xn CN dn hln
                clear hbn
                go_wp2_with fail
                refine (CN.out _ HBN.out).mono ?_
                rintro r w5 ⟨rfl, b5⟩
                have HM := Lib.hid (HBN3.out.trans (b5.mono HBN3.out.size))
                clear b5 CN HBN3 HBN
                have HBN3 := HM
                clear HM
                cases FN with
                | true =>
                  go_wp2_with fail
                  exact ⟨⟨n + 1, by omega, by omega, by go_num, Lib.hid (fun q h1 h2 => by
                    rcases Nat.lt_or_ge q n with h3 | h3
                    · exact hgo.out q h1 h3
                    · rw [show q = n by omega]; exact hGR), HBN3.out⟩, by simp [intOf]; omega⟩
                | false =>
                  have hgoR := hGR
                  clear hGR hFN
                  have hRn := Lib.hid hgoR
                  clear hgoR
                  go_wp2_with fail
                  go_loopw [15] (fun i wm => ∃ m : Nat, 1 ≤ m ∧ y + m ≤ H ∧ i = .int .i64 m ∧ RowKit.Hid (∀ q, 1 ≤ q → q < m → goD W H vals L pv x y n q = true) ∧ Below w3.heap.size w3 wm) (fun i _ => H - (intOf i).toNat)
                  case atStart => exact ⟨1, Nat.le_refl _, by omega, rfl, Lib.hid (fun q h1 h2 => by omega), HBN3.out⟩
                  case round =>
                    obtain ⟨m, m1, hmH, rfl, hgd, hbm⟩ := hrel
                    have HM3 := Lib.hid hbm
                    have ym : IntKind.i64.wrap ((y : Int) + (m : Int)) = ((y + m : Nat) : Int) := by
                      rw [← Int.natCast_add]
                      exact IntWalk.i64_in _ (by omega)
                    by_cases hlm : y + m < H
                    · have dm : decide (((y + m : Nat) : Int) < (H : Int)) = true := decide_eq_true (by omega)
                      have CM := Lib.hid (fun w' k => C1.out w' pv x (y + m) n k (by omega) hlm (by omega))
                      obtain ⟨FM, hFM⟩ : ∃ FM, freeL W vals L pv x (y + m) n = FM := ⟨_, rfl⟩
                      rw [hFM] at CM
                      have hGD : goD W H vals L pv x y n m = FM := by unfold goD; rw [hFM, decide_eq_true hlm]; rfl
                      generalize hYM : y + m = YM at *
                      clear hbm
                      go_wp2_with fail
                      refine (CM.out _ (B3.out.trans (HM3.out.mono w3sz))).mono ?_
                      rintro r w6 ⟨rfl, b6⟩
                      have HM6 := Lib.hid (HM3.out.trans (b6.mono HM3.out.size))
                      clear b6 CM
                      cases FM with
                      | true =>
                        go_wp2_with fail
                        exact ⟨⟨m + 1, by omega, by omega, by go_num, Lib.hid (fun q h1 h2 => by
                          rcases Nat.lt_or_ge q m with h3 | h3
                          · exact hgd.out q h1 h3
                          · rw [show q = m by omega]; exact hGD), HM6.out⟩, by simp [intOf]; omega⟩
                      | false =>
                        have HE := Lib.hid (HST.out.trans (step_yes hpv hpg hFF n1 hnW hgo.out hRn.out m1 (by omega) hgd.out hGD))
                        have HAM := Lib.hid (RowAt.below HA3.out (HM6.out))
                        have HBM := Lib.hid (HB3.out.trans ((HM6.out).mono HB3.out.size))
                        clear HST C1 HM6 HM3 HSTEP
                        go_wp2_with (at_builtin; refine wpl_piece rfl _ _ rfl (.slice la L.length lcap) w0.heap.size L rfl HAM.out HBM.out.size (by omega) ⟨pv, x, y, n, m⟩ _ rfl ?_; intro v' w' h1 b1; have HQ := Lib.hid h1; have HQB := Lib.hid (HBM.out.trans b1); clear h1 b1)
                        exact ⟨⟨x + 1, by omega, by go_num, by rw [← Nat.add_assoc, HE.out]; exact HQ.out, HQB.out⟩, by simp [intOf]; omega⟩
                    · have dm : decide (((y + m : Nat) : Int) < (H : Int)) = false := decide_eq_false (by omega)
                      have hGD : goD W H vals L pv x y n m = false := by unfold goD; rw [decide_eq_false hlm]; rfl
                      have HE := Lib.hid (HST.out.trans (step_yes hpv hpg hFF n1 hnW hgo.out hRn.out m1 hmH hgd.out hGD))
                      have HAM := Lib.hid (RowAt.below HA3.out (HM3.out))
                      have HBM := Lib.hid (HB3.out.trans ((HM3.out).mono HB3.out.size))
                      obtain ⟨YM, hYM⟩ : ∃ YM, y + m = YM := ⟨_, rfl⟩
                      rw [hYM] at ym dm hlm
                      clear HST C1 HM3 HSTEP hbm
                      go_wp2_with (at_builtin; refine wpl_piece rfl _ _ rfl (.slice la L.length lcap) w0.heap.size L rfl HAM.out HBM.out.size (by omega) ⟨pv, x, y, n, m⟩ _ rfl ?_; intro v' w' h1 b1; have HQ := Lib.hid h1; have HQB := Lib.hid (HBM.out.trans b1); clear h1 b1)
                      exact ⟨⟨x + 1, by omega, by go_num, by rw [← Nat.add_assoc, HE.out]; exact HQ.out, HQB.out⟩, by simp [intOf]; omega⟩
              · have dn : decide (((x + n : Nat) : Int) < (W : Int)) = false := decide_eq_false (by omega)
                have hgoR : goR W vals L pv x y n = false := by unfold goR; rw [decide_eq_false hln]; rfl
                obtain ⟨Z, hZ⟩ : ∃ Z, x + n = Z := ⟨_, rfl⟩
                rw [hZ] at xn dn
                clear hbn HBN
                have hRn := Lib.hid hgoR
                clear hgoR
                go_wp2_with fail
                go_loopw [15] (fun i wm => ∃ m : Nat, 1 ≤ m ∧ y + m ≤ H ∧ i = .int .i64 m ∧ RowKit.Hid (∀ q, 1 ≤ q → q < m → goD W H vals L pv x y n q = true) ∧ Below w3.heap.size w3 wm) (fun i _ => H - (intOf i).toNat)
                case atStart => exact ⟨1, Nat.le_refl _, by omega, rfl, Lib.hid (fun q h1 h2 => by omega), HBN3.out⟩
                case round =>
                  obtain ⟨m, m1, hmH, rfl, hgd, hbm⟩ := hrel
                  have HM3 := Lib.hid hbm
                  have ym : IntKind.i64.wrap ((y : Int) + (m : Int)) = ((y + m : Nat) : Int) := by
                    rw [← Int.natCast_add]
                    exact IntWalk.i64_in _ (by omega)
                  by_cases hlm : y + m < H
                  · have dm : decide (((y + m : Nat) : Int) < (H : Int)) = true := decide_eq_true (by omega)
                    have CM := Lib.hid (fun w' k => C1.out w' pv x (y + m) n k (by omega) hlm (by omega))
                    obtain ⟨FM, hFM⟩ : ∃ FM, freeL W vals L pv x (y + m) n = FM := ⟨_, rfl⟩
                    rw [hFM] at CM
                    have hGD : goD W H vals L pv x y n m = FM := by unfold goD; rw [hFM, decide_eq_true hlm]; rfl
                    generalize hYM : y + m = YM at *
                    clear hbm
                    go_wp2_with fail
                    refine (CM.out _ (B3.out.trans (HM3.out.mono w3sz))).mono ?_
                    rintro r w6 ⟨rfl, b6⟩
                    have HM6 := Lib.hid (HM3.out.trans (b6.mono HM3.out.size))
                    clear b6 CM
                    cases FM with
                    | true =>
                      go_wp2_with fail
                      exact ⟨⟨m + 1, by omega, by omega, by go_num, Lib.hid (fun q h1 h2 => by
                        rcases Nat.lt_or_ge q m with h3 | h3
                        · exact hgd.out q h1 h3
                        · rw [show q = m by omega]; exact hGD), HM6.out⟩, by simp [intOf]; omega⟩
                    | false =>
                      have HE := Lib.hid (HST.out.trans (step_yes hpv hpg hFF n1 hnW hgo.out hRn.out m1 (by omega) hgd.out hGD))
                      have HAM := Lib.hid (RowAt.below HA3.out (HM6.out))
                      have HBM := Lib.hid (HB3.out.trans ((HM6.out).mono HB3.out.size))
                      clear HST C1 HM6 HM3 HSTEP
                      go_wp2_with (at_builtin; refine wpl_piece rfl _ _ rfl (.slice la L.length lcap) w0.heap.size L rfl HAM.out HBM.out.size (by omega) ⟨pv, x, y, n, m⟩ _ rfl ?_; intro v' w' h1 b1; have HQ := Lib.hid h1; have HQB := Lib.hid (HBM.out.trans b1); clear h1 b1)
                      exact ⟨⟨x + 1, by omega, by go_num, by rw [← Nat.add_assoc, HE.out]; exact HQ.out, HQB.out⟩, by simp [intOf]; omega⟩
                  · have dm : decide (((y + m : Nat) : Int) < (H : Int)) = false := decide_eq_false (by omega)
                    have hGD : goD W H vals L pv x y n m = false := by unfold goD; rw [decide_eq_false hlm]; rfl
                    have HE := Lib.hid (HST.out.trans (step_yes hpv hpg hFF n1 hnW hgo.out hRn.out m1 hmH hgd.out hGD))
                    have HAM := Lib.hid (RowAt.below HA3.out (HM3.out))
                    have HBM := Lib.hid (HB3.out.trans ((HM3.out).mono HB3.out.size))
                    obtain ⟨YM, hYM⟩ : ∃ YM, y + m = YM := ⟨_, rfl⟩
                    rw [hYM] at ym dm hlm
                    clear HST C1 HM3 HSTEP hbm
                    go_wp2_with (at_builtin; refine wpl_piece rfl _ _ rfl (.slice la L.length lcap) w0.heap.size L rfl HAM.out HBM.out.size (by omega) ⟨pv, x, y, n, m⟩ _ rfl ?_; intro v' w' h1 b1; have HQ := Lib.hid h1; have HQB := Lib.hid (HBM.out.trans b1); clear h1 b1)
                    exact ⟨⟨x + 1, by omega, by go_num, by rw [← Nat.add_assoc, HE.out]; exact HQ.out, HQB.out⟩, by simp [intOf]; omega⟩
        · obtain rfl : x = W := by omega
          have dx : decide ((x : Int) < (x : Int)) = false := decide_eq_false (by omega)
          clear hA2 hbq
          go_wp2_with fail
          exact ⟨⟨y + 1, by omega, by go_num, by rw [← HNX.out]; exact HA2.out, HB2.out⟩, by simp [intOf]; omega⟩
    · obtain rfl : y = H := by omega
      have dy : decide ((y : Int) < (y : Int)) = false := decide_eq_false (by omega)
      clear hA hbr
      go_wp2_with fail
      go_ret
      exact ⟨_, rfl, by rw [HEND.out]; exact HA.out, HB.out⟩
end Go.Proofs.Ytmjjbapahgejmaa.Rre
