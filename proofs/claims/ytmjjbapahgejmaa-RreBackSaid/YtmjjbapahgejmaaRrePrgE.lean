/-
  The program of layer 17 (rre): Pieces.
-/
import Derived.Test.YtmjjbapahgejmaaRrePrgD
namespace Go.Proofs.Ytmjjbapahgejmaa.Rre
open Go.ChangeShapes Go.WideShapes Go.ChangeAt Go.RowKit Lz RowG RegVal Pln
set_option linter.unusedVariables false
set_option linter.unusedSimpArgs false
set_option maxRecDepth 100000

theorem info_pieceP : (Try.prog.info? 31).map (fun i => (i.zero, i.size, i.bytes)) = some (some (.agg #[.int .i64 0, .int .i64 0, .int .i64 0, .int .i64 0, .int .i64 0]), 5, 40) := by kernel_rfl
theorem wpl_pieceP {w0 : World} {ops : Array Oper} {rest : List Oper} {o : Oper} {a : Act} {Q : Exit → Act → World → Prop} (hgd : o.guard = none) (s x : Operand)
    (ho : o.op = .call { callee := .builtin .append, args := #[s, x], argTypes := #[24, 24] })
    (v : Value) (B : Nat) (l : List Pc) (hs : a.eval s = v) (hown : PcsAt 31 B w0 v l) (hB : B ≤ w0.heap.size) (hl : l.length ≤ 1000000000) (p : Pc) (T : TypeId) (hx : a.eval x = .slice (some ⟨w0.heap.size, 0, none⟩) 1 1)
    (h : ∀ v' w', PcsAt 31 B w' v' (l ++ [p]) → Below B w0 w' → w0.grownBy w' v.ownBlock → wpList Try.prog ops Q rest (a.put o.dst v') w') : wpList Try.prog ops Q (o :: rest) a (w0.alloc (.cells #[.int .i64 p.v, .int .i64 p.x, .int .i64 p.y, .int .i64 p.n, .int .i64 p.m] T)) := by
  obtain ⟨i0, hi, hz0, hz1, hz2⟩ := info_parts info_pieceP
  refine wpl_append_sees _ hgd s x 24 ho 31 i0 _ 5 40 Try.underlying24 hi hz0 hz1 hz2 rfl (by decide) v l.length (cellsP l) hs (RowAt.alloc hown _).1 _ 1 (cellsP [p]) hx (sees_new w0 5 #[.int .i64 p.v, .int .i64 p.x, .int .i64 p.y, .int .i64 p.n, .int .i64 p.m] T 1 rfl (cellsP_one [p])) (by unfold maxLen; omega) (by omega) ?_
  intro v' w' h1 h2 h3
  have hz := alloc_size w0 (.cells #[.int .i64 p.v, .int .i64 p.x, .int .i64 p.y, .int .i64 p.n, .int .i64 p.m] T)
  refine h v' w' ⟨?_, fun k hk => ?_, cellsP_one _⟩ (((Below.refl B w0).alloc hB _).trans (grown_below h2 hown.2.1 (by omega))) ?_
  · rw [List.length_append, cellsP_append]
    exact h1
  · rcases h3 k hk with h4 | h4
    · exact hown.2.1 k h4
    · omega
  · exact ⟨h2.os, h2.tape, h2.output, by have := h2.size; omega, fun i hi hn => (h2.block i (by omega) hn).trans (heap_alloc_old w0 _ hi)⟩
theorem ints_some {B n cap : Nat} {w : World} {a : Option Addr} {l : List Int} (hl : l.length = n) (h : IntsAt B w (.slice a n cap) l) (h0 : 0 < n) : ∃ g, a = some ⟨g, 0, none⟩ := by
  rcases h.1.2 with ⟨h5, _⟩ | ⟨g, cap', cur, h5, _⟩
  · simp only [Value.slice.injEq] at h5
    omega
  · simp only [Value.slice.injEq] at h5
    exact ⟨g, h5.1⟩
set_option maxHeartbeats 8000000 in
theorem pieces_any (w h : Int) (vals : List Int) (vv : Value) (g : Int) (w0 : World) (hv : SW w0 vv vals) (hlen : vals.length ≤ 100000000)
    (hwb : -9223372036854775808 ≤ w ∧ w ≤ 9223372036854775807) (hhb : -9223372036854775808 ≤ h ∧ h ≤ 9223372036854775807) :
    Calls Try.prog 10 #[.int .i64 w, .int .i64 h, vv, .int .i64 g] w0 fun e w' => ∃ v', e = .returned v' ∧ PcsAt 31 w0.heap.size w' v' (piecesL w h vals g) ∧ Below w0.heap.size w0 w' := by
  have HSW := Lib.hid hv
  obtain ⟨va, vn, vcap, rfl, hvl, hvr⟩ := hv.read
  have HR : RowKit.Hid (piecesL w h vals g = if w < 0 ∨ h < 0 ∨ 4096 < w ∨ 4096 < h ∨ (vn : Int) ≠ w * h then [] else piecesN w.toNat h.toNat vals g) := Lib.hid (by unfold piecesL; rw [hvl])
  have HVL := Lib.hid hvl
  rw [hvl] at hlen
  clear hv hvr hvl
  generalize hRES : piecesL w h vals g = RES at *
  clear hRES
  go_enter Try.func10, Try.ntmps10
  go_wp2_with fail
  refine (isSide_any w w0).mono ?_
  rintro r w1 ⟨rfl, rfl⟩
  by_cases h1 : 0 ≤ w ∧ w ≤ 4096
  case neg =>
    rw [decide_eq_false h1]
    have hres := HR.out
    rw [if_pos (by omega)] at hres
    clear HR
    subst hres
    go_wp2_with fail
    go_ret
    exact ⟨_, rfl, RowAt.nil _ _ _ _, Below.refl _ _⟩
  rw [decide_eq_true h1]
  go_wp2_with fail
  refine (isSide_any h w0).mono ?_
  rintro r w0 ⟨rfl, rfl⟩
  by_cases h2 : 0 ≤ h ∧ h ≤ 4096
  case neg =>
    rw [decide_eq_false h2]
    have hres := HR.out
    rw [if_pos (by omega)] at hres
    clear HR
    subst hres
    go_wp2_with fail
    go_ret
    exact ⟨_, rfl, RowAt.nil _ _ _ _, Below.refl _ _⟩
  rw [decide_eq_true h2]
  obtain ⟨W, rfl⟩ : ∃ W : Nat, w = W := ⟨w.toNat, by omega⟩
  obtain ⟨H, rfl⟩ : ∃ H : Nat, h = H := ⟨h.toNat, by omega⟩
  have hW : W ≤ 4096 := by omega
  have hH : H ≤ 4096 := by omega
  have hWH : W * H ≤ 4096 * 4096 := Nat.mul_le_mul hW hH
  have t0 : IntKind.i64.wrap ((W : Int) * H) = ((W * H : Nat) : Int) := by
    rw [← Int.natCast_mul]
    exact IntWalk.i64_in _ (by omega)
  obtain ⟨N, hN⟩ : ∃ N, W * H = N := ⟨_, rfl⟩
  have hN' : (W : Int) * H = (N : Int) := by rw [← hN, Int.natCast_mul]
  rw [hN] at t0 hWH
  rw [hN'] at HR
  clear hwb hhb h1 h2
  by_cases h5 : vn = N
  case neg =>
    have d5 : decide ((vn : Int) = (N : Int)) = false := decide_eq_false (by omega)
    have d6 : ((vn : Int) == (N : Int)) = false := by simp; omega
    have d7 : ((vn : Int) != (N : Int)) = true := by simp; omega
    have d8 : decide (vn = N) = false := decide_eq_false h5
    have hres := HR.out
    rw [if_pos (.inr (.inr (.inr (.inr (by omega)))))] at hres
    clear HR
    subst hres
    go_wp2_with fail
    go_ret
    exact ⟨_, rfl, RowAt.nil _ _ _ _, Below.refl _ _⟩
  subst h5
  have hR0 : RES = piecesN W H vals g := by
    rw [HR.out, if_neg (by omega)]
    rfl
  have hlN : vals.length = W * H := by rw [HVL.out, hN]
  have HLN := Lib.hid hlN
  have HSTEP : RowKit.Hid (∀ x y, x < W → pcs W H vals g (y * W + x + 1) = stepP W H vals g (pcs W H vals g (y * W + x)) x y) := Lib.hid (fun x y hx => pcs_step hx)
  have HLEN : RowKit.Hid (∀ k, (pcs W H vals g k).length ≤ k) := Lib.hid (pcs_length W H vals g)
  have HEND : RowKit.Hid (RES = pcs W H vals g (H * W)) := Lib.hid (by rw [hR0, Nat.mul_comm H W]; rfl)
  have HP0 : RowKit.Hid (pcs W H vals g 0 = []) := Lib.hid rfl
  have HAT : RowKit.Hid (∀ x y, x < W → y < H → y * W + x < vn) := Lib.hid (fun x y hx hy => by rw [← hN]; exact at_lt hx hy)
  have HNX : RowKit.Hid (∀ y, y * W + W = (y + 1) * W) := Lib.hid (fun y => by rw [Nat.add_mul, Nat.one_mul])
  have HNN := Lib.hid hN
  clear HR hR0 hN hN' hlN
  generalize hPP : pcs W H vals g = P at *
  clear hPP
  have d5 : decide ((vn : Int) = (vn : Int)) = true := decide_eq_true rfl
  go_wp2_with fail
  refine (clone_any vals _ w0 (by rw [HVL.out]; exact hlen) HSW.out).mono ?_
  rintro r w2 ⟨u, rfl, hu, b2⟩
  have HU := Lib.hid hu
  have HB2 := Lib.hid b2
  have hlu : vals.length = vn := HVL.out
  obtain ⟨ua, ucap, rfl⟩ := RowAt.shape hu
  rw [hlu] at HU ⊢
  clear hu b2 hlu
  generalize hB0 : w0.heap.size = B at *
  have HB0 := Lib.hid hB0
  clear hB0
  go_wp2_with fail
  go_loopw [9, 34] (fun vl i wr => ∃ y : Nat, y ≤ H ∧ i = .int .i64 y ∧ PcsAt 31 B wr vl (P (y * W)) ∧ IntsAt B wr (.slice ua vn ucap) (leftL W vals g (P (y * W))) ∧ Below B w0 wr) (fun _ i _ => H - (intOf i).toNat)
  case atStart => exact ⟨0, Nat.zero_le _, rfl, by rw [Nat.zero_mul, HP0.out]; exact RowAt.nil _ _ _ _, by rw [Nat.zero_mul, HP0.out, left_start]; exact HU.out, HB2.out⟩
  case round =>
    obtain ⟨y, hy, rfl, hA, hI, hbr⟩ := hrel
    have HA := Lib.hid hA
    have HI := Lib.hid hI
    have HB := Lib.hid hbr
    by_cases hly : y < H
    · have dy : decide ((y : Int) < (H : Int)) = true := decide_eq_true (by omega)
      clear hA hI hbr
      go_wp2_with fail
      go_loopw [9, 38] (fun vl i wq => ∃ x : Nat, x ≤ W ∧ i = .int .i64 x ∧ PcsAt 31 B wq vl (P (y * W + x)) ∧ IntsAt B wq (.slice ua vn ucap) (leftL W vals g (P (y * W + x))) ∧ Below B w0 wq) (fun _ i _ => W - (intOf i).toNat)
      case atStart => exact ⟨0, Nat.zero_le _, rfl, HA.out, HI.out, HB.out⟩
      case round =>
        obtain ⟨x, hx, rfl, hA2, hI2, hbq⟩ := hrel
        have HA2 := Lib.hid hA2
        have HI2 := Lib.hid hI2
        have HBQ := Lib.hid hbq
        by_cases hlx : x < W
        · have dx : decide ((x : Int) < (W : Int)) = true := decide_eq_true (by omega)
          obtain ⟨gb, rfl⟩ := ints_some ((left_length _ _ _ _).trans HVL.out) hI2 (by have := HAT.out x y hlx hly; omega)
          obtain ⟨_, hgb, hcl, _, hcap, _⟩ := ints_cells ((left_length _ _ _ _).trans HVL.out) hI2
          have hJ := HAT.out x y hlx hly
          have HST := Lib.hid (HSTEP.out x y hlx)
          have hln := HLEN.out (y * W + x)
          generalize hLq : P (y * W + x) = L at *
          clear hLq
          have q0 := hcl (y * W + x) hJ
          have HCL := Lib.hid hcl
          obtain ⟨M, hM⟩ : ∃ M, y * W = M := ⟨_, rfl⟩
          have t1 : IntKind.i64.wrap ((y : Int) * W) = (M : Nat) := by
            rw [← Int.natCast_mul, hM]
            exact IntWalk.i64_in _ (by omega)
          have t2 : IntKind.i64.wrap ((M : Int) + (x : Int)) = ((M + x : Nat) : Int) := by
            rw [← Int.natCast_add]
            exact IntWalk.i64_in _ (by omega)
          have hMJ : M + x < vn := by rw [← hM]; exact hJ
          obtain ⟨v, hv⟩ : ∃ v, px (leftL W vals g L) (y * W + x) = v := ⟨_, rfl⟩
          have hle2 : B ≤ wr.heap.size := by have := hbq.size; rw [HB0.out] at this; exact this
          have HV := Lib.hid hv
          rw [hv] at q0
          have eJ : y * W + x = M + x := by rw [hM]
          rw [eJ] at q0
          clear hcl hA2 hI2 hbq hv
          by_cases hvg : v = g
          · have HE := Lib.hid (HST.out.trans (left_none hlx (by rw [HVL.out]; exact hJ) (HV.out.trans hvg)))
            have dg : decide (v = g) = true := decide_eq_true hvg
            clear HST HCL
            go_wp2_with fail
            exact ⟨⟨x + 1, by omega, by go_num, by rw [← Nat.add_assoc, HE.out]; exact HA2.out, by rw [← Nat.add_assoc, HE.out]; exact HI2.out, HBQ.out⟩, by simp [intOf]; omega⟩
          · have dg : decide (v = g) = false := decide_eq_false hvg
            obtain ⟨hst, n1, hnW, hmH⟩ := left_some (L := L) HLN.out hlx hly hvg HV.out
            have HE := Lib.hid (HST.out.trans hst)
            have GR := Lib.hid (grow_any W H (leftL W vals g L) gb vn ucap x y wr hW hH hlx hly HNN.out hcap HCL.out hgb)
            generalize gw W (leftL W vals g L) x y = n at *
            generalize gd W (leftL W vals g L) x y n (H - y - 1) = m0 at *
            obtain ⟨m, hm⟩ : ∃ m, m0 + 1 = m := ⟨_, rfl⟩
            have hm' : ((m0 : Nat) : Int) + 1 = (m : Nat) := by omega
            rw [hm'] at GR
            rw [hm] at HE hmH
            clear HST HCL hst hm' hm
            go_wp2_with fail
            refine GR.out.mono ?_
            rintro r w3 ⟨rfl, b3⟩
            have HI3 := Lib.hid (RowAt.below (show IntsAt B wr (.slice (some ⟨gb, 0, none⟩) vn ucap) (leftL W vals g L) from HI2.out) b3)
            have HA3 := Lib.hid (RowAt.below HA2.out b3)
            have HB3 := Lib.hid (HBQ.out.trans (b3.mono hle2))
            have hgb3 : gb < w3.heap.size := Nat.lt_of_lt_of_le hgb b3.size
            have hle3 : B ≤ w3.heap.size := Nat.le_trans hle2 b3.size
            have n4 := heap_alloc_new w3 (.cells #[.int .i64 x, .int .i64 y, .int .i64 n, .int .i64 m] 29)
            have HI4 := Lib.hid (RowAt.alloc HI3.out (.cells #[.int .i64 x, .int .i64 y, .int .i64 n, .int .i64 m] 29))
            have HA4 := Lib.hid (RowAt.alloc HA3.out (.cells #[.int .i64 x, .int .i64 y, .int .i64 n, .int .i64 m] 29))
            have HB4 := Lib.hid (HB3.out.alloc hle3 (.cells #[.int .i64 x, .int .i64 y, .int .i64 n, .int .i64 m] 29))
            have z4 := alloc_size w3 (.cells #[.int .i64 x, .int .i64 y, .int .i64 n, .int .i64 m] 29)
            have c0 := cellAt (o := 0) n4 rfl
            have c1 := cellAt (o := 1) n4 rfl
            have c2 := cellAt (o := 2) n4 rfl
            have c3 := cellAt (o := 3) n4 rfl
            have HN4 := Lib.hid n4
            clear b3 n4 HI3 HA3 HB3 HA2 HI2 HBQ GR
            have z4' := Lib.hid z4
            clear z4
            go_wp2_with fail
            generalize hw4 : w3.alloc (.cells #[.int .i64 x, .int .i64 y, .int .i64 n, .int .i64 m] 29) = w4 at *
            clear hw4
            have FL := Lib.hid (fill_any W H (leftL W vals g L) ⟨g, x, y, n, m⟩ B gb vn ucap w4 HNN.out ((left_length _ _ _ _).trans HVL.out) hW hH hnW hmH HI4.out)
            obtain ⟨b4, hb4⟩ : ∃ b4, w3.heap.size = b4 := ⟨_, rfl⟩
            rw [hb4] at HN4 hgb3 c0 c1 c2 c3 z4' ⊢
            have hle4 : B ≤ w4.heap.size := by have := z4'.out; omega
            clear c0 c1 c2 c3 hb4
            refine FL.out.mono ?_
            rintro r w5 ⟨rfl, hI5, ht5⟩
            rw [left_paint W vals g v L x y n m, ← HE.out] at hI5
            have n5 : w5.heap[b4]? = some (.cells #[.int .i64 x, .int .i64 y, .int .i64 n, .int .i64 m] 29 (0, 0)) := by
              rw [ht5.block b4 (by have := z4'.out; omega) (by omega)]; exact HN4.out
            obtain ⟨hBg, _, _, _, _, csg, hcg⟩ := ints_cells ((left_length _ _ _ _).trans HVL.out) HI4.out
            have HA5 := Lib.hid (RowAt.keep HA4.out (w' := w5) (fun k hk => by
              obtain ⟨h6, cs, h7⟩ := own_type HA4.out k hk
              refine ht5.block k (Array.getElem?_eq_some_iff.1 h7).1 (fun e => ?_)
              rw [e, hcg] at h7
              simp at h7))
            have HB5 := Lib.hid (HB4.out.trans (ht5.below (fun k hk => by rw [hk]; exact hBg) hle4))
            have hle5 : B ≤ w5.heap.size := Nat.le_trans hle4 ht5.size
            have HI5 := Lib.hid hI5
            have c0 := cellAt (o := 0) n5 rfl
            have c1 := cellAt (o := 1) n5 rfl
            have c2 := cellAt (o := 2) n5 rfl
            have c3 := cellAt (o := 3) n5 rfl
            obtain ⟨la, lcap, rfl⟩ := RowAt.shape HA5.out
            clear HA4 HB4 HI4 FL hcg n5 ht5 hI5
            go_wp2_with (at_builtin; refine wpl_pieceP rfl _ _ rfl (.slice la L.length lcap) B L rfl HA5.out hle5 (by omega) ⟨v, x, y, n, m⟩ _ rfl ?_; intro v' w' h1 h2 h3; have HQ := Lib.hid h1; have HQB := Lib.hid (HB5.out.trans h2); have HQG := Lib.hid h3; clear h1 h2 h3)
            have HI6 := Lib.hid (RowAt.keep HI5.out (w' := w') (fun k hk => by
              obtain ⟨h6, cs, h7⟩ := own_type HI5.out k hk
              refine HQG.out.block k (Array.getElem?_eq_some_iff.1 h7).1 (fun e => ?_)
              obtain ⟨_, cs2, h8⟩ := own_type HA5.out k e.symm
              rw [h8] at h7
              simp at h7))
            exact ⟨⟨x + 1, by omega, by go_num, by rw [← Nat.add_assoc, HE.out]; exact HQ.out, by rw [← Nat.add_assoc]; exact HI6.out, HQB.out⟩, by simp [intOf]; omega⟩
        · obtain rfl : x = W := by omega
          have dx : decide ((x : Int) < (x : Int)) = false := decide_eq_false (by omega)
          clear hA2 hI2 hbq
          go_wp2_with fail
          exact ⟨⟨y + 1, by omega, by go_num, by rw [← HNX.out]; exact HA2.out, by rw [← HNX.out]; exact HI2.out, HBQ.out⟩, by simp [intOf]; omega⟩
    · obtain rfl : y = H := by omega
      have dy : decide ((y : Int) < (y : Int)) = false := decide_eq_false (by omega)
      clear hA hI hbr
      go_wp2_with fail
      go_ret
      exact ⟨_, rfl, by rw [HEND.out, HB0.out]; exact HA.out, by rw [HB0.out]; exact HB.out⟩
end Go.Proofs.Ytmjjbapahgejmaa.Rre
