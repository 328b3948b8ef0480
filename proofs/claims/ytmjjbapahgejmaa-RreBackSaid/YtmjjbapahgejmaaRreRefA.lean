/-
  The reference of layer 17 (rre): is a row's piece free?
-/
import Derived.Test.YtmjjbapahgejmaaRreRow
namespace Go.Proofs.Ytmjjbapahgejmaa.Rre
open Go.ChangeShapes Go.WideShapes Go.ChangeAt Go.RowKit Lz RowG RegVal Pln
set_option linter.unusedVariables false
set_option maxRecDepth 100000

set_option maxHeartbeats 4000000 in
theorem refFree_any (W : Nat) (vals : List Int) (vv : Value) (l : List Pc) (lv : Value) (v : Int) (x y n : Nat) (w : World)
    (hv : SW w vv vals) (hl : SP w lv l) (hb : ∀ p ∈ l, p.x + p.n ≤ 100000 ∧ p.y + p.m ≤ 100000) (hn : l.length ≤ 100000000)
    (hx : x + n ≤ 100000) (hi : 0 < n → y * W + x + n ≤ vals.length) (hm : vals.length ≤ 100000000) (hM : y * W ≤ 100000000) :
    Calls Try.prog 30 #[.int .i64 W, vv, lv, .int .i64 v, .int .i64 x, .int .i64 y, .int .i64 n] w fun e w' => e = .returned (.bool (freeL W vals l v x y n)) ∧ Below w.heap.size w w' := by
  obtain ⟨va, vn, vcap, rfl, hvl, hvr⟩ := hv.read
  obtain ⟨la, ln, lcap, rfl, hll, hlr⟩ := hl.read
  have HMORE : RowKit.Hid (∀ k, freeL W vals l v x y k = true → free1 W vals l v (x + k) y = true → freeL W vals l v x y (k + 1) = true) := Lib.hid (fun k => freeL_more)
  have HNOT : RowKit.Hid (∀ k, k < n → free1 W vals l v (x + k) y = false → freeL W vals l v x y n = false) := Lib.hid (fun k => freeL_not)
  have HZ : RowKit.Hid (freeL W vals l v x y 0 = true) := Lib.hid (freeL_iff.2 (fun k hk => by omega))
  have HEL : RowKit.Hid (∀ q, q < ln → ∃ p, l[q]? = some p ∧ (p.x + p.n ≤ 100000 ∧ p.y + p.m ≤ 100000) ∧ ∀ i, hasL (l.take (q + 1)) i y = (hasL (l.take q) i y || p.has i y)) := Lib.hid (fun q hq => by
    have hq' : q < l.length := by omega
    exact ⟨l[q], List.getElem?_eq_getElem hq', hb _ (List.getElem_mem hq'), fun i => hasL_take hq' i y⟩)
  have HOF : RowKit.Hid (∀ q i, hasL (l.take q) i y = true → hasL l i y = true) := Lib.hid (fun q i => hasL_of_take)
  have HALL : RowKit.Hid (l.take ln = l) := Lib.hid (List.take_of_length_le (by omega))
  have HF1 : RowKit.Hid (∀ i, free1 W vals l v i y = (decide (px vals (y * W + i) = v) && !hasL l i y)) := Lib.hid (fun i => rfl)
  have HV := Lib.hid hvr
  have HL := Lib.hid hlr
  have HI : RowKit.Hid (∀ k, k < n → y * W + (x + k) < vn) := Lib.hid (fun k hk => by have := hi (by omega); omega)
  rw [hll] at hn
  rw [hvl] at hm
  obtain ⟨M, hMM⟩ : ∃ M, y * W = M := ⟨_, rfl⟩
  have t1 : IntKind.i64.wrap ((y : Int) * W) = (M : Nat) := by
    rw [← Int.natCast_mul, hMM]
    exact IntWalk.i64_in _ (by omega)
  rw [hMM] at HF1 HI hM
  clear hv hl hvr hlr hb hvl hll hi
  generalize freeL W vals l v x y = FR at *
  generalize free1 W vals l v = F1 at *
  go_enter Try.func30, Try.ntmps30
  go_wp2_with fail
  go_loopw [15] (fun i wr => ∃ k : Nat, k ≤ n ∧ i = .int .i64 (x + k : Nat) ∧ RowKit.Hid (FR k = true) ∧ Below w.heap.size w wr) (fun i _ => x + n - (intOf i).toNat)
  case atStart => exact ⟨0, Nat.zero_le _, rfl, HZ, Below.refl _ _⟩
  case round =>
    obtain ⟨k, hk, rfl, hfr, hbr⟩ := hrel
    have HB := Lib.hid hbr
    by_cases hlt : k < n
    · obtain ⟨g, off, rfl, hc⟩ := HV.out wr hbr (by have := HI.out k hlt; omega)
      have hJ := HI.out k hlt
      have q0 := hc (M + (x + k)) hJ
      have e1 := Lib.hid (HF1.out (x + k))
      have t2 : IntKind.i64.wrap ((M : Int) + ((x + k : Nat) : Int)) = ((M + (x + k) : Nat) : Int) := by
        rw [← Int.natCast_add]
        exact IntWalk.i64_in _ (by omega)
      have dj : decide (((M + (x + k) : Nat) : Int) < (vn : Int)) = true := decide_eq_true (by omega)
      have dk : decide (((x + k : Nat) : Int) < (x : Int) + (n : Int)) = true := decide_eq_true (by omega)
      have HNK := Lib.hid (HNOT.out k hlt)
      have HMK := Lib.hid (HMORE.out k hfr.out)
      have hxk : x + k < 100000 := by omega
      generalize hKK : x + k = K at *
      generalize hJJ : M + K = J at *
      clear hc hbr
      generalize hpv : px vals J = pv at *
      by_cases hne : pv = v
      case neg =>
        have dn : decide (pv = v) = false := decide_eq_false hne
        have hF : FR n = false := HNK.out (by rw [e1.out, dn]; rfl)
        clear HF1 HI HL HV HEL HOF HALL e1 HNK HMK
        go_wp2_with fail
        go_ret
        exact ⟨retB hF.symm, HB.out⟩
      have dn : decide (pv = v) = true := decide_eq_true hne
      go_wp2_with fail
      go_loopw [16] (fun i wq => ∃ q : Nat, q ≤ ln ∧ i = .int .i64 q ∧ RowKit.Hid (hasL (l.take q) K y = false) ∧ Below w.heap.size w wq) (fun i _ => ln - (intOf i).toNat)
      case atStart => exact ⟨0, Nat.zero_le _, rfl, Lib.hid (by simp [hasL]), HB.out⟩
      case round =>
        obtain ⟨q, hq, rfl, hno, hbq⟩ := hrel
        have HBQ := Lib.hid hbq
        by_cases hlq : q < ln
        · obtain ⟨p, hp, hpb, hpt⟩ := HEL.out q hlq
          obtain ⟨g2, off2, rfl, hc2⟩ := HL.out _ hbq (by omega)
          obtain ⟨c0, c1, c2, c3, c4⟩ := hc2 q p hp
          have C := Lib.hid (fun w => refIn_any p K y hpb w)
          have HT := Lib.hid (hpt K)
          have dq : decide ((q : Int) < (ln : Int)) = true := decide_eq_true (by omega)
          clear hc2 hp hpt hpb hbq c0
          go_wp2_with fail
          refine (C.out _).mono ?_
          rintro r w3 ⟨rfl, b3⟩
          have HB3 := Lib.hid (HBQ.out.trans (b3.mono HBQ.out.size))
          clear b3 C
          generalize p.has K y = PH at *
          cases PH with
          | true =>
            have hF : FR n = false := HNK.out (by rw [e1.out, HOF.out (q + 1) K (by rw [HT.out]; simp)]; simp)
            go_wp2_with fail
            go_ret
            exact ⟨retB hF.symm, HB3.out⟩
          | false =>
            go_wp2_with fail
            exact ⟨⟨q + 1, by omega, by go_num, Lib.hid (by rw [HT.out, hno.out]; rfl), HB3.out⟩, by simp [intOf]; omega⟩
        · obtain rfl : q = ln := by omega
          have dq : decide ((q : Int) < (q : Int)) = false := decide_eq_false (by omega)
          have hF : FR (k + 1) = true := HMK.out (by rw [e1.out, dn, ← HALL.out, hno.out]; rfl)
          clear hbq
          go_wp2_with fail
          exact ⟨⟨k + 1, by omega, by rw [← hKK]; go_num, Lib.hid hF, HBQ.out⟩, by simp [intOf]; omega⟩
    · obtain rfl : k = n := by omega
      have dk : decide (((x + k : Nat) : Int) < (x : Int) + (k : Int)) = false := decide_eq_false (by omega)
      clear hbr
      go_wp2_with fail
      go_ret
      exact ⟨retB hfr.out.symm, HB.out⟩
end Go.Proofs.Ytmjjbapahgejmaa.Rre
