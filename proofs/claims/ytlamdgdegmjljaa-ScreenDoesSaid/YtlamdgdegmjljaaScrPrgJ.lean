/-
  The program's Fill, Blit, Move, Part, Image.
-/
import Derived.Test.YtlamdgdegmjljaaScrPrgI
import Derived.Deep.RegionWith
namespace Go.Proofs.Ytlamdgdegmjljaa.Scr
open Go.ChangeShapes Go.WideShapes Go.ChangeAt Go.RowKit Lz RowG RegVal Reg
set_option linter.unusedVariables false
set_option maxRecDepth 100000

theorem Touch.more {w w' : World} {F G : List Nat} (h : Touch w w' F) (hF : ∀ k ∈ F, k ∈ G) : Touch w w' G :=
  ⟨h.os, h.tape, h.output, h.size, fun k hk hm => h.block k hk (fun e => hm (hF k e))⟩
theorem drew_same {w w' : World} {b g : Nat} {W H : Int} {l : List Int} (h : ScrAt w b g W H l) (k : Below w.heap.size w w') : ∃ F', lies w' b W H l F' ∧ Touch w w' [b, g] ∧ From w [b, g] F' :=
  ⟨_, ⟨g, rfl, h.below k (Nat.le_refl _)⟩, Touch.of_below k _, fun k hk => .inl hk⟩
theorem drew_new {w w' : World} {b g : Nat} {W H : Int} {l : List Int} (h : ScrAt w' b g W H l) (k : Touch w w' [g]) : ∃ F', lies w' b W H l F' ∧ Touch w w' [b, g] ∧ From w [b, g] F' :=
  ⟨_, ⟨g, rfl, h⟩, k.more (fun k hk => by simp at hk; simp [hk]), fun k hk => .inl hk⟩
theorem fill_any {w : World} {b : Nat} {W H : Int} {l : List Int} {F : List Nat} (h : lies w b W H l F) (r : Rc) (c : Int) : Calls Try.prog 13 #[ptr b, r.v, .int .i64 c] w (Drew lies w b W H (fillS W H r c l) F (fillE W H r c)) := by
  obtain ⟨g, rfl, h⟩ := h
  unfold fillS fillE
  cases hr : insB r W H with
  | false => exact (fill_out h r c hr).mono fun e w' ⟨he, hb⟩ => ⟨he, drew_same h hb⟩
  | true =>
    cases hc : colB c with
    | false => exact (fill_col h r c hr hc).mono fun e w' ⟨he, hb⟩ => ⟨he, drew_same h hb⟩
    | true => exact (fill_in h r c hr hc).mono fun e w' ⟨he, hs, ht⟩ => ⟨he, drew_new hs ht⟩

set_option maxHeartbeats 1000000 in
theorem blit_out {w : World} {b g : Nat} {W H : Int} {l : List Int} (h : ScrAt w b g W H l) (r : Rc) (q : List Int) (qv : Value) (hq : SW w qv q) (hr : insB r W H = false) :
    Calls Try.prog 15 #[ptr b, r.v, qv] w fun e w' => e = .returned (.int .i64 140) ∧ Below w.heap.size w w' := by
  have i1 := RAt.box w r 35
  have b1 := (Below.refl w.heap.size w).alloc (Nat.le_refl _) (.cells #[.int .i64 r.x, .int .i64 r.y, .int .i64 r.w, .int .i64 r.h] 35)
  have C1 := Lib.hid (has_any (h.below b1 (Nat.le_refl _)) r)
  rw [hr] at C1
  obtain ⟨qa, qc, rfl, _⟩ := hq.cells
  generalize q.length = qn at *
  obtain ⟨rx, ry, rw', rh⟩ := r
  unfold Rc.v ptr at *
  simp only at *
  obtain ⟨w1, hw1⟩ : ∃ w1, w.alloc (.cells #[.int .i64 rx, .int .i64 ry, .int .i64 rw', .int .i64 rh] 35) = w1 := ⟨_, rfl⟩
  rw [hw1] at i1 b1 C1
  obtain ⟨r0, r1, r2, r3⟩ := i1
  simp only at r0 r1 r2 r3
  have B1 := Lib.hid b1
  clear b1 h hr hq
  go_enter Try.func15, Try.ntmps15
  go_wp2_with fail
  refine C1.out.mono ?_
  rintro e w2 ⟨rfl, b2⟩
  have B2 := Lib.hid (below_n B1.out b2)
  clear b2
  go_wp2_with fail
  go_ret
  exact ⟨rfl, B2.out⟩
/-- What Blit answers where the rectangle is within. -/
def BlitP (w : World) (b g : Nat) (W H : Int) (l' : List Int) (RQ : Bool) (e : Ending) (w' : World) : Prop := match RQ with
  | false => e = .returned (.int .i64 1) ∧ Below w.heap.size w w'
  | true => e = .returned (.int .i64 0) ∧ ScrAt w' b g W H l' ∧ Touch w w' [g]
set_option maxHeartbeats 4000000 in
theorem blit_in {w : World} {b g : Nat} {W H : Int} {l : List Int} (h : ScrAt w b g W H l) (r : Rc) (q : List Int) (qv : Value) (hq : SW w qv q) (hrm : Room qv) (hoff : 0 < q.length → ∀ k, qv.ownBlock = some k → k ≠ g) (hql : q.length ≤ maxLen) (hr : insB r W H = true) :
    Calls Try.prog 15 #[ptr b, r.v, qv] w (BlitP w b g W H (blitL W r q l) (rightQ r q)) := by
  have hrr := ins_iff.1 hr
  have hw4 := h.ok.w
  have hh4 := h.ok.h
  have i1 := RAt.box w r 35
  have b1 := (Below.refl w.heap.size w).alloc (Nat.le_refl _) (.cells #[.int .i64 r.x, .int .i64 r.y, .int .i64 r.w, .int .i64 r.h] 35)
  have z1 := alloc_size w (.cells #[.int .i64 r.x, .int .i64 r.y, .int .i64 r.w, .int .i64 r.h] 35)
  have C1 := Lib.hid (has_any (h.below b1 (Nat.le_refl _)) r)
  rw [hr] at C1
  have KC := Lib.hid (fun W0 (k : Below w.heap.size w W0) => contains_any q qv W0 (hq.below k) hql)
  have KD := Lib.hid (fun W0 (k : Below w.heap.size w W0) (hright : Hid (rightQ r q = true)) => draw_any (h.below k (Nat.le_refl _)) r hr q qv (hq.below k) hrm hoff hright.out)
  have HRQ : RowKit.Hid (rightQ r q = (decide ((q.length : Int) = r.w * r.h) && q.all colB)) := Lib.hid rfl
  obtain ⟨qa, qc, rfl, _⟩ := hq.cells
  generalize rightQ r q = RQ at *
  generalize q.all colB = AC at *
  generalize q.length = qn at *
  obtain ⟨rx, ry, rw', rh⟩ := r
  simp only at hrr HRQ
  obtain ⟨m, rfl⟩ : ∃ m : Nat, rw' = m := ⟨rw'.toNat, by omega⟩
  obtain ⟨N, rfl⟩ : ∃ N : Nat, rh = N := ⟨rh.toNat, by omega⟩
  obtain ⟨n, hn⟩ : ∃ n, N * m = n := ⟨_, rfl⟩
  have hn4 : n ≤ 16777216 := by
    have h1 := Nat.mul_le_mul (show N ≤ 4096 by omega) (show m ≤ 4096 by omega)
    rw [hn] at h1
    omega
  rw [← Int.natCast_mul, Nat.mul_comm, hn] at HRQ
  have g1 : IntKind.i64.wrap ((m : Int) * (N : Int)) = n := (IntWalk.i64_in _ (by rw [← Int.natCast_mul, Nat.mul_comm, hn]; omega)).trans (by rw [← Int.natCast_mul, Nat.mul_comm, hn])
  have g2 : wrap64 ((m : Int) * (N : Int)) = n := (IntWalk.wrap64_in _ (by rw [← Int.natCast_mul, Nat.mul_comm, hn]; omega)).trans (by rw [← Int.natCast_mul, Nat.mul_comm, hn])
  have G1 := Lib.hid g1
  have G2 := Lib.hid g2
  clear g1 g2 hn hrr hw4 hh4 hr hq hrm hoff h
  unfold Rc.v ptr at *
  simp only at *
  obtain ⟨w1, hw1⟩ : ∃ w1, w.alloc (.cells #[.int .i64 rx, .int .i64 ry, .int .i64 m, .int .i64 N] 35) = w1 := ⟨_, rfl⟩
  rw [hw1] at i1 b1 C1 z1
  have I1 := Lib.hid i1
  obtain ⟨r0, r1, r2, r3⟩ := i1
  simp only at r0 r1 r2 r3
  have B1 := Lib.hid b1
  clear b1
  have key : ∀ w2, Below w1.heap.size w1 w2 → RAt w2 w.heap.size ⟨rx, ry, m, N⟩ ∧ Below w.heap.size w w2 := fun w2 k => ⟨I1.out.below k (by omega), below_n B1.out k⟩
  have KEY := Lib.hid key
  clear key
  by_cases hlen : qn = n
  · subst hlen
    have t1 : ((qn : Int) == (qn : Int)) = true := by simp
    cases AC with
    | false =>
      obtain rfl : RQ = false := by have := HRQ.out; simpa using this
      go_enter Try.func15, Try.ntmps15
      go_wp2_with fail
      refine C1.out.mono ?_
      rintro e w2 ⟨rfl, b2⟩
      obtain ⟨i2, b2⟩ := KEY.out w2 b2
      have D2 := Lib.hid (KC.out w2 b2)
      have B2 := Lib.hid b2
      have g1 := G1.out
      have g2 := G2.out
      clear r0 r1 r2 r3 b2 KC KD KEY C1
      obtain ⟨r0, r1, r2, r3⟩ := i2
      simp only at r0 r1 r2 r3
      go_wp2_with fail
      refine D2.out.mono ?_
      rintro e w3 ⟨rfl, k, rfl⟩
      clear g1 g2 D2
      go_wp2_with fail
      go_ret
      exact ⟨rfl, below_q B2.out k⟩
    | true =>
      obtain rfl : RQ = true := by have := HRQ.out; simpa using this
      go_enter Try.func15, Try.ntmps15
      go_wp2_with fail
      refine C1.out.mono ?_
      rintro e w2 ⟨rfl, b2⟩
      obtain ⟨i2, b2⟩ := KEY.out w2 b2
      have D2 := Lib.hid (KC.out w2 b2)
      have B2 := Lib.hid b2
      have I2 := Lib.hid i2
      have g1 := G1.out
      have g2 := G2.out
      clear r0 r1 r2 r3 b2 KC KEY C1
      obtain ⟨r0, r1, r2, r3⟩ := i2
      simp only at r0 r1 r2 r3
      go_wp2_with fail
      refine D2.out.mono ?_
      rintro e w3 ⟨rfl, k, rfl⟩
      have D3 := Lib.hid (KD.out (w2.drewN k) (below_q B2.out k) (Lib.hid (by simp)))
      have i3 : RAt (w2.drewN k) w.heap.size ⟨rx, ry, m, N⟩ := I2.out
      have B3 := Lib.hid (below_q B2.out k)
      clear g1 g2 D2 r0 r1 r2 r3 KD I2 B2
      generalize w2.drewN k = w4 at *
      obtain ⟨r0, r1, r2, r3⟩ := i3
      simp only at r0 r1 r2 r3
      go_wp2_with fail
      refine D3.out.mono ?_
      rintro e w5 ⟨rfl, hs, ht⟩
      have HS := Lib.hid hs
      have HT : RowKit.Hid (Touch w w5 [g]) := Lib.hid ⟨ht.os.trans B3.out.os, ht.tape.trans B3.out.tape, ht.output.trans B3.out.output, Nat.le_trans B3.out.size ht.size, fun k hk hm => (ht.block k (Nat.lt_of_lt_of_le hk B3.out.size) hm).trans (B3.out.block k hk)⟩
      clear hs ht D3 r0 r1 r2 r3
      go_wp2_with fail
      go_ret
      exact ⟨rfl, HS.out, HT.out⟩
  · have t1 : ((qn : Int) == (n : Int)) = false := by simp; omega
    have t3 : ¬ ((qn : Int) = (n : Int)) := by omega
    have t2 : (qn == n) = false := by simp; omega
    obtain rfl : RQ = false := by have := HRQ.out; rw [decide_eq_false (by omega)] at this; simpa using this
    go_enter Try.func15, Try.ntmps15
    go_wp2_with fail
    refine C1.out.mono ?_
    rintro e w2 ⟨rfl, b2⟩
    obtain ⟨i2, b2⟩ := KEY.out w2 b2
    have B2 := Lib.hid b2
    have g1 := G1.out
    have g2 := G2.out
    clear r0 r1 r2 r3 b2 KC KD KEY C1
    obtain ⟨r0, r1, r2, r3⟩ := i2
    simp only at r0 r1 r2 r3
    go_wp2_with fail
    go_ret
    exact ⟨rfl, B2.out⟩
theorem blit_any {w : World} {b : Nat} {W H : Int} {l : List Int} {F : List Nat} (h : lies w b W H l F) (r : Rc) (q : List Int) (qv : Value) (hq : SW w qv q) (hrm : Room qv) (hoff : 0 < q.length → Off qv F) (hql : q.length ≤ maxLen) :
    Calls Try.prog 15 #[ptr b, r.v, qv] w (Drew lies w b W H (blitS W H r q l) F (blitE W H r q)) := by
  obtain ⟨g, rfl, h⟩ := h
  unfold blitS blitE
  cases hr : insB r W H with
  | false => exact (blit_out h r q qv hq hr).mono fun e w' ⟨he, hb⟩ => ⟨he, drew_same h hb⟩
  | true =>
    have hb := blit_in h r q qv hq hrm (fun h0 k hk e => hoff h0 k hk (by simp [e])) hql hr
    cases hc : rightQ r q with
    | false =>
      rw [hc] at hb
      exact hb.mono fun e w' ⟨h1, h2⟩ => ⟨h1, drew_same h h2⟩
    | true =>
      rw [hc] at hb
      exact hb.mono fun e w' ⟨h1, h2, h3⟩ => ⟨h1, drew_new h2 h3⟩
end Go.Proofs.Ytlamdgdegmjljaa.Scr
