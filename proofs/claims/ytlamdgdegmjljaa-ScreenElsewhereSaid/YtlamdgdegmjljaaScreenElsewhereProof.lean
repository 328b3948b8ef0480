/-
  The statement ScreenElsewhere of layer 14 (screen) holds of the program as it stands: what is drawn on is as it was elsewhere, and twice filled is once filled.
-/
import Derived.Test.YtlamdgdegmjljaaRows
import Derived.Test.YtlamdgdegmjljaaScrProg
import Derived.Test.YtlamdgdegmjljaaScrView
import Derived.Test.YtlamdgdegmjljaaScrQuart
import Derived.WalkKit
import Derived.ProofKit
import Derived.OpenShut
import Derived.ShutString
import Derived.ChangeOld
import Derived.Below
import Derived.Lib.SmallJoins
import Derived.Deep.Slices
namespace Go.Proofs.Ytlamdgdegmjljaa.screenElsewhere
open Go.Proofs.Ytlamdgdegmjljaa.Scr
open Lz RowG RegVal Reg
open Go.ChangeShapes Go.WideShapes Go.ChangeAt Go.RowKit
open Go.ChangeMaps (open_string shut_string)
set_option linter.unusedVariables false

theorem own : ownKnob Try.prog.godebug = none := by kernel_rfl
theorem laidOut : laidOutB Try.prog = true := by kernel_rfl

def elR (w h : Int) (L : List Int) (m : Nat) (i : Nat) (v : Value) (W : World) : Prop := if i = m then ∃ u, v = imgV w h u ∧ SI W u L else True
/-- What is so in a region: the screen, the image that was taken, whatever came ahead. -/
structure elS {S : Lies} (W w10 : World) (b : Nat) (w h : Int) (L : List Int) (u : Value) (gm : Nat) (ℓ : Nat → Bool) (W' : World) : Prop where
  s : ∃ G, S W' b w h L G ∧ (∀ i ∈ G, W.heap.size + 1 ≤ i) ∧ Off u G ∧ gm ∉ G
  im : SI W' u L
  v : VarAt W' gm w h u
  b : Below (W.heap.size + 1) w10 W'
theorem elS.other {S : Lies} {W w10 W' : World} {b gm : Nat} {w h : Int} {L : List Int} {u : Value} {ℓ ℓ' : Nat → Bool} (H : elS (S := S) W w10 b w h L u gm ℓ W') : elS (S := S) W w10 b w h L u gm ℓ' W' := ⟨H.s, H.im, H.v, H.b⟩
theorem elS.below {S : Lies} (D : Says S) {W w10 W' W2 : World} {b gm : Nat} {w h : Int} {L : List Int} {u : Value} {ℓ ℓ' : Nat → Bool} (hW : W.heap.size + 1 ≤ W'.heap.size) (H : elS (S := S) W w10 b w h L u gm ℓ W') (k : Below W'.heap.size W' W2) : elS (S := S) W w10 b w h L u gm ℓ' W2 := by
  obtain ⟨G, s, hG, ho, hg⟩ := H.s
  exact ⟨⟨G, D.stay s k, hG, ho, hg⟩, H.im.below k, H.v.below k H.v.lt, H.b.trans (k.mono hW)⟩
theorem elS.drew {S : Lies} {W w10 W' : World} {b gm : Nat} {w h : Int} {L : List Int} {u : Value} {ℓ ℓ' : Nat → Bool} (H : elS (S := S) W w10 b w h L u gm ℓ W') (D : Says S) : elS (S := S) W w10 b w h L u gm ℓ' W'.drew := by
  obtain ⟨G, s, hG, ho, hg⟩ := H.s
  exact ⟨⟨G, D.keep s (fun _ _ => rfl) (Nat.le_refl _), hG, ho, hg⟩, H.im, H.v, H.b.drew⟩
theorem elS.drawn {S : Lies} {W w10 W' W2 : World} {b gm : Nat} {w h : Int} {L : List Int} {u : Value} {ℓ ℓ' : Nat → Bool} (hW : W.heap.size + 1 ≤ W'.heap.size) (H : elS (S := S) W w10 b w h L u gm ℓ W') {G G' : List Nat} (hG : ∀ i ∈ G, W.heap.size + 1 ≤ i) (ho : Off u G) (hg : gm ∉ G) (s : S W2 b w h L G') (t : Scr.Touch W' W2 G) (f : From W' G G') : elS (S := S) W w10 b w h L u gm ℓ' W2 := by
  refine ⟨⟨G', s, f.base hG hW, ho.from H.im f, fun hm => ?_⟩, H.im.touch t ho, (t.block gm H.v.lt hg).trans H.v, Scr.Touch.below H.b t hG hW⟩
  rcases f gm hm with h1 | h1
  · exact hg h1
  · have := H.v.lt
    omega
/-- What comes behind the move. -/
structure Ch (ℓ : Nat → Bool) : Prop where
  a : ℓ 23 = true → ℓ 22 = true
  b : ℓ 24 = true → ℓ 23 = true
  c : ℓ 25 = true → ℓ 24 = true
  d : ℓ 28 = true → ℓ 25 = true
theorem Ch.none : Ch (fun _ => false) := ⟨fun h => (by cases h), fun h => (by cases h), fun h => (by cases h), fun h => (by cases h)⟩
theorem Ch.set {ℓ : Nat → Bool} (h : Ch ℓ) {i : Nat} (h1 : i = 23 → ℓ 22 = true) (h2 : i = 24 → ℓ 23 = true) (h3 : i = 25 → ℓ 24 = true) (h4 : i = 28 → ℓ 25 = true) : Ch (fun j => if j = i then true else ℓ j) := by
  have key : ∀ x y : Nat, (i = y → ℓ x = true) → (ℓ y = true → ℓ x = true) → (if y = i then true else ℓ y) = true → (if x = i then true else ℓ x) = true := fun x y e1 e2 e3 => by
    by_cases hx : x = i
    · rw [if_pos hx]
    · rw [if_neg hx]
      by_cases hy : y = i
      · exact e1 hy.symm
      · rw [if_neg hy] at e3
        exact e2 e3
  exact ⟨key _ _ h1 h.a, key _ _ h2 h.b, key _ _ h3 h.c, key _ _ h4 h.d⟩
theorem Ch.no {ℓ : Nat → Bool} (h : Ch ℓ) (h22 : ℓ 22 = false) : ℓ 28 = false := by
  cases e : ℓ 28 with
  | false => rfl
  | true =>
    have := h.a (h.b (h.c (h.d e)))
    rw [h22] at this
    cases this
def elA (w h : Int) (u : Value) (b : Nat) : Nat → Option Value
  | 0 => some (.agg #[.int .i64 w, .int .i64 h, u])
  | 1 => some (.pointer (some ⟨b, 0, none⟩))
  | 2 => none
  | 3 => some (.bool true)
  | 4 => some (.bool true)
  | _ => none
def elB (w h : Int) (u p : Value) (b g n : Nat) (r : Rc) : Nat → Option Value
  | 0 => some (.bool true)
  | 1 => some (.bool true)
  | 2 => some (.bool true)
  | 3 => some (.bool true)
  | 4 => some (.bool true)
  | 5 => some (.int .i64 0)
  | 6 => some (.bool true)
  | 7 => some (.bool true)
  | 8 => some (.bool true)
  | 9 => some (p)
  | 10 => some (.int .i64 n)
  | 11 => some (.pointer (some ⟨g, 2, none⟩))
  | 12 => some (.int .i64 r.w)
  | 13 => some (.pointer (some ⟨g, 3, none⟩))
  | 14 => some (.int .i64 r.h)
  | 15 => some (.int .i64 n)
  | 16 => some (.bool true)
  | 17 => some (.bool true)
  | 18 => some (.bool true)
  | 19 => some (.pointer (some ⟨b, 0, none⟩))
  | 20 => some (.agg #[.int .i64 r.x, .int .i64 r.y, .int .i64 r.w, .int .i64 r.h])
  | 21 => some (.agg #[.int .i64 r.x, .int .i64 r.y, .int .i64 r.w, .int .i64 r.h])
  | 22 => some (.int .i64 0)
  | 23 => some (.bool true)
  | 24 => some (.bool true)
  | 25 => some (.bool true)
  | 26 => some (.agg #[.int .i64 w, .int .i64 h, u])
  | 27 => some (.pointer (some ⟨b, 0, none⟩))
  | 28 => none
  | 29 => some (.bool true)
  | 30 => some (.bool true)
  | 31 => some (.bool true)
  | _ => none

theorem small_wf {n : Int} (h : -100 ≤ n ∧ n ≤ 100) : (Lit.int .i64 n).wf = true := by
  simp only [Lit.wf, IntKind.min, IntKind.max, IntKind.signed, IntKind.bits, Bool.and_eq_true, decide_eq_true_eq, if_true]
  omega
set_option maxRecDepth 100000 in
set_option maxHeartbeats 8000000 in
theorem walk {S : Lies} (D : Says S) (w h : Int) (q : List Int) (qv : Value) (r : Rc) (c x y : Int) (ww : (Lit.int .i64 w).wf = true) (wh : (Lit.int .i64 h).wf = true) (wr : r.wf) (wc : (Lit.int .i64 c).wf = true) (wx : (Lit.int .i64 x).wf = true) (wy : (Lit.int .i64 y).wf = true) (W : World) (hq : SW W qv q) (hql : q.length ≤ maxLen) (hrm : Room qv) :
    Calls Try.prog 6 #[.int .i64 w, .int .i64 h, qv, r.v, .int .i64 c, .int .i64 x, .int .i64 y] W fun e w' => e = .returned (.bool true) ∧ Below W.heap.size W w' := by
  have V0 := Lib.hid (works_any D)
  obtain ⟨qa, qn, qc, rfl, hqn, _⟩ := hq.read
  have HQ := Lib.hid hq
  have HD := Lib.hid D
  have z0 := alloc_size W (.cells #[.int .i64 r.x, .int .i64 r.y, .int .i64 r.w, .int .i64 r.h] 35)
  have r0 := RAt.box W r 35
  have b0 := (Below.refl W.heap.size W).alloc (Nat.le_refl _) (.cells #[.int .i64 r.x, .int .i64 r.y, .int .i64 r.w, .int .i64 r.h] 35)
  obtain ⟨w0, hw0⟩ : ∃ w0, W.alloc (.cells #[.int .i64 r.x, .int .i64 r.y, .int .i64 r.w, .int .i64 r.h] 35) = w0 := ⟨_, rfl⟩
  rw [hw0] at z0 r0 b0
  have HA := Lib.hid (fun W' (k : Below (W.heap.size + 1) w0 W') => r0.below k (by omega))
  have HB0 := Lib.hid b0
  have HZ0 := Lib.hid z0
  have hrv : r.v = .agg #[.int .i64 r.x, .int .i64 r.y, .int .i64 r.w, .int .i64 r.h] := rfl
  rw [hrv]
  have HWF := Lib.hid (And.intro wr (And.intro wc (And.intro wx wy)))
  clear hq hqn D r0 b0 wr wc wx wy
  by_cases h0 : w < 1
  case pos =>
    have d0 : decide (w < 1) = true := decide_eq_true h0
    go_enter Try.func6, Try.ntmps6
    go_wp2_with fail
    refine (V0.out _).mono ?_
    rintro r w1 ⟨rfl, b1⟩
    go_wp2_with fail
    go_ret
    exact ⟨rfl, HB0.out.trans (b1.mono HB0.out.size)⟩
  have d0 : decide (w < 1) = false := decide_eq_false h0
  by_cases h1 : h < 1
  case pos =>
    have d1 : decide (h < 1) = true := decide_eq_true h1
    go_enter Try.func6, Try.ntmps6
    go_wp2_with fail
    refine (V0.out _).mono ?_
    rintro r w1 ⟨rfl, b1⟩
    go_wp2_with fail
    go_ret
    exact ⟨rfl, HB0.out.trans (b1.mono HB0.out.size)⟩
  have d1 : decide (h < 1) = false := decide_eq_false h1
  by_cases h2 : 20 < w
  case pos =>
    have d2 : decide (20 < w) = true := decide_eq_true h2
    go_enter Try.func6, Try.ntmps6
    go_wp2_with fail
    refine (V0.out _).mono ?_
    rintro r w1 ⟨rfl, b1⟩
    go_wp2_with fail
    go_ret
    exact ⟨rfl, HB0.out.trans (b1.mono HB0.out.size)⟩
  have d2 : decide (20 < w) = false := decide_eq_false h2
  by_cases h3 : 20 < h
  case pos =>
    have d3 : decide (20 < h) = true := decide_eq_true h3
    go_enter Try.func6, Try.ntmps6
    go_wp2_with fail
    refine (V0.out _).mono ?_
    rintro r w1 ⟨rfl, b1⟩
    go_wp2_with fail
    go_ret
    exact ⟨rfl, HB0.out.trans (b1.mono HB0.out.size)⟩
  have d3 : decide (20 < h) = false := decide_eq_false h3
  have hw : 1 ≤ w ∧ w ≤ 20 := by omega
  have hh : 1 ≤ h ∧ h ≤ 20 := by omega
  have sw : sideB w = true := decide_eq_true (by omega)
  have sh : sideB h = true := decide_eq_true (by omega)
  have VN := Lib.hid (fun W => HD.out.newY w h W sw sh)
  have VW := Lib.hid (fun W => HD.out.whole w h W ww wh)
  have hww : Rc.wf ⟨0, 0, w, h⟩ := ⟨(by decide : (Lit.int .i64 0).wf = true), (by decide : (Lit.int .i64 0).wf = true), ww, wh⟩
  have HWW := Lib.hid hww
  clear h0 h1 h2 h3 sw sh hww ww wh z0
  unfold ptr at *
  unfold Rc.v at VW
  simp only at VW
  go_enter Try.func6, Try.ntmps6
  go_wp2_with fail
  refine (V0.out _).mono ?_
  rintro _ w1 ⟨rfl, b1⟩
  have B1 := Lib.hid (b1.mono (Nat.le_of_eq HZ0.out.symm))
  clear b1 V0
  go_wp2_with fail
  refine (VN.out _).mono ?_
  rintro _ w2 ⟨b, F, rfl, sb, nf, b2⟩
  have hle1 : W.heap.size + 1 ≤ w1.heap.size := by rw [← HZ0.out]; exact B1.out.size
  have B2 := Lib.hid (B1.out.trans (b2.mono hle1))
  have SB := Lib.hid sb
  have NF : RowKit.Hid (∀ i ∈ F, W.heap.size + 1 ≤ i) := Lib.hid (fun i hi => Nat.le_trans hle1 (nf i hi))
  clear b2 sb nf VN
  go_wp2_with fail
  refine (VW.out _).mono ?_
  rintro _ w3 ⟨rfl, b3⟩
  have hle2 : W.heap.size + 1 ≤ w2.heap.size := by rw [← HZ0.out]; exact B2.out.size
  have B3 := Lib.hid (B2.out.trans (b3.mono hle2))
  have SB3 := Lib.hid (HD.out.stay SB.out b3)
  have OFF : 0 < q.length → Off (.slice qa qn qc) F := fun h0 k hk hm => by
    have := HQ.out.lt h0 k hk
    have := NF.out k hm
    omega
  have C := Lib.hid (HD.out.blit SB3.out ⟨0, 0, w, h⟩ q (.slice qa qn qc) HWW.out ((HQ.out.below HB0.out).below (B3.out.mono (Nat.le_of_eq HZ0.out))) hrm OFF hql)
  unfold ptr Rc.v at C
  simp only at C
  have IM := HD.out.ok SB3.out
  have HBE : RowKit.Hid (blitE w h ⟨0, 0, w, h⟩ q = if rightQ ⟨0, 0, w, h⟩ q then 0 else 1) := Lib.hid (by unfold blitE; rw [whole_in IM]; rfl)
  clear b3 SB B1 B2 OFF VW HWW IM hle1 hle2
  go_wp2_with fail
  refine C.out.mono ?_
  rintro _ w4 ⟨rfl, F4, sb, t4, f4⟩
  clear C
  have hle3 : W.heap.size + 1 ≤ w3.heap.size := by rw [← HZ0.out]; exact B3.out.size
  have B4 := Lib.hid (Scr.Touch.below B3.out t4 NF.out hle3)
  have NF4 := Lib.hid (From.base f4 NF.out hle3)
  have SB4 := Lib.hid sb
  clear sb t4 f4 SB3 NF B3 hle3
  cases hr : rightQ ⟨0, 0, w, h⟩ q with
  | false =>
    have hbe := HBE.out
    rw [hr] at hbe
    simp only [Bool.false_eq_true, if_false] at hbe
    rw [hbe]
    clear hbe HBE hr
    go_wp2_with fail
    go_ret
    exact ⟨rfl, HB0.out.trans (B4.out.mono (by have := HZ0.out; omega))⟩
  | true =>
  have hbe := HBE.out
  rw [hr] at hbe
  simp only [if_true] at hbe
  rw [hbe]
  obtain ⟨l, hl⟩ : ∃ l, blitS w h ⟨0, 0, w, h⟩ q (blackL w h) = l := ⟨_, rfl⟩
  rw [hl] at SB4
  have C := Lib.hid (HD.out.place SB4.out x y HWF.out.2.2.1 HWF.out.2.2.2)
  unfold ptr at C
  clear hbe HBE hr hl hql HQ
  go_wp2_with fail
  refine C.out.mono ?_
  rintro _ w5 ⟨rfl, b5⟩
  have hle4 : W.heap.size + 1 ≤ w4.heap.size := by rw [← HZ0.out]; exact B4.out.size
  have B5 := Lib.hid (B4.out.trans (b5.mono hle4))
  have SB5 := Lib.hid (HD.out.stay SB4.out b5)
  obtain ⟨r0, r1, r2, r3⟩ := HA.out w5 (B5.out.mono (by have := HZ0.out; omega))
  have C2 := Lib.hid (HD.out.fill SB5.out r c HWF.out.1 HWF.out.2.1)
  unfold ptr Rc.v at C2
  clear C b5 SB4 B4 hle4
  go_wp2_with fail
  refine C2.out.mono ?_
  rintro _ w6 ⟨rfl, F6, sb, t6, f6⟩
  have hle5 : W.heap.size + 1 ≤ w5.heap.size := by rw [← HZ0.out]; exact B5.out.size
  have B6 := Lib.hid (Scr.Touch.below B5.out t6 NF4.out hle5)
  have NF6 := Lib.hid (From.base f6 NF4.out hle5)
  have SB6 := Lib.hid sb
  have IM5 := Lib.hid (HD.out.ok SB5.out)
  have C3 := Lib.hid (HD.out.place SB6.out x y HWF.out.2.2.1 HWF.out.2.2.2)
  unfold ptr at C3
  clear C2 sb t6 f6 SB5 B5 NF4 r0 r1 r2 r3 hle5
  go_wp2_with fail
  refine C3.out.mono ?_
  rintro _ w7 ⟨rfl, b7⟩
  have hle6 : W.heap.size + 1 ≤ w6.heap.size := by rw [← HZ0.out]; exact B6.out.size
  have B7 := Lib.hid (B6.out.trans (b7.mono hle6))
  have SB7 := Lib.hid (HD.out.stay SB6.out b7)
  clear C3 b7 SB6 B6 hle6
  by_cases hok : (insB r w h && colB c) = true
  case neg =>
    have hS : fillS w h r c l = l := by
      unfold fillS
      cases h1 : insB r w h with
      | false => rfl
      | true =>
        cases h2 : colB c with
        | false => rfl
        | true => exact absurd (by rw [h1, h2]; rfl) hok
    have hE : fillE w h r c = 140 ∨ fillE w h r c = 1 := by
      unfold fillE
      cases h1 : insB r w h with
      | false => exact .inl rfl
      | true =>
        cases h2 : colB c with
        | false => exact .inr rfl
        | true => exact absurd (by rw [h1, h2]; rfl) hok
    rw [hS]
    generalize atI w h l x y = A0 at *
    have hf : decide (A0 = A0) = true := decide_eq_true rfl
    clear hok hS
    rcases hE with hE | hE
    all_goals
      rw [hE]
      clear hE
      go_wp2_with fail
      go_ret
      exact ⟨rfl, HB0.out.trans (B7.out.mono (by have := HZ0.out; omega))⟩
  have hboth : insB r w h = true ∧ colB c = true := by simpa using hok
  have hS : fillS w h r c l = fillL w r c l := by unfold fillS; rw [hboth.1, hboth.2]; rfl
  have hE : fillE w h r c = 0 := by unfold fillE; rw [hboth.1, hboth.2]; rfl
  rw [hS] at SB7
  rw [hS, hE]
  have IML := HD.out.ok SB7.out
  have hins := ins_iff.1 hboth.1
  have HIN := Lib.hid (fun w => refIn_any r x y (by omega) (by omega) w)
  have hp1 : inB r x y = true → atI w h (fillL w r c l) x y = c := fun hin => by
    have h1 := in_iff.1 hin
    rw [fill_at IM5.out r c x y (by omega) (by omega), if_pos hin]
  have hp2 : inB r x y = false → atI w h (fillL w r c l) x y = atI w h l x y := fun hin => by
    by_cases hc : 0 ≤ x ∧ 0 ≤ y ∧ x < w ∧ y < h
    · rw [fill_at IM5.out r c x y ⟨hc.1, hc.2.2.1⟩ ⟨hc.2.1, hc.2.2.2⟩, if_neg (by rw [hin]; simp)]
    · unfold atI; rw [if_neg hc, if_neg hc]
  have HP1 := Lib.hid hp1
  have HP2 := Lib.hid hp2
  have HS2 : RowKit.Hid (fillS w h r c (fillL w r c l) = fillL w r c l) := Lib.hid (by
    have : fillS w h r c (fillL w r c l) = fillL w r c (fillL w r c l) := by unfold fillS; rw [hboth.1, hboth.2]; rfl
    rw [this, fill_twice IM5.out])
  have HE := Lib.hid hE
  have HI := Lib.hid hboth.1
  have HLB := Lib.hid IML
  rw [hrv] at HIN
  clear hok hboth hS hE hins hp1 hp2 IML IM5
  generalize fillL w r c l = L at *
  generalize atI w h L x y = A1 at *
  generalize atI w h l x y = A0 at *
  obtain ⟨r0, r1, r2, r3⟩ := HA.out w7 (B7.out.mono (by have := HZ0.out; omega))
  have CUT : RowKit.Hid (∀ (p : Bool), inB r x y = p → (p = true ∧ A1 = c) ∨ (p = false ∧ A1 = A0)) := Lib.hid (fun p hp => by
    cases p with
    | true => exact .inl ⟨rfl, HP1.out hp⟩
    | false => exact .inr ⟨rfl, HP2.out hp⟩)
  obtain ⟨p, hp⟩ : ∃ p, inB r x y = p := ⟨_, rfl⟩
  have hc := CUT.out p hp
  rw [hp] at HIN
  clear CUT HP1 HP2 hp
  have hle7 : W.heap.size + 1 ≤ w7.heap.size := by rw [← HZ0.out]; exact B7.out.size
  go_upto_region 16 with fail
  go_cut [103] (fun o wx => o = .bool false ∧ Below w7.heap.size w7 wx)
  case first =>
    rcases hc with ⟨rfl, rfl⟩ | ⟨rfl, rfl⟩
    all_goals
      go_wp2_with fail
      refine (HIN.out _).mono ?_
      rintro _ w8 ⟨rfl, b8⟩
      obtain ⟨r0, r1, r2, r3⟩ := HA.out w8 (B7.out.trans (b8.mono hle7))
      have B8 := Lib.hid b8
      clear b8
      go_wp2_with fail
      refine (HIN.out _).mono ?_
      rintro _ w9 ⟨rfl, b9⟩
      have B9 := Lib.hid (B8.out.trans (b9.mono B8.out.size))
      clear b9
      go_wp2_with fail
      go_meet
      exact ⟨rfl, B9.out⟩
  case rest =>
  obtain ⟨rfl, b9⟩ := hcut
  have B9 := Lib.hid (B7.out.trans (b9.mono hle7))
  have hle9 : W.heap.size + 1 ≤ wc.heap.size := Nat.le_trans hle7 b9.size
  have SB9 := HD.out.stay SB7.out b9
  have C1 := Lib.hid (HD.out.image SB9)
  have HSB9 := Lib.hid SB9
  unfold ptr imgV at C1
  clear b9 SB7 B7 hle7 r0 r1 r2 r3 hc HIN SB9
  go_wp2_with fail
  refine C1.out.mono ?_
  rintro _ w9 ⟨u, rfl, i9, b10⟩
  obtain ⟨ua, un, uc, rfl⟩ := shape4 i9
  have k10 := (Below.refl w9.heap.size w9).alloc (Nat.le_refl _) (.cells #[.int .i64 w, .int .i64 h, .slice ua un uc] 32)
  have v10 := VarAt.new w9 w h (.slice ua un uc)
  obtain ⟨w10, hw10⟩ : ∃ w10, w9.alloc (.cells #[.int .i64 w, .int .i64 h, .slice ua un uc] 32) = w10 := ⟨_, rfl⟩
  rw [hw10] at k10 v10
  have hle9' : W.heap.size + 1 ≤ w9.heap.size := Nat.le_trans hle9 b10.size
  have B10 := Lib.hid ((B9.out.trans (b10.mono hle9)).trans (k10.mono hle9'))
  have E10 : elS (S := S) W w10 b w h L (.slice ua un uc) w9.heap.size (fun _ => false) w10 := by
    have s9 := HD.out.stay HSB9.out b10
    refine ⟨⟨F6, HD.out.stay s9 k10, NF6.out, fresh_off i9 (HD.out.lt HSB9.out), fun hm => ?_⟩, i9.si.below k10, v10, Below.refl _ _⟩
    have := HD.out.lt s9 _ hm
    omega
  have HE10 := Lib.hid E10
  have hle10 : W.heap.size + 1 ≤ w10.heap.size := Nat.le_trans hle9' k10.size
  obtain ⟨G, s10, hG, ho, hg⟩ := E10.s
  have C2 := Lib.hid (HD.out.fill s10 r c HWF.out.1 HWF.out.2.1)
  rw [HS2.out, HE.out] at C2
  unfold ptr Rc.v at C2
  have HGG := Lib.hid (And.intro hG (And.intro ho hg))
  obtain ⟨r0, r1, r2, r3⟩ := HA.out w10 B10.out
  clear C1 i9 b10 k10 v10 B9 hle9 hle9' HSB9 E10 hG ho hg
  go_wp2_with fail
  refine C2.out.mono ?_
  rintro _ w11 ⟨rfl, F11, sb, t11, f11⟩
  have ES0 : elS (S := S) W w10 b w h L (.slice ua un uc) w9.heap.size (fun _ => false) w11 := elS.drawn hle10 HE10.out HGG.out.1 HGG.out.2.1 HGG.out.2.2 sb t11 f11
  have hle11 : W.heap.size + 1 ≤ w11.heap.size := Nat.le_trans hle10 t11.size
  clear C2 sb t11 f11 r0 r1 r2 r3 HE10 HGG s10
  have HLL := Lib.hid (Nat.le_trans HLB.out.bound (by decide : 16777216 ≤ 1000000000))
  go_wp2_with fail
  refine region_preds (by kernel_rfl) (elA w h (.slice ua un uc) b) (elR w h L 2) (elS (S := S) W w10 b w h L (.slice ua un uc) w9.heap.size) [16, 21] [none, none, none, none, none, none, none, none, none, none, none, none, none, none, none, none, none, none, none, none, none, none, some 4, none, none, none, none, none, none, none, none, none, none, none, none, none, none, none, none, none, none, none, none, none, none, none, none, none, none, none, none, none, none, none, none, none, none, none, none, none, none, none, none, none, none, none, none, none, none, none, none, none, none, none, none, none, none, none, none, none, none, none, none, none, none, none, none, none, none, none, none, none, none, none, none, none, none, none, none, none, none, none, none, none, none, none, none, none, none, none, some 0, some 1, some 2, some 3, none, none, none, none, none, none, none, none, none, none, none, none, none, none, none, none, none, none, none, none, none, none, none, none, none, none, none, none, none, none, none, none, none, none, none, none, none] (by kernel_rfl) (by kernel_rfl) (by rfl) (by kernel_rfl) (by kernel_rfl) (by kernel_rfl) (ES0.drew HD.out) ⟨?_, ?_, ?_, ?_, ?_, trivial⟩ ?_
  case refine_6 =>
    intro vs ℓ W3 hl hS hR
    have HS3 := Lib.hid hS
    clear hR hS hl ES0
    simp only [zipF, elA, Option.getD_some, Option.getD_none]
    generalize vs 2 = nb at *
    obtain ⟨G3, s3, hG3, ho3, hg3⟩ := HS3.out.s
    have hB3 := HS3.out.b
    have hle3 : W.heap.size + 1 ≤ W3.heap.size := Nat.le_trans hle10 hB3.size
    obtain ⟨r0, r1, r2, r3⟩ := HA.out W3 (B10.out.trans hB3)
    have C3 := Lib.hid (HD.out.part s3 r HWF.out.1)
    have hpe : partE w h r = 0 := by unfold partE; rw [HI.out]; rfl
    have hps : partS w h r L = partL w r L := by unfold partS; rw [HI.out]; rfl
    have hpl := part_length HLB.out HI.out
    rw [hpe, hps] at C3
    unfold ptr Rc.v at C3
    have hbd := ins_iff.1 HI.out
    have hpb : ((partL w r L).length : Int) ≤ 400 := by
      have h1 : (partL w r L).length ≤ L.length := partN_length w r L L.length
      have h2 := HLB.out.n
      have h3 : w * h ≤ 20 * 20 := Int.mul_le_mul hw.2 hh.2 (by omega) (by omega)
      omega
    clear hpe hps hbd hB3 s3
    go_wp2_with fail
    refine C3.out.mono ?_
    rintro _ w12 ⟨pv, rfl, ip, b12⟩
    obtain ⟨pa, pc, hpv⟩ := RowAt.shape ip
    obtain ⟨pn, hpn⟩ : ∃ pn, (partL w r L).length = pn := ⟨_, rfl⟩
    rw [hpn] at hpv hpl hpb
    subst hpv
    have ES2 : elS (S := S) W w10 b w h L (.slice ua un uc) w9.heap.size (fun _ => false) w12 := HS3.out.below HD.out hle3 b12
    have n1 : IntKind.i64.wrap (pn : Nat) = (pn : Nat) := IntWalk.i64_in _ (by omega)
    have n2 : wrap64 (pn : Nat) = (pn : Nat) := IntWalk.wrap64_in _ (by omega)
    have MV : RowKit.Hid (moveE w h r r = 0 ∧ moveS w h r r L = L) := Lib.hid (by
      unfold moveE moveS
      rw [HI.out, alike_self]
      exact ⟨rfl, blit_own HLB.out HI.out⟩)
    have hmul := hpl.symm
    clear C3 ip b12 r0 r1 r2 r3 HS3 hG3 ho3 hg3 hpl hpn
    go_wp2_with fail
    refine region_preds (by kernel_rfl) (elB w h (.slice ua un uc) (.slice pa pn pc) b W.heap.size pn r) (elR w h L 28) (fun ℓ W' => elS (S := S) W w10 b w h L (.slice ua un uc) w9.heap.size ℓ W' ∧ Ch ℓ) [10, 15, 16, 21, 22, 23, 24] [none, none, none, none, none, none, none, none, none, none, none, none, none, none, some 31, none, none, none, none, none, none, none, none, none, none, none, none, none, none, none, none, none, none, none, none, none, none, none, none, none, none, none, none, none, none, none, none, none, none, none, none, none, none, none, none, none, none, none, none, none, none, none, none, none, none, none, none, none, none, none, none, none, none, none, none, none, none, none, none, none, none, none, none, none, none, none, none, none, none, none, none, none, none, none, none, none, none, none, none, none, none, none, none, none, none, none, none, none, none, none, none, none, none, none, none, none, none, none, none, none, some 0, some 1, some 2, some 3, some 4, some 5, some 6, some 7, some 8, some 9, some 10, some 11, some 12, some 13, some 14, some 15, some 16, some 17, some 18, some 19, some 20, some 21, some 22, some 23, some 24, some 25, some 26, some 27, some 28, some 29, some 30] (by kernel_rfl) (by kernel_rfl) (by rfl) (by kernel_rfl) (by kernel_rfl) (by kernel_rfl) ⟨(ES2.drew HD.out), Ch.none⟩ ⟨?_, ?_, ?_, ?_, ?_, ?_, ?_, ?_, ?_, ?_, ?_, ?_, ?_, ?_, ?_, ?_, ?_, ?_, ?_, ?_, ?_, ?_, ?_, ?_, ?_, ?_, ?_, ?_, ?_, ?_, ?_, ?_, trivial⟩ ?_
    case refine_33 =>
      intro vs ℓ W4 hl hS hR
      have HB4 := Lib.hid hS.1.b
      clear hR hS hl ES2 n1 n2
      simp only [zipF, elB, Option.getD_some, Option.getD_none]
      generalize vs 28 = nb2 at *
      go_wp2_with fail
      go_ret
      exact ⟨rfl, HB0.out.trans ((B10.out.trans HB4.out).mono (by have := HZ0.out; omega))⟩
    case refine_23 =>
      intro ℓ act W9 hl hS hw hx hr hd
      obtain ⟨G, s9, hG, ho, hg⟩ := hS.1.s
      have hsz := hS.1.b.size
      have hle : W.heap.size + 1 ≤ W9.heap.size := Nat.le_trans hle10 hsz
      have h28 := hS.2.no hl
      have C := Lib.hid (HD.out.move s9 r r HWF.out.1 HWF.out.1)
      rw [MV.out.1, MV.out.2] at C
      unfold ptr Rc.v at C
      clear hw hx
      simp [readFacts, depFactsP, dstOf, Region.binds, elB] at hr hd
      refine ⟨by first | exact wanted_none (by rfl) | exact wanted_guard (by rfl) (by rfl) (by simp only [*]), fun K hK => ?_⟩
      go_simp
      refine C.out.mono ?_
      rintro _ w' ⟨rfl, G', s', t', f'⟩
      refine hK _ _ rfl ⟨hS.1.drawn hle hG ho hg s' t' f', hS.2.set (fun h => by simp at h) (fun h => by simp at h) (fun h => by simp at h) (fun h => by simp at h)⟩ (fun j u hv hj h => ?_)
      unfold elR at h ⊢
      rw [if_neg (fun e => by rw [e, h28] at hj; cases hj)] at h ⊢
      trivial
    case refine_29 =>
      intro ℓ act W9 hl hS hw hx hr hd
      obtain ⟨G, s9, hG, ho, hg⟩ := hS.1.s
      have hsz := hS.1.b.size
      have hle : W.heap.size + 1 ≤ W9.heap.size := Nat.le_trans hle10 hsz
      have h25 : ℓ 25 = true := hw ⟨25, .guard⟩ (by simp) (by rfl)
      have C := Lib.hid (HD.out.image s9)
      unfold ptr imgV at C
      clear hw hx
      simp [readFacts, depFactsP, dstOf, Region.binds, elB] at hr hd
      refine ⟨by first | exact wanted_none (by rfl) | exact wanted_guard (by rfl) (by rfl) (by simp only [*]), fun K hK => ?_⟩
      go_simp
      refine C.out.mono ?_
      rintro _ w' ⟨u2, rfl, i2, b2⟩
      refine hK _ _ (show elR w h L 28 28 _ _ from by unfold elR; rw [if_pos rfl]; exact ⟨u2, rfl, i2.si⟩) ⟨hS.1.below HD.out hle b2, hS.2.set (fun h => by simp at h) (fun h => by simp at h) (fun h => by simp at h) (fun _ => h25)⟩ (fun j u hv hj h => ?_)
      unfold elR at h ⊢
      rw [if_neg (fun e => by rw [e] at hj; simp at hl; rw [hl] at hj; cases hj)] at h ⊢
      trivial
    case refine_30 =>
      intro ℓ act W9 hl hS hw hx hr hd
      have hsz := hS.1.b.size
      have hle : W.heap.size + 1 ≤ W9.heap.size := Nat.le_trans hle10 hsz
      clear hw hx
      simp [readFacts, depFactsP, dstOf, Region.binds, elB, elR] at hr hd
      refine ⟨by first | exact wanted_none (by rfl) | exact wanted_guard (by rfl) (by rfl) (by simp only [*]), fun K hK => ?_⟩
      obtain ⟨e146, ⟨v, e148, u2, hv, s2⟩, _⟩ := hd
      rw [hv] at e148
      unfold imgV at e148
      clear hv
      go_simp
      have C := refSameImage_any w h w h (.slice ua un uc) u2 L L W9 hS.1.im s2 HLL.out HLL.out
      rw [decide_eq_true (show w = w ∧ h = h ∧ L = L from ⟨rfl, rfl, rfl⟩)] at C
      unfold imgV at C
      refine C.mono ?_
      rintro _ w' ⟨rfl, b2⟩
      refine hK _ _ rfl ⟨hS.1.below HD.out hle b2, hS.2.set (fun h => by simp at h) (fun h => by simp at h) (fun h => by simp at h) (fun h => by simp at h)⟩ (fun j u hv hj h => ?_)
      unfold elR at h ⊢
      by_cases e : j = 28
      · rw [if_pos e] at h ⊢
        obtain ⟨u3, e3, s3⟩ := h
        exact ⟨u3, e3, s3.below b2⟩
      · rw [if_neg e]; trivial
    case refine_24 =>
      intro ℓ act W9 hl hS hw hx hr hd
      have hq : ℓ 22 = true := hw ⟨22, .data⟩ (by simp) (by rfl)
      clear hw hx
      simp [readFacts, depFactsP, dstOf, Region.binds, elB] at hr hd
      refine ⟨by first | exact wanted_none (by rfl) | exact wanted_guard (by rfl) (by rfl) (by simp only [*]), fun K hK => ?_⟩
      go_simp
      exact hK _ _ rfl ⟨hS.1.other, hS.2.set (fun _ => hq) (fun h => by simp at h) (fun h => by simp at h) (fun h => by simp at h)⟩ (fun _ _ _ _ h => h)
    case refine_25 =>
      intro ℓ act W9 hl hS hw hx hr hd
      have hq : ℓ 23 = true := hw ⟨23, .data⟩ (by simp) (by rfl)
      clear hw hx
      simp [readFacts, depFactsP, dstOf, Region.binds, elB] at hr hd
      refine ⟨by first | exact wanted_none (by rfl) | exact wanted_guard (by rfl) (by rfl) (by simp only [*]), fun K hK => ?_⟩
      go_simp
      exact hK _ _ rfl ⟨hS.1.other, hS.2.set (fun h => by simp at h) (fun _ => hq) (fun h => by simp at h) (fun h => by simp at h)⟩ (fun _ _ _ _ h => h)
    case refine_26 =>
      intro ℓ act W9 hl hS hw hx hr hd
      have hq : ℓ 24 = true := hw ⟨24, .data⟩ (by simp) (by rfl)
      clear hw hx
      simp [readFacts, depFactsP, dstOf, Region.binds, elB] at hr hd
      refine ⟨by first | exact wanted_none (by rfl) | exact wanted_guard (by rfl) (by rfl) (by simp only [*]), fun K hK => ?_⟩
      go_simp
      exact hK _ _ rfl ⟨hS.1.other, hS.2.set (fun h => by simp at h) (fun h => by simp at h) (fun _ => hq) (fun h => by simp at h)⟩ (fun _ _ _ _ h => h)
    all_goals
      intro ℓ act W9 hl hS hw hx hr hd
      obtain ⟨⟨v0, v1, v2⟩, _⟩ := hS.1.v.cells
      obtain ⟨r0, r1, r2, r3⟩ := HA.out W9 (B10.out.trans hS.1.b)
      clear hw hx
      simp [readFacts, depFactsP, dstOf, Region.binds, elB, elR] at hr hd
      refine ⟨by first | exact wanted_none (by rfl) | exact wanted_guard (by rfl) (by rfl) (by simp only [*]), fun K hK => ?_⟩
      go_simp
      exact hK _ _ rfl ⟨hS.1.other, hS.2.set (fun h => by simp at h) (fun h => by simp at h) (fun h => by simp at h) (fun h => by simp at h)⟩ (fun _ _ _ _ h => h)
  all_goals
    intro ℓ act W9 hl hS hw hx hr hd
    obtain ⟨⟨v0, v1, v2⟩, _⟩ := hS.v.cells
    have hsz := hS.b.size
    obtain ⟨G, s9, hG, ho, hg⟩ := hS.s
    have IM9 := Lib.hid (HD.out.image s9)
    unfold ptr imgV at IM9
    clear hw hx
    simp [readFacts, depFactsP, dstOf, Region.binds, elA, elR] at hr hd
    refine ⟨wanted_none (by rfl), fun K hK => ?_⟩
    first
      | (go_simp
         exact hK _ _ rfl hS.other (fun _ _ _ _ h => h))
      | (go_simp
         refine IM9.out.mono ?_
         rintro _ w' ⟨u2, rfl, i2, b2⟩
         refine hK _ _ (show elR w h L 2 2 _ _ from by unfold elR; rw [if_pos rfl]; exact ⟨u2, rfl, i2.si⟩) (hS.below HD.out (Nat.le_trans hle10 hsz) b2) (fun j u hv hj h => ?_)
         unfold elR at h ⊢
         rw [if_neg (fun e => by rw [e] at hj; simp at hl; rw [hl] at hj; cases hj)] at h ⊢
         trivial)
      | (obtain ⟨e0, v, e2, u2, hv, s2⟩ := hd
         rw [hv] at e2
         unfold imgV at e2
         clear hv
         go_simp
         have C := refSameImage_any w h w h (.slice ua un uc) u2 L L W9 hS.im s2 HLL.out HLL.out
         rw [decide_eq_true (show w = w ∧ h = h ∧ L = L from ⟨rfl, rfl, rfl⟩)] at C
         unfold imgV at C
         refine C.mono ?_
         rintro _ w' ⟨rfl, b2⟩
         refine hK _ _ rfl (hS.below HD.out (Nat.le_trans hle10 hsz) b2) (fun j u hv hj h => ?_)
         unfold elR at h ⊢
         by_cases e : j = 2
         · rw [if_pos e] at h ⊢
           obtain ⟨u3, e3, s3⟩ := h
           exact ⟨u3, e3, s3.below b2⟩
         · rw [if_neg e]; trivial)

set_option maxRecDepth 100000 in
theorem lifted (os : Os) (started : os.Started) (H : Type) (enc : TypeId × Value → H) :
    ReturnsInHanded {} Try.checked os 6 .any (Rows.screenElsewhereSpec.pre6 enc Try.prog Try.f6 Rows.screenElsewhereRow.domain false) (Rows.screenElsewhereSpec.post enc Try.prog Try.f6 false true false false) := by
  refine returnsInHanded_of_change (C := Try.checked) own started (by kernel_rfl) Try.func6
    (ChangeSpec.witness6 (enc := enc) (C := Try.checked) false ⟨#[], #[.int .i64 0, .int .i64 0, .slice none 0 0, .agg #[.int .i64 0, .int .i64 0, .int .i64 0, .int .i64 0], .int .i64 0, .int .i64 0, .int .i64 0], []⟩ 8 (by kernel_rfl) (by kernel_rfl) (by kernel_rfl) (by kernel_rfl)) ?_
  intro W base args ds gs before hval0 hW hcnd _
  have hval : ∀ (j : Nat) t v, Try.f6.params[j]? = some t → args[j]? = some v → Value.okWide Try.prog W .any base t v := hval0
  have hW' := hW
  obtain ⟨p, q, hA0, hV, rfl, hfz, hnd⟩ := hW
  have hA : DataW.TrodAll enc Try.prog W 0 (fun _ => true) true Try.f6.params.toList args.toList ds p := hA0
  rw [Try.params6] at hA hval
  obtain ⟨v0, vs0, d0, ds0, p0, q0, hargs, rfl, rfl, h0, r0⟩ := trodAll_cons hA
  obtain ⟨v1, vs1, d1, ds1, p1, q1, rfl, rfl, rfl, h1, r1⟩ := trodAll_cons r0
  obtain ⟨v2, vs2, d2, ds2, p2, q2, rfl, rfl, rfl, h2, r2⟩ := trodAll_cons r1
  obtain ⟨v3, vs3, d3, ds3, p3, q3, rfl, rfl, rfl, h3, r3⟩ := trodAll_cons r2
  obtain ⟨v4, vs4, d4, ds4, p4, q4, rfl, rfl, rfl, h4, r4⟩ := trodAll_cons r3
  obtain ⟨v5, vs5, d5, ds5, p5, q5, rfl, rfl, rfl, h5, r5⟩ := trodAll_cons r4
  obtain ⟨v6, vs6, d6, ds6, p6, q6, rfl, rfl, rfl, h6, r6⟩ := trodAll_cons r5
  obtain ⟨rfl, rfl, rfl⟩ := trodAll_nil r6
  obtain rfl : args = #[v0, v1, v2, v3, v4, v5, v6] := by cases args; simp_all
  obtain ⟨rfl, rfl⟩ := trodVars_none hV
  have k0 := h0
  have lt0 : ∀ x ∈ p0, x.block < W.heap.size := by obtain ⟨m, hm⟩ := k0; exact DataW.trod_lt m _ _ _ hm
  obtain ⟨a0, rfl, rfl, rfl, w0⟩ := open_int Try.underlying3 (hval 0 3 v0 rfl rfl) h0
  have k1 := h1
  have lt1 : ∀ x ∈ p1, x.block < W.heap.size := by obtain ⟨m, hm⟩ := k1; exact DataW.trod_lt m _ _ _ hm
  obtain ⟨a1, rfl, rfl, rfl, w1⟩ := open_int Try.underlying3 (hval 1 3 v1 rfl rfl) h1
  have k2 := h2
  have lt2 : ∀ x ∈ p2, x.block < W.heap.size := by obtain ⟨m, hm⟩ := k2; exact DataW.trod_lt m _ _ _ hm
  obtain ⟨a2, len2, cap2, rfl⟩ := okWide_slice Try.underlying30 (hval 2 30 v2 rfl rfl)
  obtain ⟨A2, w2⟩ := ints_si h2
  have k3 := h3
  have lt3 : ∀ x ∈ p3, x.block < W.heap.size := by obtain ⟨m, hm⟩ := k3; exact DataW.trod_lt m _ _ _ hm
  obtain ⟨a3, rfl, w3⟩ := rect_see (hval 3 35 v3 rfl rfl) h3
  have k4 := h4
  have lt4 : ∀ x ∈ p4, x.block < W.heap.size := by obtain ⟨m, hm⟩ := k4; exact DataW.trod_lt m _ _ _ hm
  obtain ⟨a4, rfl, rfl, rfl, w4⟩ := open_int Try.underlying3 (hval 4 3 v4 rfl rfl) h4
  have k5 := h5
  have lt5 : ∀ x ∈ p5, x.block < W.heap.size := by obtain ⟨m, hm⟩ := k5; exact DataW.trod_lt m _ _ _ hm
  obtain ⟨a5, rfl, rfl, rfl, w5⟩ := open_int Try.underlying3 (hval 5 3 v5 rfl rfl) h5
  have k6 := h6
  have lt6 : ∀ x ∈ p6, x.block < W.heap.size := by obtain ⟨m, hm⟩ := k6; exact DataW.trod_lt m _ _ _ hm
  obtain ⟨a6, rfl, rfl, rfl, w6⟩ := open_int Try.underlying3 (hval 6 3 v6 rfl rfl) h6
  clear hA0 hval0
  refine (walk says a0 a1 A2 (.slice a2 len2 cap2) a3 a4 a5 a6 w0 w1 w3 w4 w5 w6 W w2.1 w2.2.1 w2.2.2.2.2).mono fun e W' ⟨he, bel⟩ => ?_
  subst he
  exact ⟨_, rfl, _, _, _, [], _, [], hW', trodAll_mk1 (shut_bool Try.underlying4 _), (trodAll_cons_mk (Below.trod laidOut (by kernel_rfl) (of_decide_eq_true (by kernel_rfl)) k0 bel lt0) (trodAll_cons_mk (Below.trod laidOut (by kernel_rfl) (of_decide_eq_true (by kernel_rfl)) k1 bel lt1) (trodAll_cons_mk (Below.trod laidOut (by kernel_rfl) (of_decide_eq_true (by kernel_rfl)) k2 bel lt2) (trodAll_cons_mk (Below.trod laidOut (by kernel_rfl) (of_decide_eq_true (by kernel_rfl)) k3 bel lt3) (trodAll_cons_mk (Below.trod laidOut (by kernel_rfl) (of_decide_eq_true (by kernel_rfl)) k4 bel lt4) (trodAll_cons_mk (Below.trod laidOut (by kernel_rfl) (of_decide_eq_true (by kernel_rfl)) k5 bel lt5) (trodAll_cons_mk (Below.trod laidOut (by kernel_rfl) (of_decide_eq_true (by kernel_rfl)) k6 bel lt6) trodAll_mk0))))))), rfl, bel.frame _, fun h => by cases h⟩

theorem over : Rows.screenElsewhereRow.holds Try.pinned (OpenSpec.ofChange Rows.screenElsewhereSpec) :=
  OpenClaim.holds_of_wide 6 Try.f6 rfl rfl rfl rfl rfl rfl rfl ⟨rfl, rfl, rfl, rfl, rfl⟩ rfl rfl rfl rfl rfl (by kernel_rfl) Try.func6 (by kernel_rfl)
    (of_decide_eq_true (by kernel_rfl)) (by unfold Func.isWrapper; first | (rw [if_pos (by decide +kernel)]; kernel_rfl) | (rw [if_neg (by decide +kernel)]; exact ⟨rfl, rfl⟩))
    (fun os started H enc _ => lifted os started H enc)

theorem proved : Rows.ScreenElsewhereSaid := over
end Go.Proofs.Ytlamdgdegmjljaa.screenElsewhere
