/-
  The statement RegionBounds of layer 15 (region) holds of the program as it stands: the smallest rectangle has all places, and none of its sides could be nearer.
-/
import Derived.Test.YtedlhfemmofbpaaRows
import Derived.Test.YtedlhfemmofbpaaRegProg
import Derived.Test.YtedlhfemmofbpaaRegTight
import Derived.Deep.DeepCutAuto
import Derived.WalkKit
import Derived.ProofKit
import Derived.OpenShut
import Derived.ShutString
import Derived.ChangeOld
import Derived.Below
import Derived.Lib.SmallJoins
import Derived.Deep.Slices
namespace Go.Proofs.Ytedlhfemmofbpaa.regionBounds
open Go.Proofs.Ytedlhfemmofbpaa.Reg
open Lz RowG RegVal
open Go.ChangeShapes Go.WideShapes Go.ChangeAt Go.RowKit
open Go.ChangeMaps (open_string shut_string)
set_option linter.unusedVariables false

theorem own : ownKnob Try.prog.godebug = none := by kernel_rfl
theorem laidOut : laidOutB Try.prog = true := by kernel_rfl

set_option linter.unusedSimpArgs false
/-- What the calls leave. -/
def rbR (n1 n2 n3 n4 : Nat) (i : Nat) (v : Value) (_ : World) : Prop := match i with
  | 7 => ∃ p c, v = .slice p n1 c
  | 14 => ∃ p c, v = .slice p n2 c
  | 21 => ∃ p c, v = .slice p n3 c
  | 28 => ∃ p c, v = .slice p n4 c
  | _ => True
theorem rbR_any {n1 n2 n3 n4 j : Nat} {u : Value} {w w' : World} (h : rbR n1 n2 n3 n4 j u w) : rbR n1 n2 n3 n4 j u w' := by
  unfold rbR at *
  exact h
def rbV (a : Option Addr) (n cap p q1 q2 q3 q4 n1 n2 n3 n4 : Nat) (ar bw bh mm : Int) : Nat → Option Value
  | 0 => some (.bool true)
  | 1 => some (.bool true)
  | 2 => some (.bool true)
  | 3 => some (.bool true)
  | 4 => some (.bool true)
  | 5 => some (.slice a n cap)
  | 6 => some (.slice (some ⟨q1, 0, none⟩) 1 1)
  | 7 => none
  | 8 => some (.int .i64 n1)
  | 9 => some (.bool true)
  | 10 => some (.bool true)
  | 11 => some (.bool true)
  | 12 => some (.slice a n cap)
  | 13 => some (.slice (some ⟨q2, 0, none⟩) 1 1)
  | 14 => none
  | 15 => some (.int .i64 n2)
  | 16 => some (.bool true)
  | 17 => some (.bool true)
  | 18 => some (.bool true)
  | 19 => some (.slice a n cap)
  | 20 => some (.slice (some ⟨q3, 0, none⟩) 1 1)
  | 21 => none
  | 22 => some (.int .i64 n3)
  | 23 => some (.bool true)
  | 24 => some (.bool true)
  | 25 => some (.bool true)
  | 26 => some (.slice a n cap)
  | 27 => some (.slice (some ⟨q4, 0, none⟩) 1 1)
  | 28 => none
  | 29 => some (.int .i64 n4)
  | 30 => some (.bool true)
  | 31 => some (.bool true)
  | 32 => some (.bool true)
  | 33 => some (.slice a n cap)
  | 34 => some (.int .i64 ar)
  | 35 => some (.pointer (some ⟨p, 2, none⟩))
  | 36 => some (.int .i64 bw)
  | 37 => some (.pointer (some ⟨p, 3, none⟩))
  | 38 => some (.int .i64 bh)
  | 39 => some (.int .i64 mm)
  | 40 => some (.bool true)
  | 41 => some (.bool true)
  | 42 => some (.bool true)
  | _ => none
theorem rect_cells (w : World) (r : Rc) (T : TypeId) : Below w.heap.size w (w.alloc (.cells #[.int .i64 r.x, .int .i64 r.y, .int .i64 r.w, .int .i64 r.h] T)) ∧ RcAt (w.alloc (.cells #[.int .i64 r.x, .int .i64 r.y, .int .i64 r.w, .int .i64 r.h] T)) w.heap.size 0 r := by
  have hb := heap_alloc_new w (.cells #[.int .i64 r.x, .int .i64 r.y, .int .i64 r.w, .int .i64 r.h] T)
  exact ⟨(Below.refl _ w).alloc (Nat.le_refl _) _, by simp only [World.cell?, hb]; rfl, by simp only [World.cell?, hb]; rfl, by simp only [World.cell?, hb]; rfl, by simp only [World.cell?, hb]; rfl⟩
theorem rect_below {w w' : World} {p n : Nat} {r : Rc} (h : RcAt w p 0 r) (k : Below n w w') (hp : p < n) : RcAt w' p 0 r :=
  ⟨(k.cell (p := ⟨p, 0, none⟩) hp).trans h.1, (k.cell (p := ⟨p, 1, none⟩) hp).trans h.2.1, (k.cell (p := ⟨p, 2, none⟩) hp).trans h.2.2.1, (k.cell (p := ⟨p, 3, none⟩) hp).trans h.2.2.2⟩
theorem sees_one (w : World) (r : Rc) (T : TypeId) : SeesR (w.alloc (.cells #[.int .i64 r.x, .int .i64 r.y, .int .i64 r.w, .int .i64 r.h] T)) (.slice (some ⟨w.heap.size, 0, none⟩) 1 1) [r] := sees_lit [r] w T _ 1 rfl rfl (by decide)
set_option maxRecDepth 100000 in
set_option maxHeartbeats 16000000 in
theorem walk (D : Says) (a : Option Addr) (n cap : Nat) (l : List Rc) (x y : Int) (W : World) (w0 : RcArg W a n cap l) (wx : (Lit.int .i64 x).wf = true) (wy : (Lit.int .i64 y).wf = true) :
    Calls Try.prog 9 #[.slice a n cap, .int .i64 x, .int .i64 y] W fun e w' => e = .returned (.bool true) ∧ Below W.heap.size W w' := by
  have hl := w0.1
  have SA := Lib.hid w0.sees
  have WLl : RowKit.Hid (∀ r ∈ l, r.wf) := Lib.hid w0.2.2.2.1
  have hn := w0.2.1
  unfold maxLen at hn
  clear w0
  by_cases hg : 12 < n
  · have hg' : decide ((12 : Int) < n) = true := decide_eq_true (by omega)
    go_enter Try.func9, Try.ntmps9
    go_wp2_with fail
    refine (works_any D _).mono ?_
    rintro r w1 ⟨rfl, b1⟩
    go_wp2_with fail
    all_goals (go_ret; exact ⟨rfl, b1⟩)
  have hg' : decide ((12 : Int) < n) = false := decide_eq_false (by omega)
  have L1 : l.length ≤ 12 := by omega
  have V0 := Lib.hid (works_any D)
  have V1 := Lib.hid (fun v w => D.bounds l v w (by omega) WLl.out)
  have V2 := Lib.hid (fun v w => D.make l v w (by omega) WLl.out)
  have V3 := Lib.hid (fun v w => D.has l v x y w (by omega) WLl.out wx wy)
  have V4 := Lib.hid (fun c (hcw : c.wf) va vb w => D.minus l [c] va vb w (by simp; omega) WLl.out (one_wf hcw))
  have V5 := Lib.hid (fun c (hcw : c.wf) va vb w => D.both l [c] va vb w (by simp; omega) WLl.out (one_wf hcw))
  have V6 := Lib.hid (fun v w => D.area l v w (by omega) WLl.out)
  have SMALL := Lib.hid (fun c : Rc => comb_small 2 l [c] 13 (by simp; omega))
  have SMM := Lib.hid (make_small l 12 L1)
  clear D hg wx wy
  by_cases hm : make l = []
  · have hb := bounds_none hm
    rw [hb] at V1
    rw [hm] at V2
    unfold Rc.v at V1
    clear hb hm V3 V4 V5 V6 SMALL SMM
    go_enter Try.func9, Try.ntmps9
    go_wp2_with fail
    refine (V0.out _).mono ?_
    rintro r w1 ⟨rfl, b1⟩
    have SA1 := Lib.hid (SA.out.below b1)
    have B1 := Lib.hid b1
    clear SA b1
    go_wp2_with fail
    refine (V1.out _ w1 SA1.out).mono ?_
    rintro r w2 ⟨rfl, b2⟩
    have k3 := rect_cells w2 ⟨0, 0, 0, 0⟩ 32
    have z3 := alloc_size w2 (.cells #[.int .i64 0, .int .i64 0, .int .i64 0, .int .i64 0] 32)
    simp only at k3
    have K3 := Lib.hid (And.intro k3 z3)
    clear k3 z3
    go_wp2_with fail
    obtain ⟨k3, z3⟩ := K3.out
    clear K3
    generalize w2.alloc (.cells #[.int .i64 0, .int .i64 0, .int .i64 0, .int .i64 0] 32) = w3 at *
    have B3 := Lib.hid (B1.out.trans ((b2.trans (k3.1.mono b2.size)).mono B1.out.size))
    have SA3 := Lib.hid (SA1.out.below (b2.trans (k3.1.mono b2.size)))
    have R3 := Lib.hid (And.intro k3.2 (show w2.heap.size < w3.heap.size by omega))
    clear b2 k3
    refine (V2.out _ w3 SA3.out).mono ?_
    rintro r w4 ⟨u, rfl, s, b4⟩
    obtain ⟨p, c, rfl⟩ := SeesR.none s
    obtain ⟨c0, c1, c2, c3⟩ := rect_below R3.out.1 b4 R3.out.2
    simp only at c0 c1 c2 c3
    have B4 := Lib.hid (B3.out.trans (b4.mono B3.out.size))
    clear s b4
    go_wp2_with fail
    go_ret
    exact ⟨rfl, B4.out⟩
  have BX := bounds_box hm
  obtain ⟨nm, hnm⟩ : ∃ nm, (make l).length = nm := ⟨_, rfl⟩
  have hnm0 : 0 < nm := by rw [← hnm]; exact List.length_pos_iff.2 hm
  have t0 : ((nm : Int) == 0) = false := by simp; omega
  have t1 : (nm == 0) = false := by simp; omega
  generalize boundsL l = b at *
  obtain ⟨bx, by', bw, bh⟩ := b
  obtain ⟨x0, x1, wp, y0, y1, hp, inb, hall, hle, hri, hto, hdo, har⟩ := BX
  simp only at x0 x1 wp y0 y1 hp inb hall hle hri hto hdo har
  have VMi := Lib.hid (fun va vb w => V4.out ⟨bx, by', bw, bh⟩ (by refine ⟨bd_wf ?_ ?_, bd_wf ?_ ?_, bd_wf ?_ ?_, bd_wf ?_ ?_⟩ <;> simp only <;> omega) va vb w)
  rw [hall] at VMi
  have both : ∀ (c : Rc), c.wf → combL 2 l [c] ≠ [] → ∃ k : Nat, (0 < k ∧ k ≤ 1000) ∧ RowKit.Hid (∀ va vb w, SeesR w va l → SeesR w vb [c] → Calls Try.prog 16 #[va, vb] w fun e w' => ∃ p q, e = .returned (.slice p k q) ∧ Below w.heap.size w w') := fun c hcw hc => by
    have h1 := SMALL.out c
    refine ⟨(combL 2 l [c]).length, ⟨List.length_pos_iff.2 hc, by omega⟩, Lib.hid (fun va vb w s1 s2 => (V5.out c hcw va vb w s1 s2).mono fun e w' ⟨u, he, hs, hb⟩ => ?_)⟩
    obtain ⟨p, q, rfl, _⟩ := hs
    exact ⟨p, q, he, hb⟩
  obtain ⟨n1, g1, E1⟩ := both _ (by refine ⟨bd_wf ?_ ?_, bd_wf ?_ ?_, bd_wf ?_ ?_, bd_wf ?_ ?_⟩ <;> simp only <;> omega) hle
  obtain ⟨n2, g2, E2⟩ := both _ (by refine ⟨bd_wf ?_ ?_, bd_wf ?_ ?_, bd_wf ?_ ?_, bd_wf ?_ ?_⟩ <;> simp only <;> omega) hri
  obtain ⟨n3, g3, E3⟩ := both _ (by refine ⟨bd_wf ?_ ?_, bd_wf ?_ ?_, bd_wf ?_ ?_, bd_wf ?_ ?_⟩ <;> simp only <;> omega) hto
  obtain ⟨n4, g4, E4⟩ := both _ (by refine ⟨bd_wf ?_ ?_, bd_wf ?_ ?_, bd_wf ?_ ?_, bd_wf ?_ ?_⟩ <;> simp only <;> omega) hdo
  have MM : bw * bh ≤ 2097152 * 2097152 := Int.mul_le_mul (by omega) (by omega) (by omega) (by omega)
  have M0 : 0 ≤ bw * bh := Int.mul_nonneg (by omega) (by omega)
  obtain ⟨mm, hmm⟩ : ∃ mm, bw * bh = mm := ⟨_, rfl⟩
  rw [hmm] at MM M0 har
  have HMM := Lib.hid hmm
  generalize areaL (make l) = ar at *
  obtain ⟨IN, hIN⟩ : ∃ IN, decide (bx ≤ x ∧ by' ≤ y ∧ x < bx + bw ∧ y < by' + bh) = IN := ⟨_, rfl⟩
  have HIN := Lib.hid hIN
  have HIMP : RowKit.Hid (hasL l x y = true → IN = true) := Lib.hid (fun h => by
    rw [← hIN]
    have := inb x y h
    exact decide_eq_true ⟨this.1, this.2.2.1, this.2.1, this.2.2.2⟩)
  generalize hasL l x y = HS at *
  obtain ⟨xe, hxe⟩ : ∃ xe, bx + bw = xe := ⟨_, rfl⟩
  obtain ⟨ye, hye⟩ : ∃ ye, by' + bh = ye := ⟨_, rfl⟩
  have f1 : IntKind.i64.wrap (bx + bw) = xe := (IntWalk.i64_in _ (by omega)).trans hxe
  have f2 : wrap64 (bx + bw) = xe := (IntWalk.wrap64_in _ (by omega)).trans hxe
  have f3 : IntKind.i64.wrap (by' + bh) = ye := (IntWalk.i64_in _ (by omega)).trans hye
  have f4 : wrap64 (by' + bh) = ye := (IntWalk.wrap64_in _ (by omega)).trans hye
  obtain ⟨xf, hxf⟩ : ∃ xf, xe - 1 = xf := ⟨_, rfl⟩
  obtain ⟨yf, hyf⟩ : ∃ yf, ye - 1 = yf := ⟨_, rfl⟩
  have f5 : IntKind.i64.wrap (xe - 1) = xf := (IntWalk.i64_in _ (by omega)).trans hxf
  have f6 : wrap64 (xe - 1) = xf := (IntWalk.wrap64_in _ (by omega)).trans hxf
  have f7 : IntKind.i64.wrap (ye - 1) = yf := (IntWalk.i64_in _ (by omega)).trans hyf
  have f8 : wrap64 (ye - 1) = yf := (IntWalk.wrap64_in _ (by omega)).trans hyf
  rw [hxe, hxf] at E2
  rw [hye, hyf] at E4
  rw [hxe, hye] at HIN
  have HAR := Lib.hid (And.intro har (And.intro MM M0))
  have HWR := Lib.hid (And.intro f1 (And.intro f2 (And.intro f3 (And.intro f4 (And.intro f5 (And.intro f6 (And.intro f7 f8)))))))
  unfold Rc.v at V1
  simp only at V1
  clear f1 f2 f3 f4 f5 f6 f7 f8 hxe hye hxf hyf hIN both hle hri hto hdo hall har MM M0 hmm inb x0 x1 wp y0 y1 hp V4 V5 SMALL hm hnm0
  go_enter Try.func9, Try.ntmps9
  go_wp2_with fail
  refine (V0.out _).mono ?_
  rintro r w1 ⟨rfl, b1⟩
  have SA1 := Lib.hid (SA.out.below b1)
  have B1 := Lib.hid b1
  clear SA b1 V0
  go_wp2_with fail
  refine (V1.out _ w1 SA1.out).mono ?_
  rintro r w2 ⟨rfl, b2⟩
  have k3 := rect_cells w2 ⟨bx, by', bw, bh⟩ 32
  simp only at k3
  obtain ⟨w3, hw3⟩ : ∃ w3, w2.alloc (.cells #[.int .i64 bx, .int .i64 by', .int .i64 bw, .int .i64 bh] 32) = w3 := ⟨_, rfl⟩
  rw [hw3] at k3
  have B3 := Lib.hid (B1.out.trans ((b2.trans (k3.1.mono b2.size)).mono B1.out.size))
  have SA3 := Lib.hid (SA1.out.below (b2.trans (k3.1.mono b2.size)))
  have R3 := Lib.hid (And.intro k3.2 (show w2.heap.size < w3.heap.size by rw [← hw3]; simp))
  clear b2 k3 V1
  go_wp2_with fail
  refine (V2.out _ w3 SA3.out).mono ?_
  rintro r w4 ⟨u, rfl, s, b4⟩
  obtain ⟨pu, cu, rfl, _⟩ := s
  rw [hnm]
  have B4 := Lib.hid (B3.out.trans (b4.mono B3.out.size))
  have SA4 := Lib.hid (SA3.out.below b4)
  have R4 := Lib.hid (And.intro (rect_below R3.out.1 b4 R3.out.2) (Nat.lt_of_lt_of_le R3.out.2 b4.size))
  obtain ⟨c0, c1, c2, c3⟩ := R4.out.1
  simp only at c0 c1 c2 c3
  obtain ⟨f1, f2, f3, f4, f5, f6, f7, f8⟩ := HWR.out
  clear b4 V2 hw3 B1 B3 SA1 SA3 R3 hnm
  go_upto_region 10 with fail
  go_cut [10] (fun o wx => w4 = wx ∧ o = .bool IN)
  case first =>
    by_cases k0 : bx ≤ x
    case neg =>
      have ek0 : decide (bx ≤ x) = false := decide_eq_false k0
      have hi : IN = false := HIN.out.symm.trans (decide_eq_false (fun h => k0 (by omega)))
      subst hi
      clear k0
      go_wp2_with fail
      go_meet
      exact ⟨rfl, rfl⟩
    have ek0 : decide (bx ≤ x) = true := decide_eq_true k0
    by_cases k1 : by' ≤ y
    case neg =>
      have ek1 : decide (by' ≤ y) = false := decide_eq_false k1
      have hi : IN = false := HIN.out.symm.trans (decide_eq_false (fun h => k1 (by omega)))
      subst hi
      clear k1
      go_wp2_with fail
      go_meet
      exact ⟨rfl, rfl⟩
    have ek1 : decide (by' ≤ y) = true := decide_eq_true k1
    by_cases k2 : x < xe
    case neg =>
      have ek2 : decide (x < xe) = false := decide_eq_false k2
      have hi : IN = false := HIN.out.symm.trans (decide_eq_false (fun h => k2 (by omega)))
      subst hi
      clear k2
      go_wp2_with fail
      go_meet
      exact ⟨rfl, rfl⟩
    have ek2 : decide (x < xe) = true := decide_eq_true k2
    by_cases k3 : y < ye
    case neg =>
      have ek3 : decide (y < ye) = false := decide_eq_false k3
      have hi : IN = false := HIN.out.symm.trans (decide_eq_false (fun h => k3 (by omega)))
      subst hi
      clear k3
      go_wp2_with fail
      go_meet
      exact ⟨rfl, rfl⟩
    have ek3 : decide (y < ye) = true := decide_eq_true k3
    have hi : IN = true := HIN.out.symm.trans (decide_eq_true ⟨k0, k1, k2, k3⟩)
    subst hi
    clear k0 k1 k2 k3
    go_wp2_with fail
    go_meet
    exact ⟨rfl, rfl⟩
  case rest =>
    obtain ⟨rfl, rfl⟩ := hcut
    have C5 := Lib.hid (V3.out _ w4 SA4.out)
    clear V3 c0 c1 c2 c3
    go_upto_region 11 with fail
    go_cut [71] (fun o wx => o = .bool false ∧ Below w4.heap.size w4 wx)
    case first =>
      cases HS with
      | true =>
        have hi := HIMP.out rfl
        subst hi
        go_wp2_with fail
        refine C5.out.mono ?_
        rintro r w5 ⟨rfl, b5⟩
        have B5 := Lib.hid b5
        clear b5
        go_wp2_with fail
        go_meet
        exact ⟨rfl, B5.out⟩
      | false =>
        go_wp2_with fail
        refine C5.out.mono ?_
        rintro r w5 ⟨rfl, b5⟩
        have B5 := Lib.hid b5
        clear b5
        go_wp2_with fail
        go_meet
        exact ⟨rfl, B5.out⟩
    case rest =>
    obtain ⟨rfl, b5⟩ := hcut
    generalize wc = w5 at *
    have B5 := Lib.hid (B4.out.trans (b5.mono B4.out.size))
    have SA5 := Lib.hid (SA4.out.below b5)
    have R5 := Lib.hid (And.intro (rect_below R4.out.1 b5 R4.out.2) (Nat.lt_of_lt_of_le R4.out.2 b5.size))
    clear b5 C5 SA4 R4 B4
    have j6 := rect_cells w5 ⟨bx, by', 1, bh⟩ 32
    have l6 := sees_one w5 ⟨bx, by', 1, bh⟩ 32
    simp only at j6 l6
    obtain ⟨w6, hw6⟩ : ∃ w6, w5.alloc (.cells #[.int .i64 bx, .int .i64 by', .int .i64 1, .int .i64 bh] 32) = w6 := ⟨_, rfl⟩
    rw [hw6] at j6 l6
    have B6 := Lib.hid (B5.out.trans (j6.1.mono B5.out.size))
    have SA6 := Lib.hid (SA5.out.below j6.1)
    have R6 := Lib.hid (And.intro (rect_below R5.out.1 j6.1 R5.out.2) (Nat.lt_of_lt_of_le R5.out.2 j6.1.size))
    have LS6_6 := Lib.hid l6
    clear j6 l6
    have j7 := rect_cells w6 ⟨xf, by', 1, bh⟩ 32
    have l7 := sees_one w6 ⟨xf, by', 1, bh⟩ 32
    simp only at j7 l7
    obtain ⟨w7, hw7⟩ : ∃ w7, w6.alloc (.cells #[.int .i64 xf, .int .i64 by', .int .i64 1, .int .i64 bh] 32) = w7 := ⟨_, rfl⟩
    rw [hw7] at j7 l7
    have B7 := Lib.hid (B6.out.trans (j7.1.mono B6.out.size))
    have SA7 := Lib.hid (SA6.out.below j7.1)
    have R7 := Lib.hid (And.intro (rect_below R6.out.1 j7.1 R6.out.2) (Nat.lt_of_lt_of_le R6.out.2 j7.1.size))
    have LS6_7 := Lib.hid (LS6_6.out.below j7.1)
    have LS7_7 := Lib.hid l7
    clear j7 l7
    have j8 := rect_cells w7 ⟨bx, by', bw, 1⟩ 32
    have l8 := sees_one w7 ⟨bx, by', bw, 1⟩ 32
    simp only at j8 l8
    obtain ⟨w8, hw8⟩ : ∃ w8, w7.alloc (.cells #[.int .i64 bx, .int .i64 by', .int .i64 bw, .int .i64 1] 32) = w8 := ⟨_, rfl⟩
    rw [hw8] at j8 l8
    have B8 := Lib.hid (B7.out.trans (j8.1.mono B7.out.size))
    have SA8 := Lib.hid (SA7.out.below j8.1)
    have R8 := Lib.hid (And.intro (rect_below R7.out.1 j8.1 R7.out.2) (Nat.lt_of_lt_of_le R7.out.2 j8.1.size))
    have LS6_8 := Lib.hid (LS6_7.out.below j8.1)
    have LS7_8 := Lib.hid (LS7_7.out.below j8.1)
    have LS8_8 := Lib.hid l8
    clear j8 l8
    have j9 := rect_cells w8 ⟨bx, yf, bw, 1⟩ 32
    have l9 := sees_one w8 ⟨bx, yf, bw, 1⟩ 32
    simp only at j9 l9
    obtain ⟨w9, hw9⟩ : ∃ w9, w8.alloc (.cells #[.int .i64 bx, .int .i64 yf, .int .i64 bw, .int .i64 1] 32) = w9 := ⟨_, rfl⟩
    rw [hw9] at j9 l9
    have B9 := Lib.hid (B8.out.trans (j9.1.mono B8.out.size))
    have SA9 := Lib.hid (SA8.out.below j9.1)
    have R9 := Lib.hid (And.intro (rect_below R8.out.1 j9.1 R8.out.2) (Nat.lt_of_lt_of_le R8.out.2 j9.1.size))
    have LS6_9 := Lib.hid (LS6_8.out.below j9.1)
    have LS7_9 := Lib.hid (LS7_8.out.below j9.1)
    have LS8_9 := Lib.hid (LS8_8.out.below j9.1)
    have LS9_9 := Lib.hid l9
    clear j9 l9
    have j10 := rect_cells w9 ⟨bx, by', bw, bh⟩ 32
    have l10 := sees_one w9 ⟨bx, by', bw, bh⟩ 32
    simp only at j10 l10
    obtain ⟨w10, hw10⟩ : ∃ w10, w9.alloc (.cells #[.int .i64 bx, .int .i64 by', .int .i64 bw, .int .i64 bh] 32) = w10 := ⟨_, rfl⟩
    rw [hw10] at j10 l10
    have B10 := Lib.hid (B9.out.trans (j10.1.mono B9.out.size))
    have SA10 := Lib.hid (SA9.out.below j10.1)
    have R10 := Lib.hid (And.intro (rect_below R9.out.1 j10.1 R9.out.2) (Nat.lt_of_lt_of_le R9.out.2 j10.1.size))
    have LS6_10 := Lib.hid (LS6_9.out.below j10.1)
    have LS7_10 := Lib.hid (LS7_9.out.below j10.1)
    have LS8_10 := Lib.hid (LS8_9.out.below j10.1)
    have LS9_10 := Lib.hid (LS9_9.out.below j10.1)
    have LS10_10 := Lib.hid l10
    clear j10 l10
    obtain ⟨a5, b5, c5, d5⟩ := R5.out.1
    simp only at a5 b5 c5 d5
    obtain ⟨a6, b6, c6, d6⟩ := R6.out.1
    simp only at a6 b6 c6 d6
    obtain ⟨a7, b7, c7, d7⟩ := R7.out.1
    simp only at a7 b7 c7 d7
    obtain ⟨a8, b8, c8, d8⟩ := R8.out.1
    simp only at a8 b8 c8 d8
    obtain ⟨a9, b9, c9, d9⟩ := R9.out.1
    simp only at a9 b9 c9 d9
    have C10 := Lib.hid (VMi.out _ _ w10 SA10.out LS10_10.out)
    clear VMi
    go_wp2_with fail
    refine C10.out.mono ?_
    rintro r w11 ⟨u, rfl, s, b11⟩
    obtain ⟨pz, cz, rfl⟩ := SeesR.none s
    have B11 := Lib.hid (B10.out.trans (b11.mono B10.out.size))
    have SA11 := Lib.hid (SA10.out.below b11)
    have R11 := Lib.hid (And.intro (rect_below R10.out.1 b11 R10.out.2) (Nat.lt_of_lt_of_le R10.out.2 b11.size))
    have U1 := Lib.hid (fun W2 (h : Below w11.heap.size w11 W2) => E1.out _ _ W2 (SA11.out.below h) ((LS6_10.out.below b11).below h))
    have U2 := Lib.hid (fun W2 (h : Below w11.heap.size w11 W2) => E2.out _ _ W2 (SA11.out.below h) ((LS7_10.out.below b11).below h))
    have U3 := Lib.hid (fun W2 (h : Below w11.heap.size w11 W2) => E3.out _ _ W2 (SA11.out.below h) ((LS8_10.out.below b11).below h))
    have U4 := Lib.hid (fun W2 (h : Below w11.heap.size w11 W2) => E4.out _ _ W2 (SA11.out.below h) ((LS9_10.out.below b11).below h))
    have U5 := Lib.hid (fun W2 (h : Below w11.heap.size w11 W2) => V6.out _ W2 (SA11.out.below h))
    have RK := Lib.hid (fun W2 (h : Below w11.heap.size w11 W2) => rect_below R11.out.1 h R11.out.2)
    have m1 : IntKind.i64.wrap (bw * bh) = mm := by rw [HMM.out]; exact IntWalk.i64_in _ (by have := HAR.out; omega)
    have m2 : wrap64 (bw * bh) = mm := by rw [HMM.out]; exact IntWalk.wrap64_in _ (by have := HAR.out; omega)
    have m3 : decide (ar ≤ mm) = true := decide_eq_true HAR.out.1
    have p1 : decide ((0 : Int) < n1) = true := decide_eq_true (by omega)
    have p2 : decide ((0 : Int) < n2) = true := decide_eq_true (by omega)
    have p3 : decide ((0 : Int) < n3) = true := decide_eq_true (by omega)
    have p4 : decide ((0 : Int) < n4) = true := decide_eq_true (by omega)
    clear s b11 C10 a5 b5 c5 d5 a6 b6 c6 d6 a7 b7 c7 d7 a8 b8 c8 d8 a9 b9 c9 d9 f1 f2 f3 f4 f5 f6 f7 f8 hw6 hw7 hw8 hw9 hw10
    go_wp2_with fail
    refine region_preds (by kernel_rfl) (rbV a n cap w2.heap.size w5.heap.size w6.heap.size w7.heap.size w8.heap.size n1 n2 n3 n4 ar bw bh mm) (rbR n1 n2 n3 n4) (fun _ W2 => Below w11.heap.size w11 W2) [0, 7, 8, 11, 12, 13, 14, 15] [none, none, none, none, none, none, some 42, none, none, none, none, none, none, none, none, none, none, none, none, none, none, none, none, none, none, none, none, none, none, none, none, none, none, none, none, none, none, none, none, none, none, none, none, none, none, none, none, none, none, none, none, none, none, none, none, none, none, none, none, none, none, none, none, none, none, none, none, none, none, none, none, none, none, none, none, none, none, none, none, none, none, none, none, none, none, none, none, none, none, none, none, none, none, none, none, none, none, none, none, none, none, none, none, none, none, none, none, none, none, none, none, none, none, none, none, none, none, none, some 0, some 1, some 2, some 3, some 4, some 5, some 6, some 7, some 8, some 9, some 10, some 11, some 12, some 13, some 14, some 15, some 16, some 17, some 18, some 19, some 20, some 21, some 22, some 23, some 24, some 25, some 26, some 27, some 28, some 29, some 30, some 31, some 32, some 33, some 34, some 35, some 36, some 37, some 38, some 39, some 40, some 41] (by kernel_rfl) (by kernel_rfl) (by rfl) (by kernel_rfl) (by kernel_rfl) (by kernel_rfl) (Below.refl _ _).drew ⟨?_, ?_, ?_, ?_, ?_, ?_, ?_, ?_, ?_, ?_, ?_, ?_, ?_, ?_, ?_, ?_, ?_, ?_, ?_, ?_, ?_, ?_, ?_, ?_, ?_, ?_, ?_, ?_, ?_, ?_, ?_, ?_, ?_, ?_, ?_, ?_, ?_, ?_, ?_, ?_, ?_, ?_, ?_, trivial⟩ ?_
    case refine_44 =>
      intro vs ℓ W3 hl hS hR
      have BF := Lib.hid (B11.out.trans (hS.mono B11.out.size))
      clear hR hS hl U1 U2 U3 U4 U5 RK
      simp only [zipF, rbV, Option.getD_some, Option.getD_none]
      generalize vs 7 = z1 at *
      generalize vs 14 = z2 at *
      generalize vs 21 = z3 at *
      generalize vs 28 = z4 at *
      go_wp2_with fail
      go_ret
      exact ⟨rfl, BF.out⟩
    case refine_8 =>
      intro ℓ act W9 hl hS hw hx hr hd
      clear hw hx
      simp [readFacts, depFactsP, dstOf, Region.binds, rbV] at hr hd
      refine ⟨by first | exact wanted_none (by rfl) | exact wanted_guard (by rfl) (by rfl) (by first | exact hd | exact hd.1 | exact hd.2 | exact hd.2.1 | exact hd.2.2 | exact hd.2.2.1 | exact hd.2.2.2 | exact hd.2.2.2.1), fun K hK => ?_⟩
      go_simp
      refine (U1.out _ hS).mono ?_
      rintro r w' ⟨p, q, rfl, bb⟩
      have hk7 : Below w11.heap.size w11 w' := hS.trans (bb.mono hS.size)
      have hu7 : RegVal.UV (rbV a n cap w2.heap.size w5.heap.size w6.heap.size w7.heap.size w8.heap.size n1 n2 n3 n4 ar bw bh mm) (rbR n1 n2 n3 n4) 7 (.slice p n1 q) w' := ⟨p, q, rfl⟩
      have h3 := hK (.slice p n1 q) w' hu7 hk7 (fun j u _ _ (h : rbR n1 n2 n3 n4 j u W9) => (rbR_any h : rbR n1 n2 n3 n4 j u w'))
      exact h3
    case refine_9 =>
      intro ℓ act W9 hl hS hw hx hr hd
      clear hw hx
      simp [readFacts, depFactsP, dstOf, Region.binds, rbV, rbR] at hr hd
      obtain ⟨⟨u0, e1, p, q, rfl⟩, e2⟩ := hd
      refine ⟨wanted_guard (by rfl) (by rfl) e2, fun K hK => ?_⟩
      go_simp
      exact hK _ _ rfl hS (fun _ _ _ _ h => h)
    case refine_15 =>
      intro ℓ act W9 hl hS hw hx hr hd
      clear hw hx
      simp [readFacts, depFactsP, dstOf, Region.binds, rbV] at hr hd
      refine ⟨by first | exact wanted_none (by rfl) | exact wanted_guard (by rfl) (by rfl) (by first | exact hd | exact hd.1 | exact hd.2 | exact hd.2.1 | exact hd.2.2 | exact hd.2.2.1 | exact hd.2.2.2 | exact hd.2.2.2.1), fun K hK => ?_⟩
      go_simp
      refine (U2.out _ hS).mono ?_
      rintro r w' ⟨p, q, rfl, bb⟩
      have hk7 : Below w11.heap.size w11 w' := hS.trans (bb.mono hS.size)
      have hu7 : RegVal.UV (rbV a n cap w2.heap.size w5.heap.size w6.heap.size w7.heap.size w8.heap.size n1 n2 n3 n4 ar bw bh mm) (rbR n1 n2 n3 n4) 14 (.slice p n2 q) w' := ⟨p, q, rfl⟩
      have h3 := hK (.slice p n2 q) w' hu7 hk7 (fun j u _ _ (h : rbR n1 n2 n3 n4 j u W9) => (rbR_any h : rbR n1 n2 n3 n4 j u w'))
      exact h3
    case refine_16 =>
      intro ℓ act W9 hl hS hw hx hr hd
      clear hw hx
      simp [readFacts, depFactsP, dstOf, Region.binds, rbV, rbR] at hr hd
      obtain ⟨⟨u0, e1, p, q, rfl⟩, e2⟩ := hd
      refine ⟨wanted_guard (by rfl) (by rfl) e2, fun K hK => ?_⟩
      go_simp
      exact hK _ _ rfl hS (fun _ _ _ _ h => h)
    case refine_22 =>
      intro ℓ act W9 hl hS hw hx hr hd
      clear hw hx
      simp [readFacts, depFactsP, dstOf, Region.binds, rbV] at hr hd
      refine ⟨by first | exact wanted_none (by rfl) | exact wanted_guard (by rfl) (by rfl) (by first | exact hd | exact hd.1 | exact hd.2 | exact hd.2.1 | exact hd.2.2 | exact hd.2.2.1 | exact hd.2.2.2 | exact hd.2.2.2.1), fun K hK => ?_⟩
      go_simp
      refine (U3.out _ hS).mono ?_
      rintro r w' ⟨p, q, rfl, bb⟩
      have hk7 : Below w11.heap.size w11 w' := hS.trans (bb.mono hS.size)
      have hu7 : RegVal.UV (rbV a n cap w2.heap.size w5.heap.size w6.heap.size w7.heap.size w8.heap.size n1 n2 n3 n4 ar bw bh mm) (rbR n1 n2 n3 n4) 21 (.slice p n3 q) w' := ⟨p, q, rfl⟩
      have h3 := hK (.slice p n3 q) w' hu7 hk7 (fun j u _ _ (h : rbR n1 n2 n3 n4 j u W9) => (rbR_any h : rbR n1 n2 n3 n4 j u w'))
      exact h3
    case refine_23 =>
      intro ℓ act W9 hl hS hw hx hr hd
      clear hw hx
      simp [readFacts, depFactsP, dstOf, Region.binds, rbV, rbR] at hr hd
      obtain ⟨⟨u0, e1, p, q, rfl⟩, e2⟩ := hd
      refine ⟨wanted_guard (by rfl) (by rfl) e2, fun K hK => ?_⟩
      go_simp
      exact hK _ _ rfl hS (fun _ _ _ _ h => h)
    case refine_29 =>
      intro ℓ act W9 hl hS hw hx hr hd
      clear hw hx
      simp [readFacts, depFactsP, dstOf, Region.binds, rbV] at hr hd
      refine ⟨by first | exact wanted_none (by rfl) | exact wanted_guard (by rfl) (by rfl) (by first | exact hd | exact hd.1 | exact hd.2 | exact hd.2.1 | exact hd.2.2 | exact hd.2.2.1 | exact hd.2.2.2 | exact hd.2.2.2.1), fun K hK => ?_⟩
      go_simp
      refine (U4.out _ hS).mono ?_
      rintro r w' ⟨p, q, rfl, bb⟩
      have hk7 : Below w11.heap.size w11 w' := hS.trans (bb.mono hS.size)
      have hu7 : RegVal.UV (rbV a n cap w2.heap.size w5.heap.size w6.heap.size w7.heap.size w8.heap.size n1 n2 n3 n4 ar bw bh mm) (rbR n1 n2 n3 n4) 28 (.slice p n4 q) w' := ⟨p, q, rfl⟩
      have h3 := hK (.slice p n4 q) w' hu7 hk7 (fun j u _ _ (h : rbR n1 n2 n3 n4 j u W9) => (rbR_any h : rbR n1 n2 n3 n4 j u w'))
      exact h3
    case refine_30 =>
      intro ℓ act W9 hl hS hw hx hr hd
      clear hw hx
      simp [readFacts, depFactsP, dstOf, Region.binds, rbV, rbR] at hr hd
      obtain ⟨⟨u0, e1, p, q, rfl⟩, e2⟩ := hd
      refine ⟨wanted_guard (by rfl) (by rfl) e2, fun K hK => ?_⟩
      go_simp
      exact hK _ _ rfl hS (fun _ _ _ _ h => h)
    all_goals
      intro ℓ act W9 hl hS hw hx hr hd
      obtain ⟨c0, c1, c2, c3⟩ := RK.out _ hS
      simp only at c0 c1 c2 c3
      clear hw hx
      simp [readFacts, depFactsP, dstOf, Region.binds, rbV] at hr hd
      refine ⟨by first | exact wanted_none (by rfl) | exact wanted_guard (by rfl) (by rfl) (by first | exact hd | exact hd.1 | exact hd.2 | exact hd.2.1 | exact hd.2.2 | exact hd.2.2.1 | exact hd.2.2.2 | exact hd.2.2.2.1), fun K hK => ?_⟩
      go_simp
      first
      | (with_reducible refine (U5.out _ hS).mono ?_
         rintro r w' ⟨rfl, bb⟩
         have hk7 : Below w11.heap.size w11 w' := hS.trans (bb.mono hS.size)
         exact hK (.int .i64 ar) w' rfl hk7 (fun j u _ _ (h : rbR n1 n2 n3 n4 j u W9) => (rbR_any h : rbR n1 n2 n3 n4 j u w')))
      | exact hK _ _ rfl hS (fun _ _ _ _ h => h)

set_option maxRecDepth 100000 in
theorem lifted (os : Os) (started : os.Started) (H : Type) (enc : TypeId × Value → H) :
    ReturnsInHanded {} Try.checked os 9 .any (Rows.regionBoundsSpec.pre6 enc Try.prog Try.f9 Rows.regionBoundsRow.domain false) (Rows.regionBoundsSpec.post enc Try.prog Try.f9 false true false false) := by
  refine returnsInHanded_of_change (C := Try.checked) own started (by kernel_rfl) Try.func9
    (ChangeSpec.witness6 (enc := enc) (C := Try.checked) false ⟨#[], #[.slice none 0 0, .int .i64 0, .int .i64 0], []⟩ 8 (by kernel_rfl) (by kernel_rfl) (by kernel_rfl) (by kernel_rfl)) ?_
  intro W base args ds gs before hval0 hW hcnd _
  have hval : ∀ (j : Nat) t v, Try.f9.params[j]? = some t → args[j]? = some v → Value.okWide Try.prog W .any base t v := hval0
  have hW' := hW
  obtain ⟨p, q, hA0, hV, rfl, hfz, hnd⟩ := hW
  have hA : DataW.TrodAll enc Try.prog W 0 (fun _ => true) true Try.f9.params.toList args.toList ds p := hA0
  rw [Try.params9] at hA hval
  obtain ⟨v0, vs0, d0, ds0, p0, q0, hargs, rfl, rfl, h0, r0⟩ := trodAll_cons hA
  obtain ⟨v1, vs1, d1, ds1, p1, q1, rfl, rfl, rfl, h1, r1⟩ := trodAll_cons r0
  obtain ⟨v2, vs2, d2, ds2, p2, q2, rfl, rfl, rfl, h2, r2⟩ := trodAll_cons r1
  obtain ⟨rfl, rfl, rfl⟩ := trodAll_nil r2
  obtain rfl : args = #[v0, v1, v2] := by cases args; simp_all
  obtain ⟨rfl, rfl⟩ := trodVars_none hV
  have k0 := h0
  have lt0 : ∀ x ∈ p0, x.block < W.heap.size := by obtain ⟨m, hm⟩ := k0; exact DataW.trod_lt m _ _ _ hm
  obtain ⟨a0, len0, cap0, rfl⟩ := okWide_slice Try.underlying22 (hval 0 22 v0 rfl rfl)
  obtain ⟨A0, w0⟩ := rects_see h0
  have k1 := h1
  have lt1 : ∀ x ∈ p1, x.block < W.heap.size := by obtain ⟨m, hm⟩ := k1; exact DataW.trod_lt m _ _ _ hm
  obtain ⟨a1, rfl, rfl, rfl, w1⟩ := open_int Try.underlying3 (hval 1 3 v1 rfl rfl) h1
  have k2 := h2
  have lt2 : ∀ x ∈ p2, x.block < W.heap.size := by obtain ⟨m, hm⟩ := k2; exact DataW.trod_lt m _ _ _ hm
  obtain ⟨a2, rfl, rfl, rfl, w2⟩ := open_int Try.underlying3 (hval 2 3 v2 rfl rfl) h2
  clear hA0 hval0
  refine (walk says a0 len0 cap0 A0 a1 a2 W w0 w1 w2).mono fun e W' ⟨he, bel⟩ => ?_
  subst he
  exact ⟨_, rfl, _, _, _, [], _, [], hW', trodAll_mk1 (shut_bool Try.underlying4 _), (trodAll_cons_mk (Below.trod laidOut (by kernel_rfl) (of_decide_eq_true (by kernel_rfl)) k0 bel lt0) (trodAll_cons_mk (Below.trod laidOut (by kernel_rfl) (of_decide_eq_true (by kernel_rfl)) k1 bel lt1) (trodAll_cons_mk (Below.trod laidOut (by kernel_rfl) (of_decide_eq_true (by kernel_rfl)) k2 bel lt2) trodAll_mk0))), rfl, bel.frame _, fun h => by cases h⟩

theorem over : Rows.regionBoundsRow.holds Try.pinned (OpenSpec.ofChange Rows.regionBoundsSpec) :=
  OpenClaim.holds_of_wide 9 Try.f9 rfl rfl rfl rfl rfl rfl rfl ⟨rfl, rfl, rfl, rfl, rfl⟩ rfl rfl rfl rfl rfl (by kernel_rfl) Try.func9 (by kernel_rfl)
    (of_decide_eq_true (by kernel_rfl)) (by unfold Func.isWrapper; first | (rw [if_pos (by decide +kernel)]; kernel_rfl) | (rw [if_neg (by decide +kernel)]; exact ⟨rfl, rfl⟩))
    (fun os started H enc _ => lifted os started H enc)

theorem proved : Rows.RegionBoundsSaid := over
end Go.Proofs.Ytedlhfemmofbpaa.regionBounds
