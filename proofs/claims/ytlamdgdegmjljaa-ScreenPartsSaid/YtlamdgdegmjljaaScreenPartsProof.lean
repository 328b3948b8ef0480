/-
  The statement ScreenParts of layer 14 (screen) holds of the program as it stands: what is cut into four parts and drawn part by part elsewhere is the same screen.
-/
import Derived.Test.YtlamdgdegmjljaaRows
import Derived.Test.YtlamdgdegmjljaaScrProg
import Derived.Test.YtlamdgdegmjljaaScrView
import Derived.Test.YtlamdgdegmjljaaScrQuart
import Derived.WalkKit
import Derived.ProofKit
import Derived.OpenShut
import Derived.ShutString
import Derived.ChangeOld
import Derived.Below
import Derived.Lib.SmallJoins
import Derived.Deep.Slices
namespace Go.Proofs.Ytlamdgdegmjljaa.screenParts
open Go.Proofs.Ytlamdgdegmjljaa.Scr
open Lz RowG RegVal Reg
open Go.ChangeShapes Go.WideShapes Go.ChangeAt Go.RowKit
open Go.ChangeMaps (open_string shut_string)
set_option linter.unusedVariables false

theorem own : ownKnob Try.prog.godebug = none := by kernel_rfl
theorem laidOut : laidOutB Try.prog = true := by kernel_rfl

theorem dis_from {w : World} {F G G' : List Nat} (h : ∀ i ∈ F, i ∉ G) (hF : ∀ i ∈ F, i < w.heap.size) (k : From w G G') : ∀ i ∈ F, i ∉ G' := by
  intro i hi hm
  rcases k i hm with h1 | h1
  · exact h i hi h1
  · have := hF i hi
    omega
theorem rects_touch {w w' : World} {g : Nat} {l : List Rc} {F : List Nat} (h : ∀ i (hi : i < l.length), RcAt w g (0 + i * 4) l[i]) (hg : g < w.heap.size) (hF : g ∉ F) (k : Scr.Touch w w' F) : ∀ i (hi : i < l.length), RcAt w' g (0 + i * 4) l[i] := by
  have e := k.block g hg hF
  intro i hi
  obtain ⟨q1, q2, q3, q4⟩ := h i hi
  unfold RcAt at *
  simp only [World.cell?, e] at *
  exact ⟨q1, q2, q3, q4⟩
theorem four_wf {w h x y : Int} (hw : 1 ≤ w ∧ w ≤ 20) (hh : 1 ≤ h ∧ h ≤ 20) (hx : 0 ≤ x ∧ x ≤ w) (hy : 0 ≤ y ∧ y ≤ h) {k : Nat} (hk : k < 4) : (quartR w h x y k).wf := by
  have wf : ∀ n : Int, -100 ≤ n → n ≤ 100 → (Lit.int .i64 n).wf = true := fun n h1 h2 => by
    simp only [Lit.wf, IntKind.min, IntKind.max, IntKind.signed, IntKind.bits, Bool.and_eq_true, decide_eq_true_eq, if_true]
    omega
  have : k = 0 ∨ k = 1 ∨ k = 2 ∨ k = 3 := by omega
  unfold Rc.wf
  rcases this with rfl | rfl | rfl | rfl <;> (simp only [quartR, quart, List.getD_cons_zero, List.getD_cons_succ]; exact ⟨wf _ (by omega) (by omega), wf _ (by omega) (by omega), wf _ (by omega) (by omega), wf _ (by omega) (by omega)⟩)
theorem small_wf {n : Int} (h : -100 ≤ n ∧ n ≤ 100) : (Lit.int .i64 n).wf = true := by
  simp only [Lit.wf, IntKind.min, IntKind.max, IntKind.signed, IntKind.bits, Bool.and_eq_true, decide_eq_true_eq, if_true]
  omega
/-- What is so in the round. -/
structure Round {S : Lies} (W wr : World) (a b g : Nat) (w h x y : Int) (q lb : List Int) (F G : List Nat) (k : Nat) : Prop where
  a : S wr a w h q F
  b : S wr b w h lb G
  dis : ∀ i ∈ F, i ∉ G
  nf : ∀ i ∈ F, W.heap.size ≤ i
  ng : ∀ i ∈ G, W.heap.size ≤ i
  rects : ∀ i (hi : i < (quart w h x y).length), RcAt wr g (0 + i * 4) (quart w h x y)[i]
  lg : g < wr.heap.size
  gn : g ∉ G
  agree : Agree w h x y k q lb
  bel : Below W.heap.size W wr
set_option maxRecDepth 100000 in
set_option maxHeartbeats 8000000 in
theorem walk {S : Lies} (D : Says S) (w h : Int) (q : List Int) (qv : Value) (x y : Int) (ww : (Lit.int .i64 w).wf = true) (wh : (Lit.int .i64 h).wf = true) (W : World) (hq : SW W qv q) (hql : q.length ≤ maxLen) (hrm : Room qv) :
    Calls Try.prog 7 #[.int .i64 w, .int .i64 h, qv, .int .i64 x, .int .i64 y] W fun e w' => e = .returned (.bool true) ∧ Below W.heap.size W w' := by
  have V0 := Lib.hid (works_any D)
  obtain ⟨qa, qn, qc, rfl, hqn, _⟩ := hq.read
  have HQ := Lib.hid hq
  have HD := Lib.hid D
  clear hq hqn D
  by_cases h0 : w < 1
  case pos =>
    have d0 : decide (w < 1) = true := decide_eq_true h0
    go_enter Try.func7, Try.ntmps7
    go_wp2_with fail
    refine (V0.out _).mono ?_
    rintro r w1 ⟨rfl, b1⟩
    go_wp2_with fail
    go_ret
    exact ⟨rfl, b1⟩
  have d0 : decide (w < 1) = false := decide_eq_false h0
  by_cases h1 : h < 1
  case pos =>
    have d1 : decide (h < 1) = true := decide_eq_true h1
    go_enter Try.func7, Try.ntmps7
    go_wp2_with fail
    refine (V0.out _).mono ?_
    rintro r w1 ⟨rfl, b1⟩
    go_wp2_with fail
    go_ret
    exact ⟨rfl, b1⟩
  have d1 : decide (h < 1) = false := decide_eq_false h1
  by_cases h2 : 20 < w
  case pos =>
    have d2 : decide (20 < w) = true := decide_eq_true h2
    go_enter Try.func7, Try.ntmps7
    go_wp2_with fail
    refine (V0.out _).mono ?_
    rintro r w1 ⟨rfl, b1⟩
    go_wp2_with fail
    go_ret
    exact ⟨rfl, b1⟩
  have d2 : decide (20 < w) = false := decide_eq_false h2
  by_cases h3 : 20 < h
  case pos =>
    have d3 : decide (20 < h) = true := decide_eq_true h3
    go_enter Try.func7, Try.ntmps7
    go_wp2_with fail
    refine (V0.out _).mono ?_
    rintro r w1 ⟨rfl, b1⟩
    go_wp2_with fail
    go_ret
    exact ⟨rfl, b1⟩
  have d3 : decide (20 < h) = false := decide_eq_false h3
  by_cases h4 : x < 0
  case pos =>
    have d4 : decide (x < 0) = true := decide_eq_true h4
    go_enter Try.func7, Try.ntmps7
    go_wp2_with fail
    refine (V0.out _).mono ?_
    rintro r w1 ⟨rfl, b1⟩
    go_wp2_with fail
    go_ret
    exact ⟨rfl, b1⟩
  have d4 : decide (x < 0) = false := decide_eq_false h4
  by_cases h5 : w < x
  case pos =>
    have d5 : decide (w < x) = true := decide_eq_true h5
    go_enter Try.func7, Try.ntmps7
    go_wp2_with fail
    refine (V0.out _).mono ?_
    rintro r w1 ⟨rfl, b1⟩
    go_wp2_with fail
    go_ret
    exact ⟨rfl, b1⟩
  have d5 : decide (w < x) = false := decide_eq_false h5
  by_cases h6 : y < 0
  case pos =>
    have d6 : decide (y < 0) = true := decide_eq_true h6
    go_enter Try.func7, Try.ntmps7
    go_wp2_with fail
    refine (V0.out _).mono ?_
    rintro r w1 ⟨rfl, b1⟩
    go_wp2_with fail
    go_ret
    exact ⟨rfl, b1⟩
  have d6 : decide (y < 0) = false := decide_eq_false h6
  by_cases h7 : h < y
  case pos =>
    have d7 : decide (h < y) = true := decide_eq_true h7
    go_enter Try.func7, Try.ntmps7
    go_wp2_with fail
    refine (V0.out _).mono ?_
    rintro r w1 ⟨rfl, b1⟩
    go_wp2_with fail
    go_ret
    exact ⟨rfl, b1⟩
  have d7 : decide (h < y) = false := decide_eq_false h7
  have hw : 1 ≤ w ∧ w ≤ 20 := by omega
  have hh : 1 ≤ h ∧ h ≤ 20 := by omega
  have hx : 0 ≤ x ∧ x ≤ w := by omega
  have hy : 0 ≤ y ∧ y ≤ h := by omega
  have sw : sideB w = true := decide_eq_true (by omega)
  have sh : sideB h = true := decide_eq_true (by omega)
  have VN := Lib.hid (fun W => HD.out.newY w h W sw sh)
  have VW := Lib.hid (fun W => HD.out.whole w h W ww wh)
  have hww : Rc.wf ⟨0, 0, w, h⟩ := ⟨(by decide : (Lit.int .i64 0).wf = true), (by decide : (Lit.int .i64 0).wf = true), ww, wh⟩
  have HWW := Lib.hid hww
  have HBD := Lib.hid (And.intro hw (And.intro hh (And.intro hx hy)))
  clear h0 h1 h2 h3 h4 h5 h6 h7 sw sh hww ww wh
  unfold ptr at *
  unfold Rc.v at VW
  simp only at VW
  go_enter Try.func7, Try.ntmps7
  go_wp2_with fail
  refine (V0.out _).mono ?_
  rintro r w1 ⟨rfl, b1⟩
  have B1 := Lib.hid b1
  clear b1 V0
  go_wp2_with fail
  refine (VN.out _).mono ?_
  rintro r w2 ⟨a, F, rfl, sa, nf, b2⟩
  have B2 := Lib.hid (B1.out.trans (b2.mono B1.out.size))
  have SA := Lib.hid sa
  have NF : RowKit.Hid (∀ i ∈ F, W.heap.size ≤ i) := Lib.hid (fun i hi => Nat.le_trans B1.out.size (nf i hi))
  clear b2 sa nf
  go_wp2_with fail
  refine (VN.out _).mono ?_
  rintro r w3 ⟨b, G, rfl, sb, ng, b3⟩
  have B3 := Lib.hid (B2.out.trans (b3.mono B2.out.size))
  have SA3 := Lib.hid (HD.out.stay SA.out b3)
  have SB3 := Lib.hid sb
  have DIS : RowKit.Hid (∀ i ∈ F, i ∉ G) := Lib.hid (fun i hi hm => by
    have := HD.out.lt SA.out i hi
    have := ng i hm
    omega)
  have NG : RowKit.Hid (∀ i ∈ G, W.heap.size ≤ i) := Lib.hid (fun i hi => Nat.le_trans B2.out.size (ng i hi))
  clear b3 sb ng SA VN B1 B2
  go_wp2_with fail
  refine (VW.out _).mono ?_
  rintro r w4 ⟨rfl, b4⟩
  have B4 := Lib.hid (B3.out.trans (b4.mono B3.out.size))
  have SA4 := Lib.hid (HD.out.stay SA3.out b4)
  have SB4 := Lib.hid (HD.out.stay SB3.out b4)
  have OFF : 0 < q.length → Off (.slice qa qn qc) F := fun h0 k hk hm => by
    have := HQ.out.lt h0 k hk
    have := NF.out k hm
    omega
  have C := Lib.hid (HD.out.blit SA4.out ⟨0, 0, w, h⟩ q (.slice qa qn qc) HWW.out (HQ.out.below B4.out) hrm OFF hql)
  unfold ptr Rc.v at C
  simp only at C
  have IMA := HD.out.ok SA4.out
  have HBE : RowKit.Hid (blitE w h ⟨0, 0, w, h⟩ q = if rightQ ⟨0, 0, w, h⟩ q then 0 else 1) := Lib.hid (by unfold blitE; rw [whole_in IMA]; rfl)
  have HBS : RowKit.Hid (rightQ ⟨0, 0, w, h⟩ q = true → blitS w h ⟨0, 0, w, h⟩ q (blackL w h) = q) := Lib.hid (fun hr => by unfold blitS; rw [whole_in IMA, hr]; exact whole_blit IMA hr)
  clear b4 SA3 SB3 B3 OFF VW IMA HWW
  go_wp2_with fail
  refine C.out.mono ?_
  rintro r w5 ⟨rfl, F5, sa, t5, f5⟩
  clear C
  have B5 := Lib.hid (Scr.Touch.below B4.out t5 NF.out B4.out.size)
  have SB5 := Lib.hid (HD.out.apart SB4.out t5 (fun i hi hm => DIS.out i hm hi))
  have NF5 := Lib.hid (From.base f5 NF.out B4.out.size)
  have DIS5 : RowKit.Hid (∀ i ∈ F5, i ∉ G) := Lib.hid (fun i hi hm => by
    rcases f5 i hi with h1 | h1
    · exact DIS.out i h1 hm
    · have := HD.out.lt SB4.out i hm
      omega)
  have SA5 := Lib.hid sa
  clear sa t5 f5 SA4 SB4 B4 NF DIS
  cases hr : rightQ ⟨0, 0, w, h⟩ q with
  | false =>
    have hbe := HBE.out
    rw [hr] at hbe
    simp only [Bool.false_eq_true, if_false] at hbe
    rw [hbe]
    clear hbe HBE HBS hr
    go_wp2_with fail
    go_ret
    exact ⟨rfl, B5.out⟩
  | true =>
  have hbe := HBE.out
  rw [hr] at hbe
  simp only [if_true] at hbe
  rw [hbe]
  have hbs := HBS.out hr
  have SA6 := SA5.out
  rw [hbs] at SA6
  have HSA := Lib.hid SA6
  have hxw : -100 ≤ w - x ∧ w - x ≤ 100 := by have := HBD.out; omega
  have hyh : -100 ≤ h - y ∧ h - y ≤ 100 := by have := HBD.out; omega
  obtain ⟨xx, hxx⟩ : ∃ xx, w - x = xx := ⟨_, rfl⟩
  obtain ⟨yy, hyy⟩ : ∃ yy, h - y = yy := ⟨_, rfl⟩
  have HXY := Lib.hid (And.intro hxx hyy)
  rw [hxx] at hxw
  rw [hyy] at hyh
  clear hbe HBE HBS hr hbs SA6 SA5
  go_wp2_with fail
  obtain ⟨rfl, rfl⟩ := HXY.out
  obtain ⟨k6, kx⟩ := box1 w5 #[.int .i64 0, .int .i64 0, .int .i64 x, .int .i64 y, .int .i64 x, .int .i64 0, .int .i64 (w - x), .int .i64 y, .int .i64 0, .int .i64 y, .int .i64 x, .int .i64 (h - y), .int .i64 x, .int .i64 y, .int .i64 (w - x), .int .i64 (h - y)] 35
  have z6 := alloc_size w5 (.cells #[.int .i64 0, .int .i64 0, .int .i64 x, .int .i64 y, .int .i64 x, .int .i64 0, .int .i64 (w - x), .int .i64 y, .int .i64 0, .int .i64 y, .int .i64 x, .int .i64 (h - y), .int .i64 x, .int .i64 y, .int .i64 (w - x), .int .i64 (h - y)] 35)
  have hrc : ∀ i (hi : i < (quart w h x y).length), RcAt (w5.alloc (.cells #[.int .i64 0, .int .i64 0, .int .i64 x, .int .i64 y, .int .i64 x, .int .i64 0, .int .i64 (w - x), .int .i64 y, .int .i64 0, .int .i64 y, .int .i64 x, .int .i64 (h - y), .int .i64 x, .int .i64 y, .int .i64 (w - x), .int .i64 (h - y)] 35)) w5.heap.size (0 + i * 4) (quart w h x y)[i] := by
    intro i hi
    have hi4 : i < 4 := hi
    have : i = 0 ∨ i = 1 ∨ i = 2 ∨ i = 3 := by omega
    rcases this with rfl | rfl | rfl | rfl
    · exact ⟨kx 0 _ rfl, kx 1 _ rfl, kx 2 _ rfl, kx 3 _ rfl⟩
    · exact ⟨kx 4 _ rfl, kx 5 _ rfl, kx 6 _ rfl, kx 7 _ rfl⟩
    · exact ⟨kx 8 _ rfl, kx 9 _ rfl, kx 10 _ rfl, kx 11 _ rfl⟩
    · exact ⟨kx 12 _ rfl, kx 13 _ rfl, kx 14 _ rfl, kx 15 _ rfl⟩
  generalize w5.alloc (.cells #[.int .i64 0, .int .i64 0, .int .i64 x, .int .i64 y, .int .i64 x, .int .i64 0, .int .i64 (w - x), .int .i64 y, .int .i64 0, .int .i64 y, .int .i64 x, .int .i64 (h - y), .int .i64 x, .int .i64 y, .int .i64 (w - x), .int .i64 (h - y)] 35) = w6 at *
  have hgn : w5.heap.size ∉ G := fun hm => by
    have := HD.out.lt SB5.out _ hm
    omega
  have hlg : w5.heap.size < w6.heap.size := by omega
  have R0 : Round (S := S) W w6 a b w5.heap.size w h x y q (blackL w h) F5 G 0 := ⟨HD.out.stay HSA.out k6, HD.out.stay SB5.out k6, DIS5.out, NF5.out, NG.out, hrc, hlg, hgn, Agree.none _ _ _ _ _ _, B5.out.trans (k6.mono B5.out.size)⟩
  generalize w5.heap.size = g at *
  have HR0 := Lib.hid R0
  clear R0 hrc hgn hlg kx k6 z6 HSA SB5 DIS5 NF5 NG B5 hw hh hx hy hxw hyh HXY d0 d1 d2 d3 d4 d5 d6 d7
  go_loopw [17] (fun i wr => ∃ k : Nat, k ≤ 4 ∧ i = .int .i64 k ∧ ∃ lb G, RowKit.Hid (Round (S := S) W wr a b g w h x y q lb F5 G k)) (fun i _ => 4 - (intOf i).toNat)
  case atStart => exact ⟨0, Nat.zero_le _, rfl, _, _, HR0⟩
  case round =>
    obtain ⟨k, hk, rfl, lb, G, HR⟩ := hrel
    by_cases hlt : k < 4
    · have d1 : decide (k < 4) = true := decide_eq_true hlt
      have d2 : decide ((k : Int) < 4) = true := decide_eq_true (by omega)
      have hwf := four_wf HBD.out.1 HBD.out.2.1 HBD.out.2.2.1 HBD.out.2.2.2 hlt
      have hin := quart_in HBD.out.2.2.1 HBD.out.2.2.2 hlt
      have hrk : RcAt wr g (0 + k * 4) (quartR w h x y k) := by
        have hr := HR.out.rects k hlt
        have e : (quart w h x y)[k]'hlt = quartR w h x y k := by
          unfold quartR
          rw [List.getD_eq_getElem?_getD, List.getElem?_eq_getElem (show k < (quart w h x y).length from hlt)]; rfl
        rwa [e] at hr
      have HAG := Lib.hid (fun lb' (hb : ImOk w h lb') (hg : Agree w h x y k q lb') => Agree.next (HD.out.ok HR.out.a) hb hin hg)
      have hRC : RowKit.Hid (∀ W', Below wr.heap.size wr W' → RcAt W' g (k * 4) (quartR w h x y k)) := Lib.hid (fun W' kk => by
        obtain ⟨q1, q2, q3, q4⟩ := hrk
        rw [Nat.zero_add] at q1 q2 q3 q4
        exact ⟨(kk.cell (p := ⟨g, k * 4, none⟩) HR.out.lg).trans q1, (kk.cell (p := ⟨g, k * 4 + 1, none⟩) HR.out.lg).trans q2, (kk.cell (p := ⟨g, k * 4 + 2, none⟩) HR.out.lg).trans q3, (kk.cell (p := ⟨g, k * 4 + 3, none⟩) HR.out.lg).trans q4⟩)
      clear hrk
      generalize quartR w h x y k = r at *
      have hpe : partE w h r = 0 := by unfold partE; rw [hin]; rfl
      have hps : partS w h r q = partL w r q := by unfold partS; rw [hin]; rfl
      have C := Lib.hid (HD.out.part HR.out.a r hwf)
      rw [hpe, hps] at C
      have hpl : (partL w r q).length ≤ maxLen := by
        have h1 : (partL w r q).length ≤ q.length := partN_length w r q q.length
        exact Nat.le_trans h1 hql
      have hright := right_part (HD.out.ok HR.out.a) hin (alike_self r)
      have hbe : blitE w h r (partL w r q) = 0 := by unfold blitE; rw [hin, hright]; rfl
      have hbs : ∀ l, blitS w h r (partL w r q) l = blitL w r (partL w r q) l := fun l => by unfold blitS; rw [hin, hright]; rfl
      have BL := Lib.hid (fun w' (kk : Below wr.heap.size wr w') u (hu : IntsAt wr.heap.size w' u (partL w r q)) => HD.out.blit (HD.out.stay HR.out.b kk) r (partL w r q) u hwf hu.si.sw hu.room (fun _ => fresh_off hu (HD.out.lt HR.out.b)) hpl)
      rw [hbe] at BL
      simp only [hbs] at BL
      have hrv : r.v = .agg #[.int .i64 r.x, .int .i64 r.y, .int .i64 r.w, .int .i64 r.h] := rfl
      unfold ptr at *
      rw [hrv] at C BL
      obtain ⟨q0, q1, q2, q3⟩ := hRC.out wr (Below.refl _ _)
      have HQL := Lib.hid hql
      clear hpe hps hpl hright hbe hbs hin hql
      go_wp2_with fail
      refine C.out.mono ?_
      rintro p w7 ⟨u, rfl, iu, b7⟩
      have BLU := Lib.hid (BL.out w7 b7 u iu)
      obtain ⟨ua, un, uc, rfl⟩ := shape4 iu
      obtain ⟨q0, q1, q2, q3⟩ := hRC.out w7 b7
      have B7 := Lib.hid b7
      have HIM := Lib.hid (HD.out.ok HR.out.b)
      clear C BL iu b7
      go_wp2_with fail
      refine BLU.out.mono ?_
      rintro p w8 ⟨rfl, G', sb', t8, f8⟩
      have RR := HR.out
      have sa7 := HD.out.stay RR.a B7.out
      have e7 := B7.out.size
      have NEW : Round (S := S) W w8 a b g w h x y q (blitL w r (partL w r q) lb) F5 G' (k + 1) := by
        have hng : ∀ i ∈ G', W.heap.size ≤ i := From.base f8 RR.ng (Nat.le_trans RR.bel.size e7)
        have hdis : ∀ i ∈ F5, i ∉ G' := dis_from RR.dis (HD.out.lt sa7) f8
        have hgn' : g ∉ G' := fun hm => by
          rcases f8 g hm with h1 | h1
          · exact RR.gn h1
          · have := RR.lg
            omega
        have hrec : ∀ i (hi : i < (quart w h x y).length), RcAt w7 g (0 + i * 4) (quart w h x y)[i] := rects_touch RR.rects RR.lg RR.gn (Scr.Touch.of_below B7.out G)
        exact ⟨HD.out.apart sa7 t8 RR.dis, sb', hdis, RR.nf, hng, rects_touch hrec (Nat.lt_of_lt_of_le RR.lg e7) RR.gn t8, Nat.lt_of_lt_of_le RR.lg (Nat.le_trans e7 t8.size), hgn', HAG.out lb HIM.out RR.agree, Scr.Touch.below (RR.bel.trans (B7.out.mono RR.bel.size)) t8 RR.ng (Nat.le_trans RR.bel.size e7)⟩
      have HNEW := Lib.hid NEW
      have hql := HQL.out
      clear BLU sb' t8 f8 RR sa7 e7 NEW q0 q1 q2 q3
      go_wp2_with fail
      exact ⟨⟨k + 1, by omega, by go_num, _, _, HNEW⟩, by simp [intOf]; omega⟩
    · obtain rfl : k = 4 := by omega
      have RR := HR.out
      have IA := HD.out.ok RR.a
      have IB := HD.out.ok RR.b
      obtain rfl : q = lb := RR.agree.all IA IB HBD.out.2.2.1 HBD.out.2.2.2
      have C1 := Lib.hid (HD.out.image RR.a)
      have HIB := Lib.hid (Nat.le_trans IA.bound (by decide : 16777216 ≤ 1000000000))
      unfold ptr imgV at C1
      clear RR IA IB
      go_wp2_with fail
      refine C1.out.mono ?_
      rintro p w7 ⟨u, rfl, i7, b7⟩
      have C2 := Lib.hid (HD.out.image (HD.out.stay HR.out.b b7))
      have S7 := Lib.hid i7.si
      have B7 := Lib.hid (HR.out.bel.trans (b7.mono HR.out.bel.size))
      unfold ptr imgV at C2
      clear C1 i7 b7
      go_wp2_with fail
      refine C2.out.mono ?_
      rintro p w8 ⟨v, rfl, i8, b8⟩
      have C3 := Lib.hid (refSameImage_any w h w h u v q q w8 (S7.out.below b8) i8.si HIB.out HIB.out)
      rw [decide_eq_true (show w = w ∧ h = h ∧ q = q from ⟨rfl, rfl, rfl⟩)] at C3
      have B8 := Lib.hid (B7.out.trans (b8.mono B7.out.size))
      unfold imgV at C3
      clear C2 i8 b8 S7 B7
      go_wp2_with fail
      refine C3.out.mono ?_
      rintro p w9 ⟨rfl, b9⟩
      have B9 := Lib.hid (B8.out.trans (b9.mono B8.out.size))
      clear C3 b9 B8
      go_wp2_with fail
      go_ret
      exact ⟨rfl, B9.out⟩

set_option maxRecDepth 100000 in
theorem lifted (os : Os) (started : os.Started) (H : Type) (enc : TypeId × Value → H) :
    ReturnsInHanded {} Try.checked os 7 .any (Rows.screenPartsSpec.pre6 enc Try.prog Try.f7 Rows.screenPartsRow.domain false) (Rows.screenPartsSpec.post enc Try.prog Try.f7 false true false false) := by
  refine returnsInHanded_of_change (C := Try.checked) own started (by kernel_rfl) Try.func7
    (ChangeSpec.witness6 (enc := enc) (C := Try.checked) false ⟨#[], #[.int .i64 0, .int .i64 0, .slice none 0 0, .int .i64 0, .int .i64 0], []⟩ 8 (by kernel_rfl) (by kernel_rfl) (by kernel_rfl) (by kernel_rfl)) ?_
  intro W base args ds gs before hval0 hW hcnd _
  have hval : ∀ (j : Nat) t v, Try.f7.params[j]? = some t → args[j]? = some v → Value.okWide Try.prog W .any base t v := hval0
  have hW' := hW
  obtain ⟨p, q, hA0, hV, rfl, hfz, hnd⟩ := hW
  have hA : DataW.TrodAll enc Try.prog W 0 (fun _ => true) true Try.f7.params.toList args.toList ds p := hA0
  rw [Try.params7] at hA hval
  obtain ⟨v0, vs0, d0, ds0, p0, q0, hargs, rfl, rfl, h0, r0⟩ := trodAll_cons hA
  obtain ⟨v1, vs1, d1, ds1, p1, q1, rfl, rfl, rfl, h1, r1⟩ := trodAll_cons r0
  obtain ⟨v2, vs2, d2, ds2, p2, q2, rfl, rfl, rfl, h2, r2⟩ := trodAll_cons r1
  obtain ⟨v3, vs3, d3, ds3, p3, q3, rfl, rfl, rfl, h3, r3⟩ := trodAll_cons r2
  obtain ⟨v4, vs4, d4, ds4, p4, q4, rfl, rfl, rfl, h4, r4⟩ := trodAll_cons r3
  obtain ⟨rfl, rfl, rfl⟩ := trodAll_nil r4
  obtain rfl : args = #[v0, v1, v2, v3, v4] := by cases args; simp_all
  obtain ⟨rfl, rfl⟩ := trodVars_none hV
  have k0 := h0
  have lt0 : ∀ x ∈ p0, x.block < W.heap.size := by obtain ⟨m, hm⟩ := k0; exact DataW.trod_lt m _ _ _ hm
  obtain ⟨a0, rfl, rfl, rfl, w0⟩ := open_int Try.underlying3 (hval 0 3 v0 rfl rfl) h0
  have k1 := h1
  have lt1 : ∀ x ∈ p1, x.block < W.heap.size := by obtain ⟨m, hm⟩ := k1; exact DataW.trod_lt m _ _ _ hm
  obtain ⟨a1, rfl, rfl, rfl, w1⟩ := open_int Try.underlying3 (hval 1 3 v1 rfl rfl) h1
  have k2 := h2
  have lt2 : ∀ x ∈ p2, x.block < W.heap.size := by obtain ⟨m, hm⟩ := k2; exact DataW.trod_lt m _ _ _ hm
  obtain ⟨a2, len2, cap2, rfl⟩ := okWide_slice Try.underlying30 (hval 2 30 v2 rfl rfl)
  obtain ⟨A2, w2⟩ := ints_si h2
  have k3 := h3
  have lt3 : ∀ x ∈ p3, x.block < W.heap.size := by obtain ⟨m, hm⟩ := k3; exact DataW.trod_lt m _ _ _ hm
  obtain ⟨a3, rfl, rfl, rfl, w3⟩ := open_int Try.underlying3 (hval 3 3 v3 rfl rfl) h3
  have k4 := h4
  have lt4 : ∀ x ∈ p4, x.block < W.heap.size := by obtain ⟨m, hm⟩ := k4; exact DataW.trod_lt m _ _ _ hm
  obtain ⟨a4, rfl, rfl, rfl, w4⟩ := open_int Try.underlying3 (hval 4 3 v4 rfl rfl) h4
  clear hA0 hval0
  refine (walk says a0 a1 A2 (.slice a2 len2 cap2) a3 a4 w0 w1 W w2.1 w2.2.1 w2.2.2.2.2).mono fun e W' ⟨he, bel⟩ => ?_
  subst he
  exact ⟨_, rfl, _, _, _, [], _, [], hW', trodAll_mk1 (shut_bool Try.underlying4 _), (trodAll_cons_mk (Below.trod laidOut (by kernel_rfl) (of_decide_eq_true (by kernel_rfl)) k0 bel lt0) (trodAll_cons_mk (Below.trod laidOut (by kernel_rfl) (of_decide_eq_true (by kernel_rfl)) k1 bel lt1) (trodAll_cons_mk (Below.trod laidOut (by kernel_rfl) (of_decide_eq_true (by kernel_rfl)) k2 bel lt2) (trodAll_cons_mk (Below.trod laidOut (by kernel_rfl) (of_decide_eq_true (by kernel_rfl)) k3 bel lt3) (trodAll_cons_mk (Below.trod laidOut (by kernel_rfl) (of_decide_eq_true (by kernel_rfl)) k4 bel lt4) trodAll_mk0))))), rfl, bel.frame _, fun h => by cases h⟩

theorem over : Rows.screenPartsRow.holds Try.pinned (OpenSpec.ofChange Rows.screenPartsSpec) :=
  OpenClaim.holds_of_wide 7 Try.f7 rfl rfl rfl rfl rfl rfl rfl ⟨rfl, rfl, rfl, rfl, rfl⟩ rfl rfl rfl rfl rfl (by kernel_rfl) Try.func7 (by kernel_rfl)
    (of_decide_eq_true (by kernel_rfl)) (by unfold Func.isWrapper; first | (rw [if_pos (by decide +kernel)]; kernel_rfl) | (rw [if_neg (by decide +kernel)]; exact ⟨rfl, rfl⟩))
    (fun os started H enc _ => lifted os started H enc)

theorem proved : Rows.ScreenPartsSaid := over
end Go.Proofs.Ytlamdgdegmjljaa.screenParts
