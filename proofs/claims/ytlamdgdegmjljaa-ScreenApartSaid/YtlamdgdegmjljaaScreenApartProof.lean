/-
  The statement ScreenApart of layer 14 (screen) holds of the program as it stands: what is handed in, and what is told, is not shared; two screens know nothing of one another.
-/
import Derived.Test.YtlamdgdegmjljaaRows
import Derived.Test.YtlamdgdegmjljaaScrProg
import Derived.Test.YtlamdgdegmjljaaScrView
import Derived.Test.YtlamdgdegmjljaaScrQuart
import Derived.WalkKit
import Derived.ProofKit
import Derived.OpenShut
import Derived.ShutString
import Derived.ChangeOld
import Derived.Below
import Derived.Lib.SmallJoins
import Derived.Deep.Slices
namespace Go.Proofs.Ytlamdgdegmjljaa.screenApart
open Go.Proofs.Ytlamdgdegmjljaa.Scr
open Lz RowG RegVal Reg
open Go.ChangeShapes Go.WideShapes Go.ChangeAt Go.RowKit
open Go.ChangeMaps (open_string shut_string)
set_option linter.unusedVariables false

theorem own : ownKnob Try.prog.godebug = none := by kernel_rfl
theorem laidOut : laidOutB Try.prog = true := by kernel_rfl

theorem touch_set (w : World) (g i : Nat) (v : Value) : Scr.Touch w (w.setCell ⟨g, i, none⟩ v) [g] :=
  ⟨rfl, rfl, rfl, by simp, fun k hk hn => heap_setCell_other w ⟨g, i, none⟩ k v (by simpa using hn)⟩
def apV (a : Nat) (n cap g off : Nat) (z : Int) : Nat → Value
  | 0 => .bool true
  | 1 => .bool true
  | 2 => .bool true
  | 3 => .bool true
  | 4 => .bool true
  | 5 => .bool true
  | 6 => .bool true
  | 7 => .bool true
  | 8 => .pointer (some ⟨a, 0, none⟩)
  | 9 => .int .i64 z
  | 10 => .slice (some ⟨g, off, none⟩) n cap
  | 11 => .pointer (some ⟨g, off, none⟩)
  | 12 => .int .i64 z
  | 13 => .bool true
  | 14 => .bool true
  | 15 => .bool true
  | _ => undef

theorem field_im (w h : Int) (u : Value) (W : World) : (Instr.field 32 (.agg #[.int .i64 w, .int .i64 h, u]) 2).run Try.prog W = .ok u W := by kernel_rfl
theorem small_wf {n : Int} (h : -100 ≤ n ∧ n ≤ 100) : (Lit.int .i64 n).wf = true := by
  simp only [Lit.wf, IntKind.min, IntKind.max, IntKind.signed, IntKind.bits, Bool.and_eq_true, decide_eq_true_eq, if_true]
  omega
set_option maxRecDepth 100000 in
set_option maxHeartbeats 8000000 in
theorem walk {S : Lies} (D : Says S) (w h : Int) (q : List Int) (qv : Value) (c : Int) (ww : (Lit.int .i64 w).wf = true) (wh : (Lit.int .i64 h).wf = true) (W : World) (hq : SW W qv q) (hql : q.length ≤ maxLen) :
    Calls Try.prog 5 #[.int .i64 w, .int .i64 h, qv, .int .i64 c] W fun e w' => e = .returned (.bool true) ∧ Below W.heap.size W w' := by
  have V0 := Lib.hid (works_any D)
  obtain ⟨qa, qn, qc, rfl, hqn, hqd⟩ := hq.read
  have HQ := Lib.hid hq
  have HD := Lib.hid D
  have HQN := Lib.hid hqn
  have HQD := Lib.hid hqd
  rw [hqn] at hql
  clear hq hqn hqd D
  by_cases h0 : w < 1
  case pos =>
    have d0 : decide (w < 1) = true := decide_eq_true h0
    go_enter Try.func5, Try.ntmps5
    go_wp2_with fail
    refine (V0.out _).mono ?_
    rintro r w1 ⟨rfl, b1⟩
    go_wp2_with fail
    go_ret
    exact ⟨rfl, b1⟩
  have d0 : decide (w < 1) = false := decide_eq_false h0
  by_cases h1 : h < 1
  case pos =>
    have d1 : decide (h < 1) = true := decide_eq_true h1
    go_enter Try.func5, Try.ntmps5
    go_wp2_with fail
    refine (V0.out _).mono ?_
    rintro r w1 ⟨rfl, b1⟩
    go_wp2_with fail
    go_ret
    exact ⟨rfl, b1⟩
  have d1 : decide (h < 1) = false := decide_eq_false h1
  by_cases h2 : 20 < w
  case pos =>
    have d2 : decide (20 < w) = true := decide_eq_true h2
    go_enter Try.func5, Try.ntmps5
    go_wp2_with fail
    refine (V0.out _).mono ?_
    rintro r w1 ⟨rfl, b1⟩
    go_wp2_with fail
    go_ret
    exact ⟨rfl, b1⟩
  have d2 : decide (20 < w) = false := decide_eq_false h2
  by_cases h3 : 20 < h
  case pos =>
    have d3 : decide (20 < h) = true := decide_eq_true h3
    go_enter Try.func5, Try.ntmps5
    go_wp2_with fail
    refine (V0.out _).mono ?_
    rintro r w1 ⟨rfl, b1⟩
    go_wp2_with fail
    go_ret
    exact ⟨rfl, b1⟩
  have d3 : decide (20 < h) = false := decide_eq_false h3
  have hw : 1 ≤ w ∧ w ≤ 20 := by omega
  have hh : 1 ≤ h ∧ h ≤ 20 := by omega
  have hm1 : w * h ≤ 20 * 20 := Int.mul_le_mul hw.2 hh.2 (by omega) (by omega)
  have hm0 : 1 * 1 ≤ w * h := Int.mul_le_mul hw.1 hh.1 (by omega) (by omega)
  obtain ⟨m, hm⟩ : ∃ m : Nat, w * h = m := ⟨(w * h).toNat, by omega⟩
  have hmb : 1 ≤ m ∧ m ≤ 400 := by omega
  clear hm0 hm1
  by_cases h4 : qn = m
  case neg =>
    have d4 : ((qn : Int) != m) = true := by
      have : ¬ (qn : Int) = m := by omega
      simpa using this
    have n1 : (m : Int) ≤ 400 := by omega
    clear h4
    go_enter Try.func5, Try.ntmps5
    go_wp2_with fail
    refine (V0.out _).mono ?_
    rintro r w1 ⟨rfl, b1⟩
    go_wp2_with fail
    go_ret
    exact ⟨rfl, b1⟩
  subst h4
  have n1 : (qn : Int) ≤ 400 := by omega
  have n2 : (1 : Int) ≤ qn := by omega
  obtain ⟨gq, oq, rfl, hcq⟩ := HQD.out W (Below.refl _ _) (by omega)
  have sw : sideB w = true := decide_eq_true (by omega)
  have sh : sideB h = true := decide_eq_true (by omega)
  have VN := Lib.hid (fun W => HD.out.newY w h W sw sh)
  have VW := Lib.hid (fun W => HD.out.whole w h W ww wh)
  have hww : Rc.wf ⟨0, 0, w, h⟩ := ⟨(by decide : (Lit.int .i64 0).wf = true), (by decide : (Lit.int .i64 0).wf = true), ww, wh⟩
  have HWW := Lib.hid hww
  have HBD := Lib.hid (And.intro hw hh)
  have VB := Lib.hid (fun W => refBlack_any w h (by omega) (by omega) W)
  clear h0 h1 h2 h3 sw sh hww ww wh hcq
  unfold ptr at *
  unfold Rc.v at VW
  simp only at VW
  go_enter Try.func5, Try.ntmps5
  go_wp2_with fail
  refine (V0.out _).mono ?_
  rintro r w1 ⟨rfl, b1⟩
  have B1 := Lib.hid b1
  clear b1 V0
  go_wp2_with fail
  refine (VN.out _).mono ?_
  rintro r w2 ⟨a, F, rfl, sa, nf, b2⟩
  have B2 := Lib.hid (B1.out.trans (b2.mono B1.out.size))
  have SA := Lib.hid sa
  have NF : RowKit.Hid (∀ i ∈ F, W.heap.size ≤ i) := Lib.hid (fun i hi => Nat.le_trans B1.out.size (nf i hi))
  clear b2 sa nf
  go_wp2_with fail
  refine (VN.out _).mono ?_
  rintro r w3 ⟨b, G, rfl, sb, ng, b3⟩
  have B3 := Lib.hid (B2.out.trans (b3.mono B2.out.size))
  have SA3 := Lib.hid (HD.out.stay SA.out b3)
  have SB3 := Lib.hid sb
  have DIS : RowKit.Hid (∀ i ∈ F, i ∉ G) := Lib.hid (fun i hi hm => by
    have := HD.out.lt SA.out i hi
    have := ng i hm
    omega)
  have NG : RowKit.Hid (∀ i ∈ G, W.heap.size ≤ i) := Lib.hid (fun i hi => Nat.le_trans B2.out.size (ng i hi))
  have SQ : RowKit.Hid (Sees w3 1 (.slice (some ⟨gq, oq, none⟩) qn qc) qn (ints q)) := Lib.hid (by
    obtain ⟨a', c', e, hc⟩ := (HQ.out.below B3.out).cells
    simp only [Value.slice.injEq] at e
    obtain ⟨e1, e2, e3⟩ := e
    obtain ⟨g', o', e4, hg, hcc⟩ := hc (by omega)
    rw [← e1] at e4
    simp only [Option.some.injEq, Addr.mk.injEq, and_true] at e4
    obtain ⟨rfl, rfl⟩ := e4
    have := SI.of_cells (cap := qc) hg hcc
    unfold SI at this
    rw [← e2] at this
    exact this)
  obtain ⟨i0, hi0, hz0, hz1, hz2⟩ := info_parts info_num
  have hq63 : 0 + qn ≤ maxLen := by rw [Nat.zero_add]; exact hql
  have hqb : (0 + qn) * 8 ≤ 140737488355328 := by omega
  clear b3 sb ng SA VN B1 B2
  go_wp2_with (at_builtin; refine wpl_grow _ rfl _ _ 30 rfl 3 i0 (.int .i64 0) 1 8 Try.underlying30 hi0 hz0 hz1 hz2 rfl (by decide) (.slice none 0 0) w3.heap.size 0 [] rfl (RowAt.nil _ _ _ _) (Nat.le_refl _) qn (ints q) _ rfl SQ.out hq63 hqb ?_; intro v4 w4 h4 b4; have IM0 := Lib.hid (And.intro h4 b4); clear h4 b4)
  obtain ⟨h4, b4⟩ := IM0.out
  rw [Nat.zero_add, List.nil_append] at h4
  obtain ⟨gm, cm, rfl, hcm⟩ : ∃ g cap, v4 = .slice (some ⟨g, 0, none⟩) qn cap ∧ qn ≤ cap := by
    rcases h4.1.2 with ⟨_, h0⟩ | ⟨g, cap, cur, rfl, _, _, hnc, _⟩
    · omega
    · exact ⟨g, cap, rfl, hnc⟩
  have RM := room_of (a := some ⟨gm, 0, none⟩) hcm
  clear hcm
  have HM4 := Lib.hid h4
  have B4 := Lib.hid (B3.out.trans (b4.mono B3.out.size))
  have SA4 := Lib.hid (HD.out.stay SA3.out b4)
  have SB4 := Lib.hid (HD.out.stay SB3.out b4)
  have HGM : RowKit.Hid (w3.heap.size ≤ gm) := Lib.hid h4.block.1
  have HFL := Lib.hid (HD.out.lt SA3.out)
  have HGL := Lib.hid (HD.out.lt SB3.out)
  clear h4 b4 IM0 SQ hi0 hz0 hz1 hz2 hq63 hqb SA3 SB3 i0
  go_wp2_with fail
  refine (VW.out _).mono ?_
  rintro r w5 ⟨rfl, b5⟩
  have B5 := Lib.hid (B4.out.trans (b5.mono B4.out.size))
  have SA5 := Lib.hid (HD.out.stay SA4.out b5)
  have SB5 := Lib.hid (HD.out.stay SB4.out b5)
  have HM5 := Lib.hid (HM4.out.below b5)
  have SQ5 : SI w5 (.slice (some ⟨gm, 0, none⟩) qn cm) q := by
    have := HM5.out.sees
    rw [← HQN.out] at this ⊢
    exact this
  have OFF : Off (.slice (some ⟨gm, 0, none⟩) qn cm) F := fun k hk hm => by
    have e : gm = k := by simpa [Value.ownBlock] using hk
    have := HFL.out k hm
    have := HGM.out
    omega
  have C := Lib.hid (HD.out.blit SA5.out ⟨0, 0, w, h⟩ q (.slice (some ⟨gm, 0, none⟩) qn cm) HWW.out SQ5.sw RM (fun _ => OFF) (by rw [HQN.out]; exact hql))
  unfold ptr Rc.v at C
  simp only at C
  have IMA := Lib.hid (HD.out.ok SA5.out)
  have HBE : RowKit.Hid (blitE w h ⟨0, 0, w, h⟩ q = if rightQ ⟨0, 0, w, h⟩ q then 0 else 1) := Lib.hid (by unfold blitE; rw [whole_in IMA.out]; rfl)
  clear b5 SA4 SB4 HM4 B4 SQ5 OFF
  go_wp2_with fail
  refine C.out.mono ?_
  rintro r w6 ⟨rfl, F6, sa, t6, f6⟩
  clear C
  have B6 := Lib.hid (Scr.Touch.below B5.out t6 NF.out B5.out.size)
  have NF6 := Lib.hid (From.base f6 NF.out B5.out.size)
  have SA6 := Lib.hid sa
  have DG : RowKit.Hid (∀ i ∈ G, i ∉ F ∧ i < w3.heap.size) := Lib.hid (fun i hi => ⟨fun hm => DIS.out i hm hi, HGL.out i hi⟩)
  have SB6 := Lib.hid (HD.out.apart SB5.out t6 (fun i hi => (DG.out i hi).1))
  have DIS6 : RowKit.Hid (∀ i ∈ F6, i ∉ G) := Lib.hid (fun i hi hm => by
    have := HGL.out i hm
    have := B3.out.size
    have l5 := HGM.out
    have l6 := HM5.out.block.2.1
    rcases f6 i hi with h1 | h1
    · exact DIS.out i h1 hm
    · omega)
  have OFF6 : RowKit.Hid (gm ∉ F6) := Lib.hid (fun hm => by
    have l5 := HGM.out
    have l6 := HM5.out.block.2.1
    rcases f6 gm hm with h1 | h1
    · have := HFL.out gm h1
      omega
    · omega)
  have HM6 : RowKit.Hid (RowAt 3 1 w3.heap.size w6 (.slice (some ⟨gm, 0, none⟩) qn cm) qn (ints q)) := Lib.hid (by
    refine ⟨own_block HM5.out.1 fun i hi => t6.block i (World.ownsRow.lt HM5.out.1 i hi).2 fun hm => ?_, HM5.out.2⟩
    have e : gm = i := by simpa [Value.ownBlock] using hi
    subst e
    have := HFL.out gm hm
    have := HGM.out
    omega)
  clear sa t6 f6 SA5 SB5 NF DIS HM5 B5 DG
  cases hr : rightQ ⟨0, 0, w, h⟩ q with
  | false =>
    have hbe := HBE.out
    rw [hr] at hbe
    simp only [Bool.false_eq_true, if_false] at hbe
    rw [hbe]
    clear hbe HBE hr
    go_wp2_with fail
    go_ret
    exact ⟨rfl, B6.out⟩
  | true =>
  have hbe := HBE.out
  rw [hr] at hbe
  simp only [if_true] at hbe
  rw [hbe]
  have hS : blitS w h ⟨0, 0, w, h⟩ q (blackL w h) = q := by
    unfold blitS
    rw [whole_in IMA.out, hr]
    exact whole_blit IMA.out hr
  rw [hS] at SA6
  obtain ⟨m1, m2, m3, m4⟩ := HM6.out.block
  have hq0 : 0 < q.length := by rw [HQN.out]; omega
  have mc : w6.cell? ⟨gm, 0, none⟩ = some (.int .i64 (px q 0)) := by
    rw [px_get hq0]
    exact m3 0 _ (ints_get hq0)
  have mf := m4 0
  clear hbe HBE hr hS IMA m1 m2 m3 m4
  have T7 := touch_set w6 gm 0 (.int .i64 7)
  have z7 : (w6.setCell ⟨gm, 0, none⟩ (.int .i64 7)).heap.size = w6.heap.size := by simp
  have hgm : W.heap.size ≤ gm := Nat.le_trans B3.out.size HGM.out
  have B7 := Lib.hid (Scr.Touch.below (B := W.heap.size) B6.out T7 (by simp only [List.mem_singleton]; rintro i rfl; exact hgm) B6.out.size)
  have SA7 := Lib.hid (HD.out.apart SA6.out T7 (fun i hi hm => OFF6.out (by rw [List.mem_singleton] at hm; rwa [hm] at hi)))
  have SB7 := Lib.hid (HD.out.apart SB6.out T7 (fun i hi hm => by
    rw [List.mem_singleton] at hm
    have := HGL.out i hi
    have := HGM.out
    omega))
  clear T7 SA6 SB6 B6 HM6 hgm
  go_wp2_with fail
  generalize w6.setCell ⟨gm, 0, none⟩ (.int .i64 7) = w7 at *
  have C := Lib.hid (HD.out.image SA7.out)
  unfold ptr at C
  refine C.out.mono ?_
  rintro r w8 ⟨u, rfl, iu, b8⟩
  obtain ⟨gu, cu, rfl⟩ : ∃ g cap, u = .slice (some ⟨g, 0, none⟩) qn cap := by
    obtain ⟨g, cap, h⟩ := own_form iu.1 (by omega)
    exact ⟨g, cap, by rw [h, HQN.out]⟩
  have B8 := Lib.hid (B7.out.trans (b8.mono B7.out.size))
  have SA8 := Lib.hid (HD.out.stay SA7.out b8)
  have SB8 := Lib.hid (HD.out.stay SB7.out b8)
  have IU8 : RowKit.Hid (RowAt 3 1 w7.heap.size w8 (.slice (some ⟨gu, 0, none⟩) qn cu) qn (ints q)) := Lib.hid (by
    unfold IntsAt at iu
    rw [HQN.out] at iu
    exact iu)
  have HF7 := Lib.hid (HD.out.lt SA7.out)
  have GB7 := Lib.hid (HD.out.lt SB7.out)
  have B7s : RowKit.Hid (W.heap.size ≤ w7.heap.size) := Lib.hid B7.out.size
  have HU8 : RowKit.Hid (gu < w8.heap.size) := Lib.hid IU8.out.block.2.1
  clear C b8 iu SA7 SB7 B7 mc mf
  unfold imgV
  obtain ⟨k9, cx⟩ := box1 w8 #[.int .i64 w, .int .i64 h, .slice (some ⟨gu, 0, none⟩) qn cu] 32
  have z9 := alloc_size w8 (.cells #[.int .i64 w, .int .i64 h, .slice (some ⟨gu, 0, none⟩) qn cu] 32)
  have c9 := cx 2 _ rfl
  have SA9 := Lib.hid (HD.out.stay SA8.out k9)
  have SB9 := Lib.hid (HD.out.stay SB8.out k9)
  have IU9 := Lib.hid (IU8.out.below k9)
  have B9 := Lib.hid (B8.out.trans (k9.mono B8.out.size))
  clear SA8 SB8 IU8 B8 k9 cx
  go_wp2_with fail
  generalize w8.alloc (.cells #[.int .i64 w, .int .i64 h, .slice (some ⟨gu, 0, none⟩) qn cu] 32) = w9 at *
  refine (VW.out _).mono ?_
  rintro r w10 ⟨rfl, b10⟩
  have SA10 := Lib.hid (HD.out.stay SA9.out b10)
  have SB10 := Lib.hid (HD.out.stay SB9.out b10)
  have IU10 := Lib.hid (IU9.out.below b10)
  have B10 := Lib.hid (B9.out.trans (b10.mono B9.out.size))
  have hlt8 : w8.heap.size < w9.heap.size := by omega
  have c10 := (b10.cell (p := ⟨w8.heap.size, 2, none⟩) hlt8).trans c9
  have z10 := b10.size
  have C := Lib.hid (HD.out.part SA10.out ⟨0, 0, w, h⟩ HWW.out)
  have IMA := Lib.hid (HD.out.ok SA10.out)
  unfold ptr Rc.v at C
  simp only at C
  clear SA9 SB9 IU9 B9 b10 c9
  go_wp2_with fail
  refine C.out.mono ?_
  rintro r w11 ⟨up, rfl, ip, b11⟩
  have hpl : (partS w h ⟨0, 0, w, h⟩ q).length = qn := by
    have e := part_length IMA.out (whole_in IMA.out)
    unfold partS
    rw [whole_in IMA.out, if_pos rfl]
    simp only at e
    omega
  obtain ⟨gp, cp, rfl⟩ : ∃ g cap, up = .slice (some ⟨g, 0, none⟩) qn cap := by
    obtain ⟨g, cap, h⟩ := own_form ip.1 (by omega)
    exact ⟨g, cap, by rw [h, hpl]⟩
  have SA11 := Lib.hid (HD.out.stay SA10.out b11)
  have SB11 := Lib.hid (HD.out.stay SB10.out b11)
  have IU11 := Lib.hid (IU10.out.below b11)
  have B11 := Lib.hid (B10.out.trans (b11.mono B10.out.size))
  have c11 := (b11.cell (p := ⟨w8.heap.size, 2, none⟩) (show w8.heap.size < w10.heap.size by omega)).trans c10
  have z11 := b11.size
  unfold IntsAt at ip
  rw [hpl] at ip
  obtain ⟨y1, y2, y3, y4⟩ := ip.block
  obtain ⟨x1, x2, x3, x4⟩ := IU11.out.block
  have yf := y4 0
  have xf := x4 0
  have hq1 : 0 < (ints q).length := by simp [ints]; omega
  have xc := x3 0 _ (List.getElem?_eq_getElem hq1)
  have hp1 : 0 < (ints (partS w h ⟨0, 0, w, h⟩ q)).length := by simp [ints]; omega
  have yc := y3 0 _ (List.getElem?_eq_getElem hp1)
  have hne : gu ≠ gp := by
    have := HU8.out
    omega
  have hx8 : gu ≠ w8.heap.size := by
    have := HU8.out
    omega
  have HXY := Lib.hid (And.intro x1 y1)
  generalize (ints q)[0] = xv at xc
  generalize (ints (partS w h ⟨0, 0, w, h⟩ q))[0] = yv at yc
  clear C SA10 SB10 IU10 B10 b11 c10 ip x1 x2 x3 x4 y1 y2 y3 y4 hpl hlt8 hq1 hp1
  have hgu := Nat.le_trans B7s.out HXY.out.1
  have HL1 := Lib.hid (HD.out.lt SB11.out)
  have TT1 := touch_set w11 gu 0 (.int .i64 9)
  have B12 := Lib.hid (Scr.Touch.below (B := W.heap.size) B11.out TT1 (by simp only [List.mem_singleton]; rintro i rfl; exact hgu) B11.out.size)
  have SA12 := Lib.hid (HD.out.apart SA11.out TT1 (fun i hi hm => by
    rw [List.mem_singleton] at hm
    have := HF7.out i hi
    have := HXY.out.1
    omega))
  have SB12 := Lib.hid (HD.out.apart SB11.out TT1 (fun i hi hm => by
    rw [List.mem_singleton] at hm
    have := GB7.out i hi
    have := HXY.out.1
    omega))
  have hz12 : (w11.setCell ⟨gu, 0, none⟩ (.int .i64 9)).heap.size = w11.heap.size := by simp
  clear TT1 SA11 SB11 IU11
  go_wp2_with fail
  generalize w11.setCell ⟨gu, 0, none⟩ (.int .i64 9) = w12 at *
  have TT2 := touch_set w12 gp 0 (.int .i64 11)
  have hu8 := HU8.out
  have B13 := Lib.hid (Scr.Touch.below (B := W.heap.size) B12.out TT2 (by simp only [List.mem_singleton]; rintro i rfl; have := HXY.out; omega) B12.out.size)
  have SA13 := Lib.hid (HD.out.apart SA12.out TT2 (fun i hi hm => by
    rw [List.mem_singleton] at hm
    have := HF7.out i hi
    have := HXY.out
    omega))
  have SB13 := Lib.hid (HD.out.apart SB12.out TT2 (fun i hi hm => by
    rw [List.mem_singleton] at hm
    have := GB7.out i hi
    have := HXY.out
    omega))
  clear TT2 SA12 SB12 hu8
  generalize w12.setCell ⟨gp, 0, none⟩ (.int .i64 11) = w13 at *
  have C := Lib.hid (HD.out.image SA13.out)
  unfold ptr imgV at C
  refine C.out.mono ?_
  rintro r w14 ⟨u3, rfl, i3, b14⟩
  obtain ⟨ua, un, uc, rfl⟩ := shape4 i3
  have B14 := Lib.hid (B13.out.trans (b14.mono B13.out.size))
  have SA14 := Lib.hid (HD.out.stay SA13.out b14)
  have SB14 := Lib.hid (HD.out.stay SB13.out b14)
  have hq9 : q.length ≤ 1000000000 := by rw [HQN.out]; omega
  have C2 := refRow_any (.slice ua un uc) (.slice (some ⟨gq, oq, none⟩) qn qc) q q w14 i3.si.sw (HQ.out.below B14.out) hq9 hq9
  rw [decide_eq_true (rfl : q = q)] at C2
  have HC2 := Lib.hid C2
  clear C C2 i3 b14 SA13 SB13 B13 B12 B11 c11 xf xc yf yc hne hx8
  have hfd := field_im w h (.slice ua un uc) w14
  go_wp2_with fail
  clear hfd
  refine HC2.out.mono ?_
  rintro r w15 ⟨rfl, n15, rfl⟩
  clear HC2
  have C := Lib.hid (HD.out.image (HD.out.stay SB14.out (below_q (Below.refl _ _) n15)))
  have B15 := Lib.hid (below_q B14.out n15)
  have SA15 := Lib.hid (HD.out.stay SA14.out (below_q (Below.refl _ _) n15))
  unfold ptr imgV at C
  clear SA14 SB14 B14
  go_wp2_with fail
  generalize w14.drewN n15 = w15 at *
  refine C.out.mono ?_
  rintro r w16 ⟨u4, rfl, i4, b16⟩
  obtain ⟨va, vn, vc, rfl⟩ := shape4 i4
  have B16 := Lib.hid (B15.out.trans (b16.mono B15.out.size))
  have SA16 := Lib.hid (HD.out.stay SA15.out b16)
  have I4 := Lib.hid i4.si
  unfold imgV at VB
  clear C SA15 B15 b16 i4
  go_wp2_with fail
  refine (VB.out _).mono ?_
  rintro r w17 ⟨u5, rfl, i5, b17, _⟩
  obtain ⟨ta, tc, rfl⟩ := i5.form
  have B17 := Lib.hid (B16.out.trans (b17.mono B16.out.size))
  have SA17 := Lib.hid (HD.out.stay SA16.out b17)
  have hb9 : (blackL w h).length ≤ 1000000000 := by unfold blackL; rw [gen_length]; omega
  have C := refSameImage_any w h w h (.slice va vn vc) (.slice ta (blackL w h).length tc) _ _ w17 (I4.out.below b17) i5 hb9 hb9
  rw [decide_eq_true (show w = w ∧ h = h ∧ blackL w h = blackL w h from ⟨rfl, rfl, rfl⟩)] at C
  unfold imgV at C
  have HC := Lib.hid C
  clear C b17 i5 I4 SA16 B16 VB hb9
  generalize (blackL w h).length = bn at *
  go_wp2_with fail
  refine HC.out.mono ?_
  rintro r w20 ⟨rfl, b20⟩
  have B20 := Lib.hid (B17.out.trans (b20.mono B17.out.size))
  have SA20 := Lib.hid (HD.out.stay SA17.out b20)
  clear HC SA17 B17 b20
  have hat : atI w h q 0 0 = px q 0 := by
    unfold atI
    rw [if_pos (by omega)]
    simp
  have C := Lib.hid (fun W' (k : Below w20.heap.size w20 W') => HD.out.place (HD.out.stay SA20.out k) 0 0 (by decide) (by decide))
  rw [hat] at C
  unfold ptr at C
  have HCQ : RowKit.Hid (∀ W', Below w20.heap.size w20 W' → W'.cell? ⟨gq, oq, none⟩ = some (.int .i64 (px q 0))) := Lib.hid (fun W' k => by
    obtain ⟨g', o', e4, hc⟩ := HQD.out W' (B20.out.trans (k.mono B20.out.size)) (by omega)
    simp only [Option.some.injEq, Addr.mk.injEq, and_true] at e4
    obtain ⟨rfl, rfl⟩ := e4
    exact hc 0 (by omega))
  clear hat SA20
  generalize px q 0 = z at *
  have hz : decide (z = z) = true := decide_eq_true rfl
  have hn1 : (0 : Int) < qn := by omega
  have hn0 : 0 < qn := by omega
  go_wp2_with fail
  refine region_all (by kernel_rfl) (apV a qn qc gq oq z) (fun W' => Below w20.heap.size w20 W') [2, 9, 10, 18, 19] [none, none, none, none, none, none, none, none, some 15, none, none, none, none, none, none, none, none, none, none, none, none, none, none, none, none, none, none, none, none, none, none, none, none, none, none, none, none, none, none, none, none, none, none, none, none, none, none, none, none, none, none, none, none, none, none, none, none, none, none, none, none, none, none, none, none, none, none, none, none, none, none, none, none, none, none, none, none, none, none, none, none, none, none, none, none, none, none, none, none, none, none, none, none, none, none, none, none, none, none, none, none, none, none, none, none, none, none, none, none, none, none, none, none, none, none, none, none, none, none, none, none, none, none, none, none, none, some 0, some 1, some 2, some 3, some 4, some 5, some 6, some 7, some 8, some 9, some 10, some 11, some 12, some 13, some 14] (by kernel_rfl) (by kernel_rfl) (by rfl) (by kernel_rfl) (by kernel_rfl) (by kernel_rfl) ((Below.refl _ _).drew) ⟨?_, ?_, ?_, ?_, ?_, ?_, ?_, ?_, ?_, ?_, ?_, ?_, ?_, ?_, ?_, ?_, trivial⟩ ?_
  case refine_17 =>
    intro W' hS
    simp only [zipF, apV]
    go_wp2_with fail
    go_ret
    exact ⟨rfl, B20.out.trans (hS.mono B20.out.size)⟩
  all_goals
    intro ℓ act W' hl hS hw hr hd
    have hcq := HCQ.out W' hS
    have HV := C.out W' hS
    clear hw
    simp [readFacts, depFacts, dstOf, Region.binds, apV] at hr hd
    refine ⟨by first | exact wanted_none (by rfl) | exact wanted_guard (by rfl) (by rfl) (by simp only [*]), fun K hK => ?_⟩
    go_simp
    first
      | (with_reducible refine HV.mono ?_
         rintro r w' ⟨rfl, b⟩
         exact hK _ (hS.trans (b.mono hS.size)))
      | exact hK _ hS
      | (rw [if_pos hn0]; exact hK _ hS)
      | (rw [if_pos hn0]; go_simp; exact hK _ hS)

set_option maxRecDepth 100000 in
theorem lifted (os : Os) (started : os.Started) (H : Type) (enc : TypeId × Value → H) :
    ReturnsInHanded {} Try.checked os 5 .any (Rows.screenApartSpec.pre6 enc Try.prog Try.f5 Rows.screenApartRow.domain false) (Rows.screenApartSpec.post enc Try.prog Try.f5 false true false false) := by
  refine returnsInHanded_of_change (C := Try.checked) own started (by kernel_rfl) Try.func5
    (ChangeSpec.witness6 (enc := enc) (C := Try.checked) false ⟨#[], #[.int .i64 0, .int .i64 0, .slice none 0 0, .int .i64 0], []⟩ 8 (by kernel_rfl) (by kernel_rfl) (by kernel_rfl) (by kernel_rfl)) ?_
  intro W base args ds gs before hval0 hW hcnd _
  have hval : ∀ (j : Nat) t v, Try.f5.params[j]? = some t → args[j]? = some v → Value.okWide Try.prog W .any base t v := hval0
  have hW' := hW
  obtain ⟨p, q, hA0, hV, rfl, hfz, hnd⟩ := hW
  have hA : DataW.TrodAll enc Try.prog W 0 (fun _ => true) true Try.f5.params.toList args.toList ds p := hA0
  rw [Try.params5] at hA hval
  obtain ⟨v0, vs0, d0, ds0, p0, q0, hargs, rfl, rfl, h0, r0⟩ := trodAll_cons hA
  obtain ⟨v1, vs1, d1, ds1, p1, q1, rfl, rfl, rfl, h1, r1⟩ := trodAll_cons r0
  obtain ⟨v2, vs2, d2, ds2, p2, q2, rfl, rfl, rfl, h2, r2⟩ := trodAll_cons r1
  obtain ⟨v3, vs3, d3, ds3, p3, q3, rfl, rfl, rfl, h3, r3⟩ := trodAll_cons r2
  obtain ⟨rfl, rfl, rfl⟩ := trodAll_nil r3
  obtain rfl : args = #[v0, v1, v2, v3] := by cases args; simp_all
  obtain ⟨rfl, rfl⟩ := trodVars_none hV
  have k0 := h0
  have lt0 : ∀ x ∈ p0, x.block < W.heap.size := by obtain ⟨m, hm⟩ := k0; exact DataW.trod_lt m _ _ _ hm
  obtain ⟨a0, rfl, rfl, rfl, w0⟩ := open_int Try.underlying3 (hval 0 3 v0 rfl rfl) h0
  have k1 := h1
  have lt1 : ∀ x ∈ p1, x.block < W.heap.size := by obtain ⟨m, hm⟩ := k1; exact DataW.trod_lt m _ _ _ hm
  obtain ⟨a1, rfl, rfl, rfl, w1⟩ := open_int Try.underlying3 (hval 1 3 v1 rfl rfl) h1
  have k2 := h2
  have lt2 : ∀ x ∈ p2, x.block < W.heap.size := by obtain ⟨m, hm⟩ := k2; exact DataW.trod_lt m _ _ _ hm
  obtain ⟨a2, len2, cap2, rfl⟩ := okWide_slice Try.underlying30 (hval 2 30 v2 rfl rfl)
  obtain ⟨A2, w2⟩ := ints_si h2
  have k3 := h3
  have lt3 : ∀ x ∈ p3, x.block < W.heap.size := by obtain ⟨m, hm⟩ := k3; exact DataW.trod_lt m _ _ _ hm
  obtain ⟨a3, rfl, rfl, rfl, w3⟩ := open_int Try.underlying3 (hval 3 3 v3 rfl rfl) h3
  clear hA0 hval0
  refine (walk says a0 a1 A2 (.slice a2 len2 cap2) a3 w0 w1 W w2.1 w2.2.1).mono fun e W' ⟨he, bel⟩ => ?_
  subst he
  exact ⟨_, rfl, _, _, _, [], _, [], hW', trodAll_mk1 (shut_bool Try.underlying4 _), (trodAll_cons_mk (Below.trod laidOut (by kernel_rfl) (of_decide_eq_true (by kernel_rfl)) k0 bel lt0) (trodAll_cons_mk (Below.trod laidOut (by kernel_rfl) (of_decide_eq_true (by kernel_rfl)) k1 bel lt1) (trodAll_cons_mk (Below.trod laidOut (by kernel_rfl) (of_decide_eq_true (by kernel_rfl)) k2 bel lt2) (trodAll_cons_mk (Below.trod laidOut (by kernel_rfl) (of_decide_eq_true (by kernel_rfl)) k3 bel lt3) trodAll_mk0)))), rfl, bel.frame _, fun h => by cases h⟩

theorem over : Rows.screenApartRow.holds Try.pinned (OpenSpec.ofChange Rows.screenApartSpec) :=
  OpenClaim.holds_of_wide 5 Try.f5 rfl rfl rfl rfl rfl rfl rfl ⟨rfl, rfl, rfl, rfl, rfl⟩ rfl rfl rfl rfl rfl (by kernel_rfl) Try.func5 (by kernel_rfl)
    (of_decide_eq_true (by kernel_rfl)) (by unfold Func.isWrapper; first | (rw [if_pos (by decide +kernel)]; kernel_rfl) | (rw [if_neg (by decide +kernel)]; exact ⟨rfl, rfl⟩))
    (fun os started H enc _ => lifted os started H enc)

theorem proved : Rows.ScreenApartSaid := over
end Go.Proofs.Ytlamdgdegmjljaa.screenApart
