/-
  The statement ScreenDoes of layer 14 (screen) holds of the program as it stands: whatever is drawn, moved, resized and asked, in whatever order, each call answers, and each place is, as the reference has it.
-/
import Derived.Test.YtlamdgdegmjljaaRows
import Derived.Test.YtlamdgdegmjljaaScrProg
import Derived.Test.YtlamdgdegmjljaaScrDo
import Derived.Deep.CutBlock
import Derived.Deep.RegionWith
import Derived.WalkKit
import Derived.ProofKit
import Derived.OpenShut
import Derived.ShutString
import Derived.ChangeOld
import Derived.Below
import Derived.Lib.SmallJoins
import Derived.Deep.Slices
namespace Go.Proofs.Ytlamdgdegmjljaa.screenDoes
open Go.Proofs.Ytlamdgdegmjljaa.Scr
open Lz RowG RegVal Reg
open Go.ChangeShapes Go.WideShapes Go.ChangeAt Go.RowKit
open Go.ChangeMaps (open_string shut_string)
set_option linter.unusedVariables false

theorem own : ownKnob Try.prog.godebug = none := by kernel_rfl
theorem laidOut : laidOutB Try.prog = true := by kernel_rfl

def doV (b M p0 : Nat) (c X Y N ty tv : Int) (v : Value) : Nat → Value
  | 0 => .int .i64 c
  | 1 => .int .i64 c
  | 2 => .bool false
  | 3 => .bool false
  | 4 => .bool true
  | 5 => .bool false
  | 6 => .bool false
  | 7 => .bool false
  | 8 => .int .i64 X
  | 9 => .pointer (some ⟨M, 0, none⟩)
  | 10 => .int .i64 X
  | 11 => .bool false
  | 12 => .bool false
  | 13 => .bool false
  | 14 => .int .i64 Y
  | 15 => .pointer (some ⟨M, 1, none⟩)
  | 16 => .int .i64 Y
  | 17 => .bool false
  | 18 => .bool false
  | 19 => .bool false
  | 20 => .pointer (some ⟨b, 0, none⟩)
  | 21 => .pointer (some ⟨p0, 9, none⟩)
  | 22 => .int .i64 N
  | 23 => .pointer (some ⟨p0, 5, none⟩)
  | 24 => .pointer (some ⟨p0, 6, none⟩)
  | 25 => .int .i64 ty
  | 26 => .int .i64 tv
  | 27 => .agg #[.int .i64 X, .int .i64 Y, v]
  | 28 => .pointer (some ⟨p0, 9, none⟩)
  | 29 => .int .i64 N
  | 30 => .pointer (some ⟨p0, 5, none⟩)
  | 31 => .pointer (some ⟨p0, 6, none⟩)
  | 32 => .int .i64 ty
  | 33 => .int .i64 tv
  | 34 => .bool false
  | 35 => .bool false
  | _ => undef
set_option maxRecDepth 100000 in
set_option maxHeartbeats 2000000 in
theorem early {S : Lies} (D : Says S) (w h : Int) (a : Option Addr) (len cap : Nat) (A : Nat → ActS) (ww : (Lit.int .i64 w).wf = true) (wh : (Lit.int .i64 h).wf = true) (W : World) (hA : IsActs W a len A) (hs : (sideB w && sideB h) = false) :
    Calls Try.prog 3 #[.int .i64 w, .int .i64 h, .slice a len cap] W fun e w' => e = .returned (.bool true) ∧ Below W.heap.size W w' := by
  have V0 := Lib.hid (works_any D)
  have VO := Lib.hid (fun W0 (k : Below W.heap.size W W0) => over_any w h a len cap A W0 (hA.below k))
  have HA := Lib.hid hA
  have HD := Lib.hid D
  have VN := Lib.hid (fun W0 => D.newN w h W0 hs ww wh)
  have S1 := Lib.hid (fun w0 => refSide_any w w0)
  have S2 := Lib.hid (fun w0 => refSide_any h w0)
  clear hA D ww wh
  cases hw : sideB w with
  | false =>
    rw [hw] at S1
    clear hs hw S2
    go_enter Try.func3, Try.ntmps3
    go_wp2_with fail
    refine (V0.out _).mono ?_
    rintro r w1 ⟨rfl, b1⟩
    have B1 := Lib.hid b1
    have C1 := Lib.hid (VO.out w1 b1)
    clear b1 V0 VO
    go_wp2_with fail
    refine C1.out.mono ?_
    rintro r w2 ⟨B, rfl, hw2, hT⟩
    subst w2
    cases B with
    | true =>
      go_wp2_with fail
      go_ret
      exact ⟨rfl, B1.out⟩
    | false =>
    have HF := Lib.hid (hT rfl)
    clear hT C1
    go_wp2_with fail
    refine (VN.out _).mono ?_
    rintro r w3 ⟨rfl, b3⟩
    have B3 := Lib.hid (B1.out.trans (b3.mono B1.out.size))
    clear b3
    go_wp2_with fail
    refine (S1.out _).mono ?_
    rintro r w4 ⟨rfl, hw4⟩
    subst w4
    go_wp2_with fail
    go_ret
    exact ⟨rfl, B3.out⟩
  | true =>
    have hh : sideB h = false := by rw [hw] at hs; simpa using hs
    rw [hw] at S1
    rw [hh] at S2
    clear hs hw hh
    go_enter Try.func3, Try.ntmps3
    go_wp2_with fail
    refine (V0.out _).mono ?_
    rintro r w1 ⟨rfl, b1⟩
    have B1 := Lib.hid b1
    have C1 := Lib.hid (VO.out w1 b1)
    clear b1 V0 VO
    go_wp2_with fail
    refine C1.out.mono ?_
    rintro r w2 ⟨B, rfl, hw2, hT⟩
    subst w2
    cases B with
    | true =>
      go_wp2_with fail
      go_ret
      exact ⟨rfl, B1.out⟩
    | false =>
    have HF := Lib.hid (hT rfl)
    clear hT C1
    go_wp2_with fail
    refine (VN.out _).mono ?_
    rintro r w3 ⟨rfl, b3⟩
    have B3 := Lib.hid (B1.out.trans (b3.mono B1.out.size))
    clear b3
    go_wp2_with fail
    refine (S1.out _).mono ?_
    rintro r w4 ⟨rfl, hw4⟩
    subst w4
    go_wp2_with fail
    refine (S2.out _).mono ?_
    rintro r w4 ⟨rfl, hw4⟩
    subst w4
    go_wp2_with fail
    go_ret
    exact ⟨rfl, B3.out⟩
set_option maxRecDepth 100000 in
set_option maxHeartbeats 8000000 in
theorem walk {S : Lies} (D : Says S) (w h : Int) (a : Option Addr) (len cap : Nat) (A : Nat → ActS) (ww : (Lit.int .i64 w).wf = true) (wh : (Lit.int .i64 h).wf = true) (W : World) (hA : IsActs W a len A) :
    Calls Try.prog 3 #[.int .i64 w, .int .i64 h, .slice a len cap] W fun e w' => e = .returned (.bool true) ∧ Below W.heap.size W w' := by
  cases hs : (sideB w && sideB h) with
  | false => exact early D w h a len cap A ww wh W hA hs
  | true =>
  simp only [Bool.and_eq_true] at hs
  have V0 := Lib.hid (works_any D)
  have VO := Lib.hid (fun W0 (k : Below W.heap.size W W0) => over_any w h a len cap A W0 (hA.below k))
  have HA := Lib.hid hA
  have HD := Lib.hid D
  have VN := Lib.hid (fun W0 => D.newY w h W0 hs.1 hs.2)
  have S1 := Lib.hid (fun w0 => refSide_any w w0)
  have S2 := Lib.hid (fun w0 => refSide_any h w0)
  have VB := Lib.hid (fun w0 => refBlack_any w h (of_decide_eq_true hs.1) (of_decide_eq_true hs.2) w0)
  rw [hs.1] at S1
  rw [hs.2] at S2
  clear hA D ww wh hs
  unfold ptr imgV at *
  go_enter Try.func3, Try.ntmps3
  go_wp2_with fail
  refine (V0.out _).mono ?_
  rintro r w1 ⟨rfl, b1⟩
  have B1 := Lib.hid b1
  have C1 := Lib.hid (VO.out w1 b1)
  clear b1 V0 VO
  go_wp2_with fail
  refine C1.out.mono ?_
  rintro r w2 ⟨B, rfl, hw2, hT⟩
  subst w2
  cases B with
  | true =>
    go_wp2_with fail
    go_ret
    exact ⟨rfl, B1.out⟩
  | false =>
  have HF := Lib.hid (hT rfl)
  clear hT C1
  go_wp2_with fail
  refine (VN.out _).mono ?_
  rintro r w3 ⟨b, F, rfl, s3, hF, b3⟩
  have B3 := Lib.hid (B1.out.trans (b3.mono B1.out.size))
  have S3 := Lib.hid s3
  have NF : RowKit.Hid (∀ i ∈ F, W.heap.size ≤ i) := Lib.hid (fun i hi => Nat.le_trans B1.out.size (hF i hi))
  clear b3 s3 hF VN B1
  go_wp2_with fail
  refine (S1.out _).mono ?_
  rintro r w4 ⟨rfl, hw4⟩
  subst w4
  go_wp2_with fail
  refine (S2.out _).mono ?_
  rintro r w4 ⟨rfl, hw4⟩
  subst w4
  clear S1 S2
  go_wp2_with fail
  refine (VB.out _).mono ?_
  rintro r w4 ⟨v, rfl, sv, b4, fv⟩
  have B4 := Lib.hid (B3.out.trans (b4.mono B3.out.size))
  obtain ⟨va, vn, vc, rfl, _, _⟩ := sv.read
  have k5 := (Below.refl w4.heap.size w4).alloc (Nat.le_refl _) (.cells #[.int .i64 w, .int .i64 h, .slice va vn vc] 32)
  have m5 := VarAt.new w4 w h (.slice va vn vc)
  have z5 := alloc_size w4 (.cells #[.int .i64 w, .int .i64 h, .slice va vn vc] 32)
  obtain ⟨w5, hw5⟩ : ∃ w5, w4.alloc (.cells #[.int .i64 w, .int .i64 h, .slice va vn vc] 32) = w5 := ⟨_, rfl⟩
  rw [hw5] at k5 m5 z5
  have E5 : Scene S W w5 b w4.heap.size w h (blackL w h) F (.slice va vn vc) := by
    have s4 := HD.out.stay S3.out b4
    refine ⟨HD.out.stay s4 k5, m5, sv.below k5, NF.out, fun hm => ?_, B4.out.size, fun k hk hm => ?_, fun k hk e => ?_, B4.out.trans (k5.mono B4.out.size)⟩
    · have := HD.out.lt s4 _ hm
      omega
    · have h1 := fv k hk
      have h2 := HD.out.lt S3.out k hm
      omega
    · have := sv.lt k hk
      omega
  obtain ⟨M, hM⟩ : ∃ M, w4.heap.size = M := ⟨_, rfl⟩
  rw [hM] at E5 m5 z5
  have HE5 := Lib.hid E5
  have HM := Lib.hid hM
  clear sv b4 fv k5 m5 z5 B3 S3 NF VB E5 hM B4
  go_wp2_with fail
  rw [HM.out]
  clear HM hw5
  go_loopw [12] (fun i wr => ∃ k : Nat, k ≤ len ∧ i = .int .i64 k ∧ ∃ X Y l F v, RowKit.Hid (Scene S W wr b M X Y l F v)) (fun i _ => len - (intOf i).toNat)
  case atStart => exact ⟨0, Nat.zero_le _, rfl, _, _, _, _, _, HE5⟩
  case round =>
    obtain ⟨k, hk, rfl, X, Y, l, F, v, HR⟩ := hrel
    clear HE5
    by_cases hlt : k < len
    · have d1 : decide (k < len) = true := decide_eq_true hlt
      have d2 : decide ((k : Int) < len) = true := decide_eq_true (by omega)
      obtain ⟨g0, off, rfl, hg0, hcell⟩ := HA.out.2.1 (by omega)
      have hlen : len ≤ 20 := HF.out.2.2.1
      have hok := HA.out.2.2 k hlt
      have hfit := HF.out.2.2.2 k hlt
      have hca : Cells wr g0 [] := fun j u hj => by simp at hj
      have hck : ∀ j u, (A k).cells[j]? = some u → wr.cell? ⟨g0, off + k * 11 + j, none⟩ = some u := fun j u hj => (HR.out.bel.cell (p := ⟨g0, off + k * 11 + j, none⟩) hg0).trans (hcell k hlt j u hj)
      clear hcell hca
      generalize A k = ac at *
      obtain ⟨K, R, T, N, pv, P⟩ := ac
      obtain ⟨pa, pn, pc, rfl, hpn, _⟩ := hok.row.read
      have c0 := hck 0 _ rfl
      rw [Nat.add_zero] at c0
      have c1 := hck 1 _ rfl
      have c2 := hck 2 _ rfl
      have c3 := hck 3 _ rfl
      have c4 := hck 4 _ rfl
      have c5 := hck 5 _ rfl
      have c6 := hck 6 _ rfl
      have c7 := hck 7 _ rfl
      have c8 := hck 8 _ rfl
      have c9 := hck 9 _ rfl
      have c10 := hck 10 _ rfl
      simp only at c0 c1 c2 c3 c4 c5 c6 c7 c8 c9 c10
      have HOK := Lib.hid hok
      have HFIT := Lib.hid hfit
      clear hok hfit hck hg0 hpn
      have z5 := alloc_size wr (.cells #[.int .i64 K, .int .i64 R.x, .int .i64 R.y, .int .i64 R.w, .int .i64 R.h, .int .i64 T.x, .int .i64 T.y, .int .i64 T.w, .int .i64 T.h, .int .i64 N, .slice pa pn pc] 37)
      obtain ⟨k6, kx⟩ := box1 wr #[.int .i64 K, .int .i64 R.x, .int .i64 R.y, .int .i64 R.w, .int .i64 R.h, .int .i64 T.x, .int .i64 T.y, .int .i64 T.w, .int .i64 T.h, .int .i64 N, .slice pa pn pc] 37
      have HX := Lib.hid kx
      have K6 := Lib.hid k6
      clear kx k6
      obtain ⟨w6, hw6⟩ : ∃ w6, wr.alloc (.cells #[.int .i64 K, .int .i64 R.x, .int .i64 R.y, .int .i64 R.w, .int .i64 R.h, .int .i64 T.x, .int .i64 T.y, .int .i64 T.w, .int .i64 T.h, .int .i64 N, .slice pa pn pc] 37) = w6 := ⟨_, rfl⟩
      rw [hw6] at z5 K6 HX
      obtain ⟨m, hm⟩ : ∃ m, K.tmod 5 = m := ⟨_, rfl⟩
      have e0 := HX.out 0 _ rfl
      go_upto_block 2 with fail
      have SC6 := Lib.hid (HR.out.below HD.out K6.out)
      have PF : RowKit.Hid (wr.heap.size ∉ F ∧ wr.heap.size ≠ M ∧ wr.heap.size < w6.heap.size) := Lib.hid ⟨fun hm => by
        have := HD.out.lt HR.out.s _ hm
        omega, fun e => by
        have := HR.out.m.lt
        omega, by omega⟩
      have CL6 : RowKit.Hid (Cells w6 wr.heap.size [.int .i64 K, .int .i64 R.x, .int .i64 R.y, .int .i64 R.w, .int .i64 R.h, .int .i64 T.x, .int .i64 T.y, .int .i64 T.w, .int .i64 T.h, .int .i64 N, .slice pa pn pc]) := Lib.hid (fun j u hj => HX.out j u (by simpa using hj))
      generalize wr.heap.size = p0 at *
      clear HX K6 hw6 e0 z5 HR c0 c1 c2 c3 c4 c5 c6 c7 c8 c9 c10
      go_cut [14, 15] (fun ga gb wx => ∃ c X' Y' l' F' v', ga = .int .i64 c ∧ gb = .int .i64 c ∧ RowKit.Hid (Scene S W wx b M X' Y' l' F' v' ∧ Cells wx p0 [.int .i64 K, .int .i64 R.x, .int .i64 R.y, .int .i64 R.w, .int .i64 R.h, .int .i64 T.x, .int .i64 T.y, .int .i64 T.w, .int .i64 T.h, .int .i64 N, .slice pa pn pc] ∧ p0 < wx.heap.size))
      case first =>
        by_cases h0 : m = 0
        case pos =>
          subst h0
          clear hm
          have C1 := Lib.hid (HD.out.fill SC6.out.s R N HOK.out.r HOK.out.n)
          have IM := Lib.hid (HD.out.ok SC6.out.s)
          obtain ⟨va, vn, vc, rfl, _, _⟩ := SC6.out.row.read
          have C2 := Lib.hid (fun W7 (k : SI W7 (.slice va vn vc) l) (kb : Below W.heap.size W W7) => refFill_any X Y l (.slice va vn vc) R N W7 IM.out k)
          generalize fillS X Y R N l = l2 at *
          generalize fillE X Y R N = cc at *
          unfold ptr imgV Rc.v at *
          have e1 := CL6.out 1 _ rfl
          have e2 := CL6.out 2 _ rfl
          have e3 := CL6.out 3 _ rfl
          have e4 := CL6.out 4 _ rfl
          have e9 := CL6.out 9 _ rfl
          go_wp2_with fail
          refine C1.out.mono ?_
          rintro _ w7 ⟨rfl, F7, s7, t7, f7⟩
          have H7 := Lib.hid (Scene.half HD.out SC6.out s7 t7 f7)
          have CL7 := Lib.hid (CL6.out.touch t7 PF.out.2.2 PF.out.1)
          have HP7 : RowKit.Hid (p0 < w7.heap.size) := Lib.hid (Nat.lt_of_lt_of_le PF.out.2.2 t7.size)
          clear e1 e2 e3 e4 e9
          clear s7 t7 f7 C1
          have e1 := CL7.out 1 _ rfl
          have e2 := CL7.out 2 _ rfl
          have e3 := CL7.out 3 _ rfl
          have e4 := CL7.out 4 _ rfl
          have e9 := CL7.out 9 _ rfl
          obtain ⟨⟨x0, x1, x2⟩, _⟩ := H7.out.m.cells
          have D2 := Lib.hid (C2.out w7 H7.out.row H7.out.bel)
          clear C2
          go_wp2_with fail
          refine D2.out.mono ?_
          rintro _ w8 ⟨v8, rfl, s8, b8, n8⟩
          obtain ⟨va8, vn8, vc8, rfl, _, _⟩ := s8.read
          have SC8 := Lib.hid (Half.scene HD.out H7.out s8 b8 n8)
          have CL8 := Lib.hid (cells_store3 (CL7.out.below b8 HP7.out) PF.out.2.1 (.int .i64 X) (.int .i64 Y) (.slice va8 vn8 vc8))
          have HP8 : RowKit.Hid (p0 < w8.heap.size) := Lib.hid (Nat.lt_of_lt_of_le HP7.out b8.size)
          clear e1 e2 e3 e4 e9
          clear x0 x1 x2 D2
          obtain ⟨⟨x0, x1, x2⟩, fz⟩ := (H7.out.m.below b8 H7.out.m.lt).cells
          clear s8 b8 n8
          go_wp2_with fail
          go_meet
          exact ⟨cc, _, _, _, _, _, rfl, rfl, Lib.hid ⟨SC8.out, CL8.out, by simpa using HP8.out⟩⟩
        have g0 : (m == 0) = false := by simpa using h0
        by_cases h1 : m = 1
        case pos =>
          subst h1
          clear hm
          have OFF : 0 < P.length → Off (.slice pa pn pc) F := fun h0 k hk hm => by
            have h1 := HOK.out.row.lt h0 k hk
            have h2 := SC6.out.nf k hm
            omega
          have C1 := Lib.hid (HD.out.blit SC6.out.s R P (.slice pa pn pc) HOK.out.r (HOK.out.row.below SC6.out.bel) HOK.out.room OFF HOK.out.len)
          have IM := Lib.hid (HD.out.ok SC6.out.s)
          obtain ⟨va, vn, vc, rfl, _, _⟩ := SC6.out.row.read
          have C2 := Lib.hid (fun W7 (k : SI W7 (.slice va vn vc) l) (kb : Below W.heap.size W W7) => refBlit_any X Y l (.slice va vn vc) R P (.slice pa pn pc) W7 IM.out k (HOK.out.row.below kb) (Nat.le_trans HFIT.out.1 (by decide)))
          generalize blitS X Y R P l = l2 at *
          generalize blitE X Y R P = cc at *
          unfold ptr imgV Rc.v at *
          have e1 := CL6.out 1 _ rfl
          have e2 := CL6.out 2 _ rfl
          have e3 := CL6.out 3 _ rfl
          have e4 := CL6.out 4 _ rfl
          have e10 := CL6.out 10 _ rfl
          go_wp2_with fail
          refine C1.out.mono ?_
          rintro _ w7 ⟨rfl, F7, s7, t7, f7⟩
          have H7 := Lib.hid (Scene.half HD.out SC6.out s7 t7 f7)
          have CL7 := Lib.hid (CL6.out.touch t7 PF.out.2.2 PF.out.1)
          have HP7 : RowKit.Hid (p0 < w7.heap.size) := Lib.hid (Nat.lt_of_lt_of_le PF.out.2.2 t7.size)
          clear e1 e2 e3 e4 e10
          clear s7 t7 f7 C1
          have e1 := CL7.out 1 _ rfl
          have e2 := CL7.out 2 _ rfl
          have e3 := CL7.out 3 _ rfl
          have e4 := CL7.out 4 _ rfl
          have e10 := CL7.out 10 _ rfl
          obtain ⟨⟨x0, x1, x2⟩, _⟩ := H7.out.m.cells
          have D2 := Lib.hid (C2.out w7 H7.out.row H7.out.bel)
          clear C2
          go_wp2_with fail
          refine D2.out.mono ?_
          rintro _ w8 ⟨v8, rfl, s8, b8, n8⟩
          obtain ⟨va8, vn8, vc8, rfl, _, _⟩ := s8.read
          have SC8 := Lib.hid (Half.scene HD.out H7.out s8 b8 n8)
          have CL8 := Lib.hid (cells_store3 (CL7.out.below b8 HP7.out) PF.out.2.1 (.int .i64 X) (.int .i64 Y) (.slice va8 vn8 vc8))
          have HP8 : RowKit.Hid (p0 < w8.heap.size) := Lib.hid (Nat.lt_of_lt_of_le HP7.out b8.size)
          clear e1 e2 e3 e4 e10
          clear x0 x1 x2 D2
          obtain ⟨⟨x0, x1, x2⟩, fz⟩ := (H7.out.m.below b8 H7.out.m.lt).cells
          clear s8 b8 n8
          go_wp2_with fail
          go_meet
          exact ⟨cc, _, _, _, _, _, rfl, rfl, Lib.hid ⟨SC8.out, CL8.out, by simpa using HP8.out⟩⟩
        have g1 : (m == 1) = false := by simpa using h1
        by_cases h2 : m = 2
        case pos =>
          subst h2
          clear hm
          have C1 := Lib.hid (HD.out.move SC6.out.s R T HOK.out.r HOK.out.t)
          have IM := Lib.hid (HD.out.ok SC6.out.s)
          obtain ⟨va, vn, vc, rfl, _, _⟩ := SC6.out.row.read
          have C2 := Lib.hid (fun W7 (k : SI W7 (.slice va vn vc) l) (kb : Below W.heap.size W W7) => refMove_any X Y l (.slice va vn vc) R T W7 IM.out k)
          generalize moveS X Y R T l = l2 at *
          generalize moveE X Y R T = cc at *
          unfold ptr imgV Rc.v at *
          have e1 := CL6.out 1 _ rfl
          have e2 := CL6.out 2 _ rfl
          have e3 := CL6.out 3 _ rfl
          have e4 := CL6.out 4 _ rfl
          have e5 := CL6.out 5 _ rfl
          have e6 := CL6.out 6 _ rfl
          have e7 := CL6.out 7 _ rfl
          have e8 := CL6.out 8 _ rfl
          go_wp2_with fail
          refine C1.out.mono ?_
          rintro _ w7 ⟨rfl, F7, s7, t7, f7⟩
          have H7 := Lib.hid (Scene.half HD.out SC6.out s7 t7 f7)
          have CL7 := Lib.hid (CL6.out.touch t7 PF.out.2.2 PF.out.1)
          have HP7 : RowKit.Hid (p0 < w7.heap.size) := Lib.hid (Nat.lt_of_lt_of_le PF.out.2.2 t7.size)
          clear e1 e2 e3 e4 e5 e6 e7 e8
          clear s7 t7 f7 C1
          have e1 := CL7.out 1 _ rfl
          have e2 := CL7.out 2 _ rfl
          have e3 := CL7.out 3 _ rfl
          have e4 := CL7.out 4 _ rfl
          have e5 := CL7.out 5 _ rfl
          have e6 := CL7.out 6 _ rfl
          have e7 := CL7.out 7 _ rfl
          have e8 := CL7.out 8 _ rfl
          obtain ⟨⟨x0, x1, x2⟩, _⟩ := H7.out.m.cells
          have D2 := Lib.hid (C2.out w7 H7.out.row H7.out.bel)
          clear C2
          go_wp2_with fail
          refine D2.out.mono ?_
          rintro _ w8 ⟨v8, rfl, s8, b8, n8⟩
          obtain ⟨va8, vn8, vc8, rfl, _, _⟩ := s8.read
          have SC8 := Lib.hid (Half.scene HD.out H7.out s8 b8 n8)
          have CL8 := Lib.hid (cells_store3 (CL7.out.below b8 HP7.out) PF.out.2.1 (.int .i64 X) (.int .i64 Y) (.slice va8 vn8 vc8))
          have HP8 : RowKit.Hid (p0 < w8.heap.size) := Lib.hid (Nat.lt_of_lt_of_le HP7.out b8.size)
          clear e1 e2 e3 e4 e5 e6 e7 e8
          clear x0 x1 x2 D2
          obtain ⟨⟨x0, x1, x2⟩, fz⟩ := (H7.out.m.below b8 H7.out.m.lt).cells
          clear s8 b8 n8
          go_wp2_with fail
          go_meet
          exact ⟨cc, _, _, _, _, _, rfl, rfl, Lib.hid ⟨SC8.out, CL8.out, by simpa using HP8.out⟩⟩
        have g2 : (m == 2) = false := by simpa using h2
        by_cases h3 : m = 3
        case pos =>
          subst h3
          clear hm
          have C1 := Lib.hid (HD.out.resize SC6.out.s R.w R.h HOK.out.r.2.2.1 HOK.out.r.2.2.2)
          have IM := Lib.hid (HD.out.ok SC6.out.s)
          obtain ⟨va, vn, vc, rfl, _, _⟩ := SC6.out.row.read
          have C2 := Lib.hid (fun W7 (k : SI W7 (.slice va vn vc) l) (kb : Below W.heap.size W W7) => refResize_any X Y l (.slice va vn vc) R.w R.h W7 IM.out k)
          generalize resW R.w R.h X = X2 at *
          generalize resH R.w R.h Y = Y2 at *
          generalize resS X Y R.w R.h l = l2 at *
          generalize resE R.w R.h = cc at *
          unfold ptr imgV at *
          have e3 := CL6.out 3 _ rfl
          have e4 := CL6.out 4 _ rfl
          go_wp2_with fail
          refine C1.out.mono ?_
          rintro _ w7 ⟨rfl, F7, s7, t7, f7⟩
          have H7 := Lib.hid (Scene.half HD.out SC6.out s7 t7 f7)
          have CL7 := Lib.hid (CL6.out.touch t7 PF.out.2.2 PF.out.1)
          have HP7 : RowKit.Hid (p0 < w7.heap.size) := Lib.hid (Nat.lt_of_lt_of_le PF.out.2.2 t7.size)
          clear e3 e4
          clear s7 t7 f7 C1
          have e3 := CL7.out 3 _ rfl
          have e4 := CL7.out 4 _ rfl
          obtain ⟨⟨x0, x1, x2⟩, _⟩ := H7.out.m.cells
          have D2 := Lib.hid (C2.out w7 H7.out.row H7.out.bel)
          clear C2
          go_wp2_with fail
          refine D2.out.mono ?_
          rintro _ w8 ⟨v8, rfl, s8, b8, n8⟩
          obtain ⟨va8, vn8, vc8, rfl, _, _⟩ := s8.read
          have SC8 := Lib.hid (Half.scene HD.out H7.out s8 b8 n8)
          have CL8 := Lib.hid (cells_store3 (CL7.out.below b8 HP7.out) PF.out.2.1 (.int .i64 X2) (.int .i64 Y2) (.slice va8 vn8 vc8))
          have HP8 : RowKit.Hid (p0 < w8.heap.size) := Lib.hid (Nat.lt_of_lt_of_le HP7.out b8.size)
          clear e3 e4
          clear x0 x1 x2 D2
          obtain ⟨⟨x0, x1, x2⟩, fz⟩ := (H7.out.m.below b8 H7.out.m.lt).cells
          clear s8 b8 n8
          go_wp2_with fail
          go_meet
          exact ⟨cc, _, _, _, _, _, rfl, rfl, Lib.hid ⟨SC8.out, CL8.out, by simpa using HP8.out⟩⟩
        have g3 : (m == 3) = false := by simpa using h3
        by_cases h4 : m = 4
        case pos =>
          subst h4
          clear hm
          have C1 := Lib.hid (HD.out.part SC6.out.s R HOK.out.r)
          have IM := Lib.hid (HD.out.ok SC6.out.s)
          have LQ : RowKit.Hid ((partS X Y R l).length ≤ 1000000000) := Lib.hid (by
            have h1 := IM.out.bound
            unfold partS
            split
            · have h2 : (partL X R l).length ≤ l.length := partN_length X R l l.length
              omega
            · simp)
          obtain ⟨va, vn, vc, rfl, _, _⟩ := SC6.out.row.read
          have C2 := Lib.hid (fun W7 (k : SI W7 (.slice va vn vc) l) => refPart_any X Y l (.slice va vn vc) R W7 IM.out k)
          generalize partS X Y R l = q at *
          generalize partE X Y R = cc at *
          unfold ptr imgV Rc.v at *
          have e1 := CL6.out 1 _ rfl
          have e2 := CL6.out 2 _ rfl
          have e3 := CL6.out 3 _ rfl
          have e4 := CL6.out 4 _ rfl
          go_wp2_with fail
          refine C1.out.mono ?_
          rintro _ w7 ⟨u, rfl, iu, b7⟩
          have SC7 := Lib.hid (SC6.out.below HD.out b7)
          have CL7 := Lib.hid (CL6.out.below b7 PF.out.2.2)
          have HP7 : RowKit.Hid (p0 < w7.heap.size) := Lib.hid (Nat.lt_of_lt_of_le PF.out.2.2 b7.size)
          have SU7 := Lib.hid iu.si
          obtain ⟨ua, un, uc, rfl⟩ := shape4 iu
          clear e1 e2 e3 e4
          clear iu b7 C1
          have e1 := CL7.out 1 _ rfl
          have e2 := CL7.out 2 _ rfl
          have e3 := CL7.out 3 _ rfl
          have e4 := CL7.out 4 _ rfl
          obtain ⟨⟨x0, x1, x2⟩, _⟩ := SC7.out.m.cells
          have D2 := Lib.hid (C2.out w7 SC7.out.row)
          clear C2
          go_wp2_with fail
          refine D2.out.mono ?_
          rintro _ w8 ⟨v8, rfl, s8, b8, n8⟩
          have SC8 := Lib.hid (SC7.out.below HD.out b8)
          have CL8 := Lib.hid (CL7.out.below b8 HP7.out)
          have HP8 : RowKit.Hid (p0 < w8.heap.size) := Lib.hid (Nat.lt_of_lt_of_le HP7.out b8.size)
          have D3 := Lib.hid (refRow_any (.slice ua un uc) v8 q q w8 (SU7.out.below b8).sw s8.sw LQ.out LQ.out)
          rw [decide_eq_true (show q = q from rfl)] at D3
          obtain ⟨va8, vn8, vc8, rfl, _, _⟩ := s8.read
          clear e1 e2 e3 e4
          clear x0 x1 x2 D2 s8 b8 n8
          go_wp2_with fail
          refine D3.out.mono ?_
          rintro _ w9 ⟨rfl, n9, rfl⟩
          have SC9 := Lib.hid (SC8.out.below HD.out (below_q (Below.refl _ _) n9))
          have CL9 : RowKit.Hid (Cells (w8.drewN n9) p0 [.int .i64 K, .int .i64 R.x, .int .i64 R.y, .int .i64 R.w, .int .i64 R.h, .int .i64 T.x, .int .i64 T.y, .int .i64 T.w, .int .i64 T.h, .int .i64 N, .slice pa pn pc]) := Lib.hid CL8.out
          have HP9 : RowKit.Hid (p0 < (w8.drewN n9).heap.size) := Lib.hid HP8.out
          clear D3
          go_wp2_with fail
          go_meet
          exact ⟨0, _, _, _, _, _, rfl, rfl, Lib.hid ⟨SC9.out, CL9.out, HP9.out⟩⟩
        have g4 : (m == 4) = false := by simpa using h4
        go_wp2_with fail
        go_meet
        exact ⟨0, _, _, _, _, _, rfl, rfl, Lib.hid ⟨SC6.out, CL6.out, PF.out.2.2⟩⟩
      case rest =>
        obtain ⟨c, X2, Y2, l2, F2, v2, rfl, rfl, HS⟩ := hcut
        have SC := Lib.hid HS.out.1
        have CL := Lib.hid HS.out.2.1
        have HP := Lib.hid HS.out.2.2
        clear HS SC6 CL6 PF
        have C1 := Lib.hid (HD.out.size SC.out.s)
        have IM := Lib.hid (HD.out.ok SC.out.s)
        obtain ⟨va, vn, vc, rfl, _, _⟩ := SC.out.row.read
        unfold ptr at C1
        go_wp2_with fail
        refine C1.out.mono ?_
        rintro _ w7 ⟨rfl, b7⟩
        have SC7 := Lib.hid (SC.out.below HD.out (b7.trans (Below.refl _ w7).drew))
        have CL7 : RowKit.Hid (Cells w7.drew p0 [.int .i64 K, .int .i64 R.x, .int .i64 R.y, .int .i64 R.w, .int .i64 R.h, .int .i64 T.x, .int .i64 T.y, .int .i64 T.w, .int .i64 T.h, .int .i64 N, .slice pa pn pc]) := Lib.hid (CL.out.below b7.drew HP.out)
        have HP7 : RowKit.Hid (p0 < w7.drew.heap.size) := Lib.hid (Nat.lt_of_lt_of_le HP.out b7.size)
        clear b7 C1 SC CL HP
        have BD : RowKit.Hid (l2.length ≤ 1000000000) := Lib.hid (Nat.le_trans IM.out.bound (by decide : 16777216 ≤ 1000000000))
        have T5 := Lib.hid ((HD.out.image SC7.out.s).mono (fun e w' hh => (by
          obtain ⟨u, rfl, hu, hbl⟩ := hh
          have sc := SC7.out.below HD.out hbl
          obtain ⟨ua, un, uc, rfl⟩ := shape4 hu
          refine ⟨ua, un, uc, rfl, sc.m.cells.1, Lib.hid ⟨sc, CL7.out.below hbl HP7.out, Nat.lt_of_lt_of_le HP7.out hbl.size⟩, Lib.hid ?_⟩
          have hh := refSameImage_any X2 Y2 X2 Y2 (.slice ua un uc) (.slice va vn vc) l2 l2 w' hu.si sc.row BD.out BD.out
          rw [decide_eq_true (show X2 = X2 ∧ Y2 = Y2 ∧ l2 = l2 from ⟨rfl, rfl, rfl⟩)] at hh
          exact hh :
          ∃ ua un uc, e = .returned (imgV X2 Y2 (.slice ua un uc)) ∧ (w'.cell? ⟨M, 0, none⟩ = some (.int .i64 X2) ∧ w'.cell? ⟨M, 1, none⟩ = some (.int .i64 Y2) ∧ w'.cell? ⟨M, 2, none⟩ = some (.slice va vn vc)) ∧ Hid (Scene S W w' b M X2 Y2 l2 F2 (.slice va vn vc) ∧ Cells w' p0 [.int .i64 K, .int .i64 R.x, .int .i64 R.y, .int .i64 R.w, .int .i64 R.h, .int .i64 T.x, .int .i64 T.y, .int .i64 T.w, .int .i64 T.h, .int .i64 N, .slice pa pn pc] ∧ p0 < w'.heap.size) ∧
            Hid (Calls Try.prog 25 #[imgV X2 Y2 (.slice ua un uc), imgV X2 Y2 (.slice va vn vc)] w' fun e w2 => e = .returned (.bool true) ∧ Below w'.heap.size w' w2))))
        unfold ptr imgV at T5
        obtain ⟨⟨x0, x1, x2⟩, _⟩ := SC7.out.m.cells
        have SK : RowKit.Hid (∀ W1 W2, (Scene S W W1 b M X2 Y2 l2 F2 (.slice va vn vc) ∧ Cells W1 p0 [.int .i64 K, .int .i64 R.x, .int .i64 R.y, .int .i64 R.w, .int .i64 R.h, .int .i64 T.x, .int .i64 T.y, .int .i64 T.w, .int .i64 T.h, .int .i64 N, .slice pa pn pc] ∧ p0 < W1.heap.size) → Below W1.heap.size W1 W2 → (Scene S W W2 b M X2 Y2 l2 F2 (.slice va vn vc) ∧ Cells W2 p0 [.int .i64 K, .int .i64 R.x, .int .i64 R.y, .int .i64 R.w, .int .i64 R.h, .int .i64 T.x, .int .i64 T.y, .int .i64 T.w, .int .i64 T.h, .int .i64 N, .slice pa pn pc] ∧ p0 < W2.heap.size)) := Lib.hid (fun W1 W2 h k => ⟨h.1.below HD.out k, h.2.1.below k h.2.2, Nat.lt_of_lt_of_le h.2.2 k.size⟩)
        have PL := Lib.hid (fun W1 (h : Scene S W W1 b M X2 Y2 l2 F2 (.slice va vn vc) ∧ Cells W1 p0 [.int .i64 K, .int .i64 R.x, .int .i64 R.y, .int .i64 R.w, .int .i64 R.h, .int .i64 T.x, .int .i64 T.y, .int .i64 T.w, .int .i64 T.h, .int .i64 N, .slice pa pn pc] ∧ p0 < W1.heap.size) => HD.out.place h.1.s N T.y HOK.out.n HOK.out.t.2.1)
        have RA := Lib.hid (fun W1 (h : Scene S W W1 b M X2 Y2 l2 F2 (.slice va vn vc) ∧ Cells W1 p0 [.int .i64 K, .int .i64 R.x, .int .i64 R.y, .int .i64 R.w, .int .i64 R.h, .int .i64 T.x, .int .i64 T.y, .int .i64 T.w, .int .i64 T.h, .int .i64 N, .slice pa pn pc] ∧ p0 < W1.heap.size) => refAt_any X2 Y2 l2 (.slice va vn vc) N T.y W1 IM.out h.1.row)
        generalize atI X2 Y2 l2 N T.y = tv at *
        unfold ptr at PL
        unfold imgV at RA
        clear SC7 CL7 HP7
        go_wp2_with fail
        go_region_with (first
          | (refine T5.out.mono ?_; rintro e w8 ⟨ua, un, uc, rfl, ⟨y0, y1, y2⟩, SC8, D6⟩)
          | (refine D6.out.mono ?_; rintro e w9 ⟨rfl, b9⟩; have SC9 := Lib.hid (SK.out _ _ SC8.out b9); clear b9))
        all_goals
          clear x0 x1 x2 y0 y1 y2 T5 D6 SC8
          have SCE := SK.out _ _ SC9.out (Below.refl _ _).drew
          clear SC9
          go_wp2_with fail
          go_simp
          refine region_all (by kernel_rfl) (doV b M p0 c X2 Y2 N T.y tv (.slice va vn vc)) (fun W2 => Scene S W W2 b M X2 Y2 l2 F2 (.slice va vn vc) ∧ Cells W2 p0 [.int .i64 K, .int .i64 R.x, .int .i64 R.y, .int .i64 R.w, .int .i64 R.h, .int .i64 T.x, .int .i64 T.y, .int .i64 T.w, .int .i64 T.h, .int .i64 N, .slice pa pn pc] ∧ p0 < W2.heap.size) [9, 11, 13, 14, 15, 21, 22, 23] [none, none, none, none, none, none, none, none, none, none, none, none, none, none, none, none, none, none, none, none, none, none, none, none, none, none, none, none, none, none, none, none, none, none, none, none, none, none, none, none, none, none, none, none, none, none, none, none, none, none, none, none, none, none, none, none, none, none, none, none, none, none, none, none, none, none, none, none, none, none, none, none, none, none, none, none, none, none, none, none, none, none, none, none, none, none, none, none, none, none, none, none, none, none, none, none, none, none, none, none, none, none, none, none, none, none, none, none, none, none, none, none, none, none, none, none, none, none, none, none, none, none, none, none, none, none, none, none, none, none, none, none, none, none, none, none, none, none, none, none, none, none, none, none, none, none, none, none, none, none, none, none, none, none, none, none, none, none, none, none, none, none, none, none, none, none, none, none, none, none, none, none, none, none, none, none, none, none, none, none, none, none, none, none, none, some 0, some 1, some 2, some 3, some 4, some 5, some 6, some 7, some 8, some 9, some 10, some 11, some 12, some 13, some 14, some 15, some 16, some 17, some 18, some 19, some 20, some 21, some 22, some 23, some 24, some 25, some 26, some 27, some 28, some 29, some 30, some 31, some 32, some 33, some 34, some 35, none] (by kernel_rfl) (by kernel_rfl) (by rfl) (by kernel_rfl) (by kernel_rfl) (by kernel_rfl) SCE ⟨?_, ?_, ?_, ?_, ?_, ?_, ?_, ?_, ?_, ?_, ?_, ?_, ?_, ?_, ?_, ?_, ?_, ?_, ?_, ?_, ?_, ?_, ?_, ?_, ?_, ?_, ?_, ?_, ?_, ?_, ?_, ?_, ?_, ?_, ?_, ?_, trivial⟩ ?_
          case refine_37 =>
            intro w10 hS
            have SCF := Lib.hid hS.1
            clear hS SK PL RA SCE
            simp only [zipF, doV]
            go_wp2_with fail
            exact ⟨⟨k + 1, by omega, by go_num, _, _, _, _, _, SCF⟩, by simp [intOf]; omega⟩
          all_goals
            intro ℓ act W9 hl hS hw hr hd
            obtain ⟨⟨x0, x1, x2⟩, _⟩ := hS.1.m.cells
            have e9 := hS.2.1 9 _ rfl
            have e6 := hS.2.1 6 _ rfl
            clear hw
            simp [readFacts, depFacts, dstOf, Region.binds, doV] at hr hd
            refine ⟨by first | exact wanted_none (by rfl) | exact wanted_guard (by rfl) (by rfl) (by simp only [*]), fun K hK => ?_⟩
            go_simp
            first
            | (with_reducible refine (PL.out _ hS).mono ?_
               rintro r w' ⟨rfl, bb⟩
               exact hK _ (SK.out _ _ hS bb))
            | (with_reducible refine (RA.out _ hS).mono ?_
               rintro r w' ⟨rfl, bb⟩
               exact hK _ (SK.out _ _ hS bb))
            | exact hK _ hS
    · obtain rfl : k = len := by omega
      have B9 := Lib.hid HR.out.bel
      go_wp2_with fail
      go_ret
      exact ⟨rfl, B9.out⟩

set_option maxRecDepth 100000 in
theorem lifted (os : Os) (started : os.Started) (H : Type) (enc : TypeId × Value → H) :
    ReturnsInHanded {} Try.checked os 3 .any (Rows.screenDoesSpec.pre6 enc Try.prog Try.f3 Rows.screenDoesRow.domain false) (Rows.screenDoesSpec.post enc Try.prog Try.f3 false true false false) := by
  refine returnsInHanded_of_change (C := Try.checked) own started (by kernel_rfl) Try.func3
    (ChangeSpec.witness6 (enc := enc) (C := Try.checked) false ⟨#[], #[.int .i64 0, .int .i64 0, .slice none 0 0], []⟩ 8 (by kernel_rfl) (by kernel_rfl) (by kernel_rfl) (by kernel_rfl)) ?_
  intro W base args ds gs before hval0 hW hcnd _
  have hval : ∀ (j : Nat) t v, Try.f3.params[j]? = some t → args[j]? = some v → Value.okWide Try.prog W .any base t v := hval0
  have hW' := hW
  obtain ⟨p, q, hA0, hV, rfl, hfz, hnd⟩ := hW
  have hA : DataW.TrodAll enc Try.prog W 0 (fun _ => true) true Try.f3.params.toList args.toList ds p := hA0
  rw [Try.params3] at hA hval
  obtain ⟨v0, vs0, d0, ds0, p0, q0, hargs, rfl, rfl, h0, r0⟩ := trodAll_cons hA
  obtain ⟨v1, vs1, d1, ds1, p1, q1, rfl, rfl, rfl, h1, r1⟩ := trodAll_cons r0
  obtain ⟨v2, vs2, d2, ds2, p2, q2, rfl, rfl, rfl, h2, r2⟩ := trodAll_cons r1
  obtain ⟨rfl, rfl, rfl⟩ := trodAll_nil r2
  obtain rfl : args = #[v0, v1, v2] := by cases args; simp_all
  obtain ⟨rfl, rfl⟩ := trodVars_none hV
  have k0 := h0
  have lt0 : ∀ x ∈ p0, x.block < W.heap.size := by obtain ⟨m, hm⟩ := k0; exact DataW.trod_lt m _ _ _ hm
  obtain ⟨a0, rfl, rfl, rfl, w0⟩ := open_int Try.underlying3 (hval 0 3 v0 rfl rfl) h0
  have k1 := h1
  have lt1 : ∀ x ∈ p1, x.block < W.heap.size := by obtain ⟨m, hm⟩ := k1; exact DataW.trod_lt m _ _ _ hm
  obtain ⟨a1, rfl, rfl, rfl, w1⟩ := open_int Try.underlying3 (hval 1 3 v1 rfl rfl) h1
  have k2 := h2
  have lt2 : ∀ x ∈ p2, x.block < W.heap.size := by obtain ⟨m, hm⟩ := k2; exact DataW.trod_lt m _ _ _ hm
  obtain ⟨a2, len2, cap2, rfl⟩ := okWide_slice Try.underlying22 (hval 2 22 v2 rfl rfl)
  obtain ⟨A2, w2⟩ := acts_see h2
  clear hA0 hval0
  refine (walk says a0 a1 a2 len2 cap2 A2 w0 w1 W w2).mono fun e W' ⟨he, bel⟩ => ?_
  subst he
  exact ⟨_, rfl, _, _, _, [], _, [], hW', trodAll_mk1 (shut_bool Try.underlying4 _), (trodAll_cons_mk (Below.trod laidOut (by kernel_rfl) (of_decide_eq_true (by kernel_rfl)) k0 bel lt0) (trodAll_cons_mk (Below.trod laidOut (by kernel_rfl) (of_decide_eq_true (by kernel_rfl)) k1 bel lt1) (trodAll_cons_mk (Below.trod laidOut (by kernel_rfl) (of_decide_eq_true (by kernel_rfl)) k2 bel lt2) trodAll_mk0))), rfl, bel.frame _, fun h => by cases h⟩

theorem over : Rows.screenDoesRow.holds Try.pinned (OpenSpec.ofChange Rows.screenDoesSpec) :=
  OpenClaim.holds_of_wide 3 Try.f3 rfl rfl rfl rfl rfl rfl rfl ⟨rfl, rfl, rfl, rfl, rfl⟩ rfl rfl rfl rfl rfl (by kernel_rfl) Try.func3 (by kernel_rfl)
    (of_decide_eq_true (by kernel_rfl)) (by unfold Func.isWrapper; first | (rw [if_pos (by decide +kernel)]; kernel_rfl) | (rw [if_neg (by decide +kernel)]; exact ⟨rfl, rfl⟩))
    (fun os started H enc _ => lifted os started H enc)

theorem proved : Rows.ScreenDoesSaid := over
end Go.Proofs.Ytlamdgdegmjljaa.screenDoes
