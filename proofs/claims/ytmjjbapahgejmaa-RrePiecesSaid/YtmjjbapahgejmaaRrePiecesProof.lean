/-
  RrePieces (layer 17): which value comes most often, and which pieces there are, is just what the document says.
-/
import Derived.Test.YtmjjbapahgejmaaRows
import Derived.Test.YtmjjbapahgejmaaRreProg
import Derived.Test.YtmjjbapahgejmaaRreWks
import Derived.Test.YtmjjbapahgejmaaRreRefF
import Derived.WalkKit
import Derived.ProofKit
import Derived.OpenShut
import Derived.ShutString
import Derived.ChangeOld
import Derived.Below
import Derived.Lib.SmallJoins
import Derived.Deep.Slices
namespace Go.Proofs.Ytmjjbapahgejmaa.rrePieces
open Go.Proofs.Ytmjjbapahgejmaa.Rre
open Go.ChangeShapes Go.WideShapes Go.ChangeAt Go.RowKit
open Go.ChangeMaps (open_string shut_string)
set_option linter.unusedVariables false

theorem own : ownKnob Try.prog.godebug = none := by kernel_rfl
theorem laidOut : laidOutB Try.prog = true := by kernel_rfl

open Go.Proofs.Ytmjjbapahgejmaa.RowG Go.Proofs.Ytmjjbapahgejmaa.RegVal Go.Proofs.Ytmjjbapahgejmaa.Lz Go.Proofs.Ytmjjbapahgejmaa.Pln
set_option maxRecDepth 100000
theorem piecesL_length (x y : Int) (L : List Int) (g : Int) : (piecesL x y L g).length ≤ L.length := by
  unfold piecesL
  split
  · exact Nat.zero_le _
  · rename_i h
    have h1 := pieces_length x.toNat y.toNat L g
    have h2 : (L.length : Int) = x * y := by omega
    have h3 : ((x.toNat * y.toNat : Nat) : Int) = x * y := by rw [Int.natCast_mul, Int.toNat_of_nonneg (by omega), Int.toNat_of_nonneg (by omega)]
    omega
def rpV (u v p1 p2 q1 q2 : Value) (k : Int) (p : Pc) : Nat → Value
  | 0 => u
  | 1 => .int .i64 k
  | 2 => p1
  | 3 => p1
  | 4 => .int .i64 p.v
  | 5 => v
  | 6 => .int .i64 k
  | 7 => p2
  | 8 => p2
  | 9 => .int .i64 p.v
  | 10 => .bool false
  | 11 => .bool false
  | 12 => u
  | 13 => .int .i64 k
  | 14 => p1
  | 15 => q1
  | 16 => .agg #[.int .i64 p.x, .int .i64 p.y, .int .i64 p.n, .int .i64 p.m]
  | 17 => v
  | 18 => .int .i64 k
  | 19 => p2
  | 20 => q2
  | 21 => .agg #[.int .i64 p.x, .int .i64 p.y, .int .i64 p.n, .int .i64 p.m]
  | _ => .bool false
set_option maxHeartbeats 4000000 in
theorem walk (D : Says) (x y : Int) (a : Option Addr) (n cap : Nat) (L : List Int) (g : Int) (W : World) (hx : (Lit.int .i64 x).wf = true) (hy : (Lit.int .i64 y).wf = true) (hL : SW W (.slice a n cap) L ∧ L.length ≤ maxLen ∧ L.length = n ∧ (∀ x ∈ L, (Lit.int .i64 x).wf = true) ∧ Room (.slice a n cap)) (hg : (Lit.int .i64 g).wf = true) :
    Calls Try.prog 3 #[.int .i64 x, .int .i64 y, .slice a n cap, .int .i64 g] W fun e w' => e = .returned (.bool true) ∧ Below W.heap.size W w' := by
  obtain ⟨hsw, _, hn, hwf, _⟩ := hL
  have V0 := Lib.hid (works_any D W)
  have HSW := Lib.hid hsw
  have hsx : Side x := wf_bd hx
  have hsy : Side y := wf_bd hy
  have hsg : Side g := wf_bd hg
  clear hsw hx hy hg
  go_enter Try.func3, Try.ntmps3
  go_wp2_with fail
  refine V0.out.mono ?_
  rintro r w1 ⟨rfl, b1⟩
  have HB1 := Lib.hid b1
  have HS1 := Lib.hid (HSW.out.below b1)
  clear b1 V0
  by_cases hbig : 200 < n
  · have d1 : decide ((200 : Int) < (n : Int)) = true := decide_eq_true (by omega)
    have d2 : decide (200 < n) = true := decide_eq_true hbig
    go_wp2_with fail
    go_ret
    exact ⟨rfl, HB1.out⟩
  have d1 : decide ((200 : Int) < (n : Int)) = false := decide_eq_false (by omega)
  have d2 : decide (200 < n) = false := decide_eq_false hbig
  have V1 := Lib.hid (fun w h => D.pieces x y L (.slice a n cap) g hsx hsy hsg hwf (by omega) w h)
  have V2 := Lib.hid (fun w h => refPieces_any x y L (.slice a n cap) g w h (by omega) hsx hsy)
  have V3 := Lib.hid (fun w h => D.ground L (.slice a n cap) hwf (by omega) w h)
  have V4 := Lib.hid (fun w h => refGround_any L (.slice a n cap) w h (by omega))
  clear hsx hsy hsg
  have hPS : (piecesL x y L g).length ≤ 200 := by have := piecesL_length x y L g; omega
  generalize piecesL x y L g = PS at *
  generalize groundL L = G at *
  go_wp2_with fail
  refine (V1.out _ HS1.out).mono ?_
  rintro r w2 ⟨u, rfl, hu, b2⟩
  have HB2 := Lib.hid (HB1.out.trans (b2.mono HB1.out.size))
  have HS2 := Lib.hid (HS1.out.below b2)
  have HU := Lib.hid hu
  obtain ⟨ua, ucap, rfl, _⟩ := SP.cells hu
  clear b2 hu V1 HB1 HS1
  go_wp2_with fail
  refine (V2.out _ HS2.out).mono ?_
  rintro r w3 ⟨v, rfl, hv, b3⟩
  have HB3 := Lib.hid (HB2.out.trans (b3.mono HB2.out.size))
  have HS3 := Lib.hid (HS2.out.below b3)
  have HU3 := Lib.hid (SP.below HU.out b3)
  have HV3 := Lib.hid (PcsAt.sp hv)
  obtain ⟨va, vcap, rfl⟩ := RowAt.shape hv
  clear b3 hv V2 HB2 HS2 HU
  have e1 : decide ((PS.length : Int) = (PS.length : Int)) = true := decide_eq_true rfl
  have e2 : ((PS.length : Int) != (PS.length : Int)) = false := by simp
  have e3 : ((PS.length : Int) == (PS.length : Int)) = true := by simp
  obtain ⟨ua', un, uc', e', hul, hurd⟩ := HU3.out.read
  simp only [Value.slice.injEq] at e'
  obtain ⟨rfl, rfl, rfl⟩ := e'
  obtain ⟨va', vn, vc', e', hvl, hvrd⟩ := HV3.out.read
  simp only [Value.slice.injEq] at e'
  obtain ⟨rfl, rfl, rfl⟩ := e'
  have HRU := Lib.hid hurd
  have HRV := Lib.hid hvrd
  clear hurd hvrd hul hvl HU3 HV3
  go_wp2_with fail
  go_loopw [12] (fun vi wr => ∃ k : Nat, k ≤ PS.length ∧ vi = .int .i64 k ∧ Below w3.heap.size w3 wr) (fun vi _ => PS.length - (intOf vi).toNat)
  case atStart => exact ⟨0, Nat.zero_le _, rfl, Below.refl _ _⟩
  case round =>
    obtain ⟨k, hk, rfl, hbr⟩ := hrel
    have HBR := Lib.hid hbr
    by_cases hlk : k < PS.length
    · have dk : decide ((k : Int) < (PS.length : Int)) = true := decide_eq_true (by omega)
      obtain ⟨p, hp⟩ : ∃ p, PS[k]? = some p := ⟨PS[k], List.getElem?_eq_getElem hlk⟩
      obtain ⟨g1, o1, rfl, hc1⟩ := HRU.out _ hbr (by omega)
      obtain ⟨g2, o2, rfl, hc2⟩ := HRV.out _ hbr (by omega)
      have HC := Lib.hid (And.intro (hc1 k p hp) (hc2 k p hp))
      have HLT := Lib.hid (And.intro (show g1 < wr.heap.size from World.block_lt_of_cell? wr _ (hc1 k p hp).1) (show g2 < wr.heap.size from World.block_lt_of_cell? wr _ (hc2 k p hp).1))
      have hkn : k < PS.length := hlk
      have hki : (k : Int) < (PS.length : Int) := by omega
      clear hbr hc1 hc2
      go_wp2_with fail
      refine region_all (by kernel_rfl) (rpV (.slice (some ⟨g1, o1, none⟩) PS.length ucap) (.slice (some ⟨g2, o2, none⟩) PS.length vcap) (.pointer (some ⟨g1, o1 + k * 5, none⟩)) (.pointer (some ⟨g2, o2 + k * 5, none⟩)) (.pointer (some ⟨g1, o1 + k * 5 + 1, none⟩)) (.pointer (some ⟨g2, o2 + k * 5 + 1, none⟩)) k p) (fun W => Below wr.heap.size wr W) [10, 11, 12] [none, none, none, none, none, none, none, none, none, none, none, none, none, none, none, none, none, none, none, none, none, none, none, none, none, none, none, none, none, none, none, none, none, none, none, none, none, none, none, none, none, some 0, some 1, some 2, some 3, some 4, some 5, some 6, some 7, some 8, some 9, some 10, some 11, some 12, some 13, some 14, some 15, some 16, some 17, some 18, some 19, some 20, some 21, some 22, some 23, none, none, none, none, none, none, none, none] (by kernel_rfl) (by kernel_rfl) (by rfl) (by kernel_rfl) (by kernel_rfl) (by kernel_rfl) (Below.refl _ _).drew ⟨?_, ?_, ?_, ?_, ?_, ?_, ?_, ?_, ?_, ?_, ?_, ?_, ?_, ?_, ?_, ?_, ?_, ?_, ?_, ?_, ?_, ?_, ?_, ?_, trivial⟩ ?_
      case refine_25 =>
        intro W' hS
        have HB' := Lib.hid (HBR.out.trans (hS.mono HBR.out.size))
        clear hS
        simp only [zipF, rpV]
        go_wp2_with fail
        exact ⟨⟨k + 1, by omega, by go_num, HB'.out⟩, by simp [intOf]; omega⟩
      all_goals
        intro ℓ act Wd hl hS hw hr hd
        obtain ⟨⟨c0, c1, c2, c3, c4⟩, ⟨k0, k1, k2, k3, k4⟩⟩ : PcAt Wd g1 (o1 + k * 5) p ∧ PcAt Wd g2 (o2 + k * 5) p := ⟨PcAt.below HC.out.1 hS HLT.out.1, PcAt.below HC.out.2 hS HLT.out.2⟩
        clear hw
        simp [readFacts, depFacts, dstOf, Region.binds, rpV] at hr hd
        refine ⟨by first | exact wanted_none (by rfl) | exact wanted_guard (by rfl) (by rfl) (by simp only [*]), fun K hK => ?_⟩
        go_simp
        exact hK _ hS
    · obtain rfl : k = PS.length := by omega
      have dk : decide ((PS.length : Int) < (PS.length : Int)) = false := decide_eq_false (by omega)
      have HSr := Lib.hid (HS3.out.below hbr)
      have HBr := Lib.hid (HB3.out.trans (hbr.mono HB3.out.size))
      clear hbr
      have e4 : decide (G = G) = true := decide_eq_true rfl
      go_wp2_with fail
      refine (V3.out _ HSr.out).mono ?_
      rintro r w4 ⟨rfl, b4⟩
      have HS4 := Lib.hid (HSr.out.below b4)
      have HB4 := Lib.hid (HBr.out.trans (b4.mono HBr.out.size))
      clear b4
      go_wp2_with fail
      refine (V4.out _ HS4.out).mono ?_
      rintro r w5 ⟨rfl, b5⟩
      have HB5 := Lib.hid (HB4.out.trans (b5.mono HB4.out.size))
      clear b5
      go_wp2_with fail
      go_ret
      exact ⟨rfl, HB5.out⟩

set_option maxRecDepth 100000 in
theorem lifted (os : Os) (started : os.Started) (H : Type) (enc : TypeId × Value → H) :
    ReturnsInHanded {} Try.checked os 3 .any (Rows.rrePiecesSpec.pre6 enc Try.prog Try.f3 Rows.rrePiecesRow.domain false) (Rows.rrePiecesSpec.post enc Try.prog Try.f3 false true false false) := by
  refine returnsInHanded_of_change (C := Try.checked) own started (by kernel_rfl) Try.func3
    (ChangeSpec.witness6 (enc := enc) (C := Try.checked) false ⟨#[], #[.int .i64 0, .int .i64 0, .slice none 0 0, .int .i64 0], []⟩ 8 (by kernel_rfl) (by kernel_rfl) (by kernel_rfl) (by kernel_rfl)) ?_
  intro W base args ds gs before hval0 hW hcnd _
  have hval : ∀ (j : Nat) t v, Try.f3.params[j]? = some t → args[j]? = some v → Value.okWide Try.prog W .any base t v := hval0
  have hW' := hW
  obtain ⟨p, q, hA0, hV, rfl, hfz, hnd⟩ := hW
  have hA : DataW.TrodAll enc Try.prog W 0 (fun _ => true) true Try.f3.params.toList args.toList ds p := hA0
  rw [Try.params3] at hA hval
  obtain ⟨v0, vs0, d0, ds0, p0, q0, hargs, rfl, rfl, h0, r0⟩ := trodAll_cons hA
  obtain ⟨v1, vs1, d1, ds1, p1, q1, rfl, rfl, rfl, h1, r1⟩ := trodAll_cons r0
  obtain ⟨v2, vs2, d2, ds2, p2, q2, rfl, rfl, rfl, h2, r2⟩ := trodAll_cons r1
  obtain ⟨v3, vs3, d3, ds3, p3, q3, rfl, rfl, rfl, h3, r3⟩ := trodAll_cons r2
  obtain ⟨rfl, rfl, rfl⟩ := trodAll_nil r3
  obtain rfl : args = #[v0, v1, v2, v3] := by cases args; simp_all
  obtain ⟨rfl, rfl⟩ := trodVars_none hV
  have k0 := h0
  have lt0 : ∀ x ∈ p0, x.block < W.heap.size := by obtain ⟨m, hm⟩ := k0; exact DataW.trod_lt m _ _ _ hm
  obtain ⟨a0, rfl, rfl, rfl, w0⟩ := open_int Try.underlying3 (hval 0 3 v0 rfl rfl) h0
  have k1 := h1
  have lt1 : ∀ x ∈ p1, x.block < W.heap.size := by obtain ⟨m, hm⟩ := k1; exact DataW.trod_lt m _ _ _ hm
  obtain ⟨a1, rfl, rfl, rfl, w1⟩ := open_int Try.underlying3 (hval 1 3 v1 rfl rfl) h1
  have k2 := h2
  have lt2 : ∀ x ∈ p2, x.block < W.heap.size := by obtain ⟨m, hm⟩ := k2; exact DataW.trod_lt m _ _ _ hm
  obtain ⟨a2, len2, cap2, rfl⟩ := okWide_slice Try.underlying22 (hval 2 22 v2 rfl rfl)
  obtain ⟨A2, w2⟩ := ints_si h2
  have k3 := h3
  have lt3 : ∀ x ∈ p3, x.block < W.heap.size := by obtain ⟨m, hm⟩ := k3; exact DataW.trod_lt m _ _ _ hm
  obtain ⟨a3, rfl, rfl, rfl, w3⟩ := open_int Try.underlying3 (hval 3 3 v3 rfl rfl) h3
  clear hA0 hval0
  refine (walk says a0 a1 a2 len2 cap2 A2 a3 W w0 w1 w2 w3).mono fun e W' ⟨he, bel⟩ => ?_
  subst he
  exact ⟨_, rfl, _, _, _, [], _, [], hW', trodAll_mk1 (shut_bool Try.underlying4 _), (trodAll_cons_mk (Below.trod laidOut (by kernel_rfl) (of_decide_eq_true (by kernel_rfl)) k0 bel lt0) (trodAll_cons_mk (Below.trod laidOut (by kernel_rfl) (of_decide_eq_true (by kernel_rfl)) k1 bel lt1) (trodAll_cons_mk (Below.trod laidOut (by kernel_rfl) (of_decide_eq_true (by kernel_rfl)) k2 bel lt2) (trodAll_cons_mk (Below.trod laidOut (by kernel_rfl) (of_decide_eq_true (by kernel_rfl)) k3 bel lt3) trodAll_mk0)))), rfl, bel.frame _, fun h => by cases h⟩

theorem over : Rows.rrePiecesRow.holds Try.pinned (OpenSpec.ofChange Rows.rrePiecesSpec) :=
  OpenClaim.holds_of_wide 3 Try.f3 rfl rfl rfl rfl rfl rfl rfl ⟨rfl, rfl, rfl, rfl, rfl⟩ rfl rfl rfl rfl rfl (by kernel_rfl) Try.func3 (by kernel_rfl)
    (of_decide_eq_true (by kernel_rfl)) (by unfold Func.isWrapper; first | (rw [if_pos (by decide +kernel)]; kernel_rfl) | (rw [if_neg (by decide +kernel)]; exact ⟨rfl, rfl⟩))
    (fun os started H enc _ => lifted os started H enc)

theorem proved : Rows.RrePiecesSaid := over
end Go.Proofs.Ytmjjbapahgejmaa.rrePieces
