/-
  RreDecodes (layer 17): the rectangle of any bytes, or what is wrong, is just what the document says.
-/
import Derived.Test.YtmjjbapahgejmaaRows
import Derived.Test.YtmjjbapahgejmaaRreProg
import Derived.Test.YtmjjbapahgejmaaRreWks
import Derived.Test.YtmjjbapahgejmaaRreRefF
import Derived.Test.YtmjjbapahgejmaaRreFew
import Derived.Test.YtmjjbapahgejmaaAllFmtM
import Derived.WalkKit
import Derived.ProofKit
import Derived.OpenShut
import Derived.ShutString
import Derived.ChangeOld
import Derived.Below
import Derived.Lib.SmallJoins
import Derived.Deep.Slices
namespace Go.Proofs.Ytmjjbapahgejmaa.rreDecodes
open Go.Proofs.Ytmjjbapahgejmaa.Fmt
open Go.Proofs.Ytmjjbapahgejmaa.Rre
open Go.ChangeShapes Go.WideShapes Go.ChangeAt Go.RowKit
open Go.ChangeMaps (open_string shut_string)
set_option linter.unusedVariables false

theorem own : ownKnob Try.prog.godebug = none := by kernel_rfl
theorem laidOut : laidOutB Try.prog = true := by kernel_rfl

open Go.Proofs.Ytmjjbapahgejmaa.RowG Go.Proofs.Ytmjjbapahgejmaa.RegVal Go.Proofs.Ytmjjbapahgejmaa.Lz Go.Proofs.Ytmjjbapahgejmaa.Pln
open Go.Proofs.Ytmjjbapahgejmaa.Fmt (Fm FmAt fmt_see)
set_option maxRecDepth 100000
set_option maxHeartbeats 4000000 in
theorem walk (D : Says) (f : Fm) (x y : Int) (s : ByteArray) (W : World) (hf : f.Wf) (hx : (Lit.int .i64 x).wf = true) (hy : (Lit.int .i64 y).wf = true) (hs : s.size ≤ maxLen) :
    Calls Try.prog 5 #[f.v, .int .i64 x, .int .i64 y, .string s] W fun e w' => e = .returned (.bool true) ∧ Below W.heap.size W w' := by
  unfold maxLen at hs
  have V0 := Lib.hid (fun w => works_any D w)
  have hsx : Side x := wf_bd hx
  have hsy : Side y := wf_bd hy
  have AT := FmAt.box f W 37
  have bel := (Below.refl W.heap.size W).alloc (Nat.le_refl _) (.cells #[.int .i64 f.B, .int .i64 f.D, .bool f.big, .bool f.tr, .int .i64 f.rm, .int .i64 f.gm, .int .i64 f.bm, .int .i64 f.rs, .int .i64 f.gs, .int .i64 f.bs] 37)
  have hsz := Pln.alloc_size W (.cells #[.int .i64 f.B, .int .i64 f.D, .bool f.big, .bool f.tr, .int .i64 f.rm, .int .i64 f.gm, .int .i64 f.bm, .int .i64 f.rs, .int .i64 f.gs, .int .i64 f.bs] 37)
  obtain ⟨w1, hw1⟩ : ∃ w1, W.alloc (.cells #[.int .i64 f.B, .int .i64 f.D, .bool f.big, .bool f.tr, .int .i64 f.rm, .int .i64 f.gm, .int .i64 f.bm, .int .i64 f.rs, .int .i64 f.gs, .int .i64 f.bs] 37) = w1 := ⟨_, rfl⟩
  rw [hw1] at AT bel hsz
  have HA := Lib.hid (fun W' (hW : Below w1.heap.size w1 W') => AT.below hW (by omega))
  have BEL := Lib.hid bel
  have hle : W.heap.size ≤ w1.heap.size := bel.size
  have HF : f.v = .agg #[.int .i64 f.B, .int .i64 f.D, .bool f.big, .bool f.tr, .int .i64 f.rm, .int .i64 f.gm, .int .i64 f.bm, .int .i64 f.rs, .int .i64 f.gs, .int .i64 f.bs] := rfl
  have FT := Lib.hid (fun w => refFits_any f hf x y w)
  have FW := Lib.hid (fun w => few_any x y w)
  have V1 := Lib.hid (fun (hb : s.size ≤ 600) (hq : fitsB f x y = true → fewB x y = true) w => D.decode f hf x y s hsx hsy (fun h => by have := few_iff.1 (hq h); omega) (by omega) w)
  have V2 := Lib.hid (fun (hb : s.size ≤ 600) (hq : fitsB f x y = true → fewB x y = true) w => refDecode_any f hf x y s (fun h => by have := few_iff.1 (hq h); omega) (by omega) w hsx hsy)
  have HLN := Lib.hid (fun (hq : fitsB f x y = true → fewB x y = true) => decOut_length (f := f) (a := x) (b := y) (t := s) (fun h => by have := few_iff.1 (hq h); omega))
  rw [HF] at FT V1 V2 ⊢
  generalize decOut f x y s = O at *
  obtain ⟨b1, hb1⟩ : ∃ b1, fitsB f x y = b1 := ⟨_, rfl⟩
  obtain ⟨b2, hb2⟩ : ∃ b2, fewB x y = b2 := ⟨_, rfl⟩
  rw [hb1] at FT V1 V2 HLN
  rw [hb2] at FW V1 V2 HLN
  clear hx hy hsx hsy AT bel hsz HF hf hb1 hb2
  go_enter Try.func5, Try.ntmps5
  go_wp2_with fail
  refine (V0.out _).mono ?_
  rintro r w2 ⟨rfl, bb⟩
  have HB2 := Lib.hid bb
  clear bb V0
  by_cases hbig : 600 < s.size
  · have d1 : decide ((600 : Int) < (s.size : Int)) = true := decide_eq_true (by omega)
    have d2 : decide (600 < s.size) = true := decide_eq_true hbig
    clear V1 V2
    go_wp2_with fail
    go_ret
    exact ⟨rfl, BEL.out.trans (HB2.out.mono hle)⟩
  have d1 : decide ((600 : Int) < (s.size : Int)) = false := decide_eq_false (by omega)
  have d2 : decide (600 < s.size) = false := decide_eq_false hbig
  have V3 := Lib.hid (V1.out (by omega))
  have V4 := Lib.hid (V2.out (by omega))
  obtain ⟨a0, a1, a2, a3, a4, a5, a6, a7, a8, a9⟩ := HA.out w2 HB2.out
  clear V1 V2
  go_wp2_with fail
  refine (FT.out w2).mono ?_
  rintro r w3 ⟨rfl, bb⟩
  have HB3 := Lib.hid (HB2.out.trans (bb.mono HB2.out.size))
  clear bb FT a0 a1 a2 a3 a4 a5 a6 a7 a8 a9
  obtain ⟨a0, a1, a2, a3, a4, a5, a6, a7, a8, a9⟩ := HA.out w3 HB3.out
  by_cases hq : b1 = true → b2 = true
  case neg =>
    obtain rfl : b1 = true := by cases b1 <;> simp_all
    obtain rfl : b2 = false := by cases b2 <;> simp_all
    clear V3 V4 HLN
    go_wp2_with fail
    refine (FW.out w3).mono ?_
    rintro r w4 ⟨rfl, rfl⟩
    go_wp2_with fail
    go_ret
    exact ⟨rfl, BEL.out.trans (HB3.out.mono hle)⟩
  have V5 := Lib.hid (V3.out hq)
  have V6 := Lib.hid (V4.out hq)
  have hlen := HLN.out hq
  have RW := Lib.hid (fun u v w (hu : SI w u O.l) (hv : SI w v O.l) => refRow_any u v O.l O.l w hu.sw hv.sw (by omega) (by omega))
  rw [show decide (O.l = O.l) = true from decide_eq_true rfl] at RW
  obtain ⟨OL, OI, OE⟩ := O
  dsimp only at V5 V6 RW
  clear V3 V4 HLN hlen
  have tail : ∀ (w4 : World) (h4 : Below w1.heap.size w1 w4), True := fun _ _ => trivial
  cases b1 with
  | false =>
    go_wp2_with fail
    refine (V5.out w3).mono ?_
    rintro r w4 ⟨u, rfl, hu, bb⟩
    have HB4 := Lib.hid (HB3.out.trans (bb.mono HB3.out.size))
    have HU := Lib.hid hu
    obtain ⟨ua, uc, rfl⟩ := SI.form hu
    clear bb hu V5 a0 a1 a2 a3 a4 a5 a6 a7 a8 a9
    obtain ⟨a0, a1, a2, a3, a4, a5, a6, a7, a8, a9⟩ := HA.out w4 HB4.out
    go_wp2_with fail
    refine (V6.out w4).mono ?_
    rintro r w5 ⟨v, rfl, hv, bb⟩
    have HB5 := Lib.hid (HB4.out.trans (bb.mono HB4.out.size))
    have HU5 := Lib.hid (HU.out.below bb)
    have HV := Lib.hid hv
    obtain ⟨va, vc, rfl⟩ := SI.form hv
    clear bb hv V6 HU a0 a1 a2 a3 a4 a5 a6 a7 a8 a9
    go_wp2_with fail
    refine (RW.out _ _ w5 HU5.out HV.out).mono ?_
    rintro r w6 ⟨rfl, q, rfl⟩
    have HB6 := Lib.hid (Pln.below_q HB5.out q)
    clear RW HU5 HV
    generalize w5.drewN q = w6 at *
    have e1 : decide (OI = OI) = true := decide_eq_true rfl
    have e2 : decide (OE = OE) = true := decide_eq_true rfl
    go_wp2_with fail
    go_ret
    exact ⟨rfl, BEL.out.trans (HB6.out.mono hle)⟩
  | true =>
    obtain rfl : b2 = true := hq rfl
    go_wp2_with fail
    refine (FW.out w3).mono ?_
    rintro r w4 ⟨rfl, rfl⟩
    go_wp2_with fail
    refine (V5.out w3).mono ?_
    rintro r w4 ⟨u, rfl, hu, bb⟩
    have HB4 := Lib.hid (HB3.out.trans (bb.mono HB3.out.size))
    have HU := Lib.hid hu
    obtain ⟨ua, uc, rfl⟩ := SI.form hu
    clear bb hu V5 a0 a1 a2 a3 a4 a5 a6 a7 a8 a9
    obtain ⟨a0, a1, a2, a3, a4, a5, a6, a7, a8, a9⟩ := HA.out w4 HB4.out
    go_wp2_with fail
    refine (V6.out w4).mono ?_
    rintro r w5 ⟨v, rfl, hv, bb⟩
    have HB5 := Lib.hid (HB4.out.trans (bb.mono HB4.out.size))
    have HU5 := Lib.hid (HU.out.below bb)
    have HV := Lib.hid hv
    obtain ⟨va, vc, rfl⟩ := SI.form hv
    clear bb hv V6 HU a0 a1 a2 a3 a4 a5 a6 a7 a8 a9
    go_wp2_with fail
    refine (RW.out _ _ w5 HU5.out HV.out).mono ?_
    rintro r w6 ⟨rfl, q, rfl⟩
    have HB6 := Lib.hid (Pln.below_q HB5.out q)
    clear RW HU5 HV
    generalize w5.drewN q = w6 at *
    have e1 : decide (OI = OI) = true := decide_eq_true rfl
    have e2 : decide (OE = OE) = true := decide_eq_true rfl
    go_wp2_with fail
    go_ret
    exact ⟨rfl, BEL.out.trans (HB6.out.mono hle)⟩

set_option maxRecDepth 100000 in
theorem lifted (os : Os) (started : os.Started) (H : Type) (enc : TypeId × Value → H) :
    ReturnsInHanded {} Try.checked os 5 .any (Rows.rreDecodesSpec.pre6 enc Try.prog Try.f5 Rows.rreDecodesRow.domain false) (Rows.rreDecodesSpec.post enc Try.prog Try.f5 false true false false) := by
  refine returnsInHanded_of_change (C := Try.checked) own started (by kernel_rfl) Try.func5
    (ChangeSpec.witness6 (enc := enc) (C := Try.checked) false ⟨#[], #[.agg #[.int .i64 0, .int .i64 0, .bool false, .bool false, .int .i64 0, .int .i64 0, .int .i64 0, .int .i64 0, .int .i64 0, .int .i64 0], .int .i64 0, .int .i64 0, .string ByteArray.empty], []⟩ 8 (by kernel_rfl) (by kernel_rfl) (by kernel_rfl) (by kernel_rfl)) ?_
  intro W base args ds gs before hval0 hW hcnd _
  have hval : ∀ (j : Nat) t v, Try.f5.params[j]? = some t → args[j]? = some v → Value.okWide Try.prog W .any base t v := hval0
  have hW' := hW
  obtain ⟨p, q, hA0, hV, rfl, hfz, hnd⟩ := hW
  have hA : DataW.TrodAll enc Try.prog W 0 (fun _ => true) true Try.f5.params.toList args.toList ds p := hA0
  rw [Try.params5] at hA hval
  obtain ⟨v0, vs0, d0, ds0, p0, q0, hargs, rfl, rfl, h0, r0⟩ := trodAll_cons hA
  obtain ⟨v1, vs1, d1, ds1, p1, q1, rfl, rfl, rfl, h1, r1⟩ := trodAll_cons r0
  obtain ⟨v2, vs2, d2, ds2, p2, q2, rfl, rfl, rfl, h2, r2⟩ := trodAll_cons r1
  obtain ⟨v3, vs3, d3, ds3, p3, q3, rfl, rfl, rfl, h3, r3⟩ := trodAll_cons r2
  obtain ⟨rfl, rfl, rfl⟩ := trodAll_nil r3
  obtain rfl : args = #[v0, v1, v2, v3] := by cases args; simp_all
  obtain ⟨rfl, rfl⟩ := trodVars_none hV
  have k0 := h0
  have lt0 : ∀ x ∈ p0, x.block < W.heap.size := by obtain ⟨m, hm⟩ := k0; exact DataW.trod_lt m _ _ _ hm
  obtain ⟨a0, rfl, w0⟩ := fmt_see (hval 0 37 v0 rfl rfl) h0
  have k1 := h1
  have lt1 : ∀ x ∈ p1, x.block < W.heap.size := by obtain ⟨m, hm⟩ := k1; exact DataW.trod_lt m _ _ _ hm
  obtain ⟨a1, rfl, rfl, rfl, w1⟩ := open_int Try.underlying3 (hval 1 3 v1 rfl rfl) h1
  have k2 := h2
  have lt2 : ∀ x ∈ p2, x.block < W.heap.size := by obtain ⟨m, hm⟩ := k2; exact DataW.trod_lt m _ _ _ hm
  obtain ⟨a2, rfl, rfl, rfl, w2⟩ := open_int Try.underlying3 (hval 2 3 v2 rfl rfl) h2
  have k3 := h3
  have lt3 : ∀ x ∈ p3, x.block < W.heap.size := by obtain ⟨m, hm⟩ := k3; exact DataW.trod_lt m _ _ _ hm
  obtain ⟨a3, rfl, rfl, rfl, w3⟩ := open_string Try.underlying9 (hval 3 9 v3 rfl rfl) h3
  clear hA0 hval0
  refine (walk says a0 a1 a2 a3 W w0 w1 w2 w3).mono fun e W' ⟨he, bel⟩ => ?_
  subst he
  exact ⟨_, rfl, _, _, _, [], _, [], hW', trodAll_mk1 (shut_bool Try.underlying4 _), (trodAll_cons_mk (Below.trod laidOut (by kernel_rfl) (of_decide_eq_true (by kernel_rfl)) k0 bel lt0) (trodAll_cons_mk (Below.trod laidOut (by kernel_rfl) (of_decide_eq_true (by kernel_rfl)) k1 bel lt1) (trodAll_cons_mk (Below.trod laidOut (by kernel_rfl) (of_decide_eq_true (by kernel_rfl)) k2 bel lt2) (trodAll_cons_mk (Below.trod laidOut (by kernel_rfl) (of_decide_eq_true (by kernel_rfl)) k3 bel lt3) trodAll_mk0)))), rfl, bel.frame _, fun h => by cases h⟩

theorem over : Rows.rreDecodesRow.holds Try.pinned (OpenSpec.ofChange Rows.rreDecodesSpec) :=
  OpenClaim.holds_of_wide 5 Try.f5 rfl rfl rfl rfl rfl rfl rfl ⟨rfl, rfl, rfl, rfl, rfl⟩ rfl rfl rfl rfl rfl (by kernel_rfl) Try.func5 (by kernel_rfl)
    (of_decide_eq_true (by kernel_rfl)) (by unfold Func.isWrapper; first | (rw [if_pos (by decide +kernel)]; kernel_rfl) | (rw [if_neg (by decide +kernel)]; exact ⟨rfl, rfl⟩))
    (fun os started H enc _ => lifted os started H enc)

theorem proved : Rows.RreDecodesSaid := over
end Go.Proofs.Ytmjjbapahgejmaa.rreDecodes
