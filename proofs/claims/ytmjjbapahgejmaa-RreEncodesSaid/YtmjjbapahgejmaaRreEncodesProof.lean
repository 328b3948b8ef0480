/-
  RreEncodes (layer 17): a rectangle's bytes, or that it may not be, are just what the document says.
-/
import Derived.Test.YtmjjbapahgejmaaRows
import Derived.Test.YtmjjbapahgejmaaRreProg
import Derived.Test.YtmjjbapahgejmaaRreWks
import Derived.Test.YtmjjbapahgejmaaRreRefF
import Derived.Test.YtmjjbapahgejmaaAllFmtM
import Derived.WalkKit
import Derived.ProofKit
import Derived.OpenShut
import Derived.ShutString
import Derived.ChangeOld
import Derived.Below
import Derived.Lib.SmallJoins
import Derived.Deep.Slices
namespace Go.Proofs.Ytmjjbapahgejmaa.rreEncodes
open Go.Proofs.Ytmjjbapahgejmaa.Fmt
open Go.Proofs.Ytmjjbapahgejmaa.Rre
open Go.ChangeShapes Go.WideShapes Go.ChangeAt Go.RowKit
open Go.ChangeMaps (open_string shut_string)
set_option linter.unusedVariables false

theorem own : ownKnob Try.prog.godebug = none := by kernel_rfl
theorem laidOut : laidOutB Try.prog = true := by kernel_rfl

open Go.Proofs.Ytmjjbapahgejmaa.RowG Go.Proofs.Ytmjjbapahgejmaa.RegVal Go.Proofs.Ytmjjbapahgejmaa.Lz Go.Proofs.Ytmjjbapahgejmaa.Pln
open Go.Proofs.Ytmjjbapahgejmaa.Fmt (Fm FmAt fmt_see)
set_option maxRecDepth 100000
set_option maxHeartbeats 4000000 in
theorem walk (D : Says) (f : Fm) (x y : Int) (a : Option Addr) (n cap : Nat) (L : List Int) (W : World) (hf : f.Wf) (hx : (Lit.int .i64 x).wf = true) (hy : (Lit.int .i64 y).wf = true) (hL : SW W (.slice a n cap) L ∧ L.length ≤ maxLen ∧ L.length = n ∧ (∀ x ∈ L, (Lit.int .i64 x).wf = true) ∧ Room (.slice a n cap)) :
    Calls Try.prog 4 #[f.v, .int .i64 x, .int .i64 y, .slice a n cap] W fun e w' => e = .returned (.bool true) ∧ Below W.heap.size W w' := by
  obtain ⟨hsw, _, hn, hwf, _⟩ := hL
  have V0 := Lib.hid (fun w => works_any D w)
  have HSW := Lib.hid hsw
  have hsx : Side x := wf_bd hx
  have hsy : Side y := wf_bd hy
  have AT := FmAt.box f W 37
  have bel := (Below.refl W.heap.size W).alloc (Nat.le_refl _) (.cells #[.int .i64 f.B, .int .i64 f.D, .bool f.big, .bool f.tr, .int .i64 f.rm, .int .i64 f.gm, .int .i64 f.bm, .int .i64 f.rs, .int .i64 f.gs, .int .i64 f.bs] 37)
  have hsz := Pln.alloc_size W (.cells #[.int .i64 f.B, .int .i64 f.D, .bool f.big, .bool f.tr, .int .i64 f.rm, .int .i64 f.gm, .int .i64 f.bm, .int .i64 f.rs, .int .i64 f.gs, .int .i64 f.bs] 37)
  obtain ⟨w1, hw1⟩ : ∃ w1, W.alloc (.cells #[.int .i64 f.B, .int .i64 f.D, .bool f.big, .bool f.tr, .int .i64 f.rm, .int .i64 f.gm, .int .i64 f.bm, .int .i64 f.rs, .int .i64 f.gs, .int .i64 f.bs] 37) = w1 := ⟨_, rfl⟩
  rw [hw1] at AT bel hsz
  have HA := Lib.hid (fun W' (hW : Below w1.heap.size w1 W') => AT.below hW (by omega))
  have HS := Lib.hid (fun W' (hW : Below W.heap.size W W') => hsw.below hW)
  have BEL := Lib.hid bel
  have hle : W.heap.size ≤ w1.heap.size := bel.size
  have HF : f.v = .agg #[.int .i64 f.B, .int .i64 f.D, .bool f.big, .bool f.tr, .int .i64 f.rm, .int .i64 f.gm, .int .i64 f.bm, .int .i64 f.rs, .int .i64 f.gs, .int .i64 f.bs] := rfl
  have V1 := Lib.hid (fun (hb : n ≤ 200) w h => D.encode f hf x y L (.slice a n cap) hsx hsy hwf (by omega) w h)
  have V2 := Lib.hid (fun (hb : n ≤ 200) w h => refEncode_any f hf x y (.slice a n cap) L w h (by omega) hsx hsy)
  rw [HF] at V1 V2 ⊢
  generalize encS f x y L = S at *
  generalize encE f x y L = E at *
  clear hsw hx hy hsx hsy AT bel hsz HF hwf hf
  go_enter Try.func4, Try.ntmps4
  go_wp2_with fail
  refine (V0.out _).mono ?_
  rintro r w2 ⟨rfl, b2⟩
  have HB2 := Lib.hid b2
  clear b2 V0
  by_cases hbig : 200 < n
  · have d1 : decide ((200 : Int) < (n : Int)) = true := decide_eq_true (by omega)
    have d2 : decide (200 < n) = true := decide_eq_true hbig
    clear V1 V2
    go_wp2_with fail
    go_ret
    exact ⟨rfl, BEL.out.trans (HB2.out.mono hle)⟩
  have d1 : decide ((200 : Int) < (n : Int)) = false := decide_eq_false (by omega)
  have d2 : decide (200 < n) = false := decide_eq_false hbig
  have V3 := Lib.hid (V1.out (by omega))
  have V4 := Lib.hid (V2.out (by omega))
  obtain ⟨a0, a1, a2, a3, a4, a5, a6, a7, a8, a9⟩ := HA.out w2 HB2.out
  clear V1 V2
  go_wp2_with fail
  refine (V3.out w2 (HS.out w2 (BEL.out.trans (HB2.out.mono hle)))).mono ?_
  rintro r w3 ⟨rfl, b3⟩
  have HB3 := Lib.hid (HB2.out.trans (b3.mono HB2.out.size))
  clear b3 V3 a0 a1 a2 a3 a4 a5 a6 a7 a8 a9
  obtain ⟨a0, a1, a2, a3, a4, a5, a6, a7, a8, a9⟩ := HA.out w3 HB3.out
  go_wp2_with fail
  refine (V4.out w3 (HS.out w3 (BEL.out.trans (HB3.out.mono hle)))).mono ?_
  rintro r w4 ⟨rfl, b4⟩
  have HB4 := Lib.hid (HB3.out.trans (b4.mono HB3.out.size))
  clear b4 V4 a0 a1 a2 a3 a4 a5 a6 a7 a8 a9
  have e1 : decide (E = E) = true := decide_eq_true rfl
  have e3 : (S.toList == S.toList) = true := beq_self_eq_true _
  go_wp2_with fail
  go_ret
  exact ⟨rfl, BEL.out.trans (HB4.out.mono hle)⟩

set_option maxRecDepth 100000 in
theorem lifted (os : Os) (started : os.Started) (H : Type) (enc : TypeId × Value → H) :
    ReturnsInHanded {} Try.checked os 4 .any (Rows.rreEncodesSpec.pre6 enc Try.prog Try.f4 Rows.rreEncodesRow.domain false) (Rows.rreEncodesSpec.post enc Try.prog Try.f4 false true false false) := by
  refine returnsInHanded_of_change (C := Try.checked) own started (by kernel_rfl) Try.func4
    (ChangeSpec.witness6 (enc := enc) (C := Try.checked) false ⟨#[], #[.agg #[.int .i64 0, .int .i64 0, .bool false, .bool false, .int .i64 0, .int .i64 0, .int .i64 0, .int .i64 0, .int .i64 0, .int .i64 0], .int .i64 0, .int .i64 0, .slice none 0 0], []⟩ 8 (by kernel_rfl) (by kernel_rfl) (by kernel_rfl) (by kernel_rfl)) ?_
  intro W base args ds gs before hval0 hW hcnd _
  have hval : ∀ (j : Nat) t v, Try.f4.params[j]? = some t → args[j]? = some v → Value.okWide Try.prog W .any base t v := hval0
  have hW' := hW
  obtain ⟨p, q, hA0, hV, rfl, hfz, hnd⟩ := hW
  have hA : DataW.TrodAll enc Try.prog W 0 (fun _ => true) true Try.f4.params.toList args.toList ds p := hA0
  rw [Try.params4] at hA hval
  obtain ⟨v0, vs0, d0, ds0, p0, q0, hargs, rfl, rfl, h0, r0⟩ := trodAll_cons hA
  obtain ⟨v1, vs1, d1, ds1, p1, q1, rfl, rfl, rfl, h1, r1⟩ := trodAll_cons r0
  obtain ⟨v2, vs2, d2, ds2, p2, q2, rfl, rfl, rfl, h2, r2⟩ := trodAll_cons r1
  obtain ⟨v3, vs3, d3, ds3, p3, q3, rfl, rfl, rfl, h3, r3⟩ := trodAll_cons r2
  obtain ⟨rfl, rfl, rfl⟩ := trodAll_nil r3
  obtain rfl : args = #[v0, v1, v2, v3] := by cases args; simp_all
  obtain ⟨rfl, rfl⟩ := trodVars_none hV
  have k0 := h0
  have lt0 : ∀ x ∈ p0, x.block < W.heap.size := by obtain ⟨m, hm⟩ := k0; exact DataW.trod_lt m _ _ _ hm
  obtain ⟨a0, rfl, w0⟩ := fmt_see (hval 0 37 v0 rfl rfl) h0
  have k1 := h1
  have lt1 : ∀ x ∈ p1, x.block < W.heap.size := by obtain ⟨m, hm⟩ := k1; exact DataW.trod_lt m _ _ _ hm
  obtain ⟨a1, rfl, rfl, rfl, w1⟩ := open_int Try.underlying3 (hval 1 3 v1 rfl rfl) h1
  have k2 := h2
  have lt2 : ∀ x ∈ p2, x.block < W.heap.size := by obtain ⟨m, hm⟩ := k2; exact DataW.trod_lt m _ _ _ hm
  obtain ⟨a2, rfl, rfl, rfl, w2⟩ := open_int Try.underlying3 (hval 2 3 v2 rfl rfl) h2
  have k3 := h3
  have lt3 : ∀ x ∈ p3, x.block < W.heap.size := by obtain ⟨m, hm⟩ := k3; exact DataW.trod_lt m _ _ _ hm
  obtain ⟨a3, len3, cap3, rfl⟩ := okWide_slice Try.underlying22 (hval 3 22 v3 rfl rfl)
  obtain ⟨A3, w3⟩ := ints_si h3
  clear hA0 hval0
  refine (walk says a0 a1 a2 a3 len3 cap3 A3 W w0 w1 w2 w3).mono fun e W' ⟨he, bel⟩ => ?_
  subst he
  exact ⟨_, rfl, _, _, _, [], _, [], hW', trodAll_mk1 (shut_bool Try.underlying4 _), (trodAll_cons_mk (Below.trod laidOut (by kernel_rfl) (of_decide_eq_true (by kernel_rfl)) k0 bel lt0) (trodAll_cons_mk (Below.trod laidOut (by kernel_rfl) (of_decide_eq_true (by kernel_rfl)) k1 bel lt1) (trodAll_cons_mk (Below.trod laidOut (by kernel_rfl) (of_decide_eq_true (by kernel_rfl)) k2 bel lt2) (trodAll_cons_mk (Below.trod laidOut (by kernel_rfl) (of_decide_eq_true (by kernel_rfl)) k3 bel lt3) trodAll_mk0)))), rfl, bel.frame _, fun h => by cases h⟩

theorem over : Rows.rreEncodesRow.holds Try.pinned (OpenSpec.ofChange Rows.rreEncodesSpec) :=
  OpenClaim.holds_of_wide 4 Try.f4 rfl rfl rfl rfl rfl rfl rfl ⟨rfl, rfl, rfl, rfl, rfl⟩ rfl rfl rfl rfl rfl (by kernel_rfl) Try.func4 (by kernel_rfl)
    (of_decide_eq_true (by kernel_rfl)) (by unfold Func.isWrapper; first | (rw [if_pos (by decide +kernel)]; kernel_rfl) | (rw [if_neg (by decide +kernel)]; exact ⟨rfl, rfl⟩))
    (fun os started H enc _ => lifted os started H enc)

theorem proved : Rows.RreEncodesSaid := over
end Go.Proofs.Ytmjjbapahgejmaa.rreEncodes
