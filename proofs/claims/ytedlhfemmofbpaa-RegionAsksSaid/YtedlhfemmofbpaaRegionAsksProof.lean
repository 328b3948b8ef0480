/-
  RegionAsks (layer 15): a region that is moved, its places and its bounds are the document's.
-/
import Derived.Test.YtedlhfemmofbpaaRows
import Derived.Test.YtedlhfemmofbpaaRegProg
import Derived.WalkKit
import Derived.ProofKit
import Derived.OpenShut
import Derived.ShutString
import Derived.ChangeOld
import Derived.Below
import Derived.Lib.SmallJoins
import Derived.Deep.Slices
namespace Go.Proofs.Ytedlhfemmofbpaa.regionAsks
open Go.Proofs.Ytedlhfemmofbpaa.Reg
open Lz RowG RegVal
open Go.ChangeShapes Go.WideShapes Go.ChangeAt Go.RowKit
open Go.ChangeMaps (open_string shut_string)
set_option linter.unusedVariables false

theorem own : ownKnob Try.prog.godebug = none := by kernel_rfl
theorem laidOut : laidOutB Try.prog = true := by kernel_rfl

theorem shift_sees (a : List Rc) (va : Value) (dx dy : Int) (w : World) (hn : a.length ≤ 50) (ha : SeesR w va a) :
    Calls Try.prog 18 #[va, .int .i64 dx, .int .i64 dy] w fun e w' => ∃ u, e = .returned u ∧ SeesR w' u (shiftL a dx dy) ∧ Below w.heap.size w w' :=
  (refShift_any a va dx dy w hn ha).mono fun e w' ⟨u, h1, h2, h3⟩ => ⟨u, h1, h2.sees, h3⟩
set_option maxRecDepth 100000 in
set_option maxHeartbeats 8000000 in
theorem walk (D : Says) (a : Option Addr) (n cap : Nat) (l : List Rc) (dx dy x y : Int) (W : World) (w0 : RcArg W a n cap l) (w1 : (Lit.int .i64 dx).wf = true) (w2 : (Lit.int .i64 dy).wf = true) (w3 : (Lit.int .i64 x).wf = true) (w4 : (Lit.int .i64 y).wf = true) :
    Calls Try.prog 4 #[.slice a n cap, .int .i64 dx, .int .i64 dy, .int .i64 x, .int .i64 y] W fun e w' => e = .returned (.bool true) ∧ Below W.heap.size W w' := by
  have hl := w0.1
  have SA := Lib.hid w0.sees
  have WLl : RowKit.Hid (∀ r ∈ l, r.wf) := Lib.hid w0.2.2.2.1
  have hn := w0.2.1
  unfold maxLen at hn
  clear w0
  by_cases hg : 12 < n
  · have hg' : decide ((12 : Int) < n) = true := decide_eq_true (by omega)
    go_enter Try.func4, Try.ntmps4
    go_wp2_with fail
    refine (works_any D _).mono ?_
    rintro r w1 ⟨rfl, b1⟩
    go_wp2_with fail
    all_goals (go_ret; exact ⟨rfl, b1⟩)
  have hg' : decide ((12 : Int) < n) = false := decide_eq_false (by omega)
  have L1 : l.length ≤ 12 := by omega
  have V0 := Lib.hid (works_any D)
  have V1 := Lib.hid (fun v w => D.shift l v dx dy w (by omega) (Nat.le_trans (make_small l 12 (by omega)) (by decide)) WLl.out w1 w2)
  have V2 := Lib.hid (fun v w => D.area l v w (by omega) WLl.out)
  have V3 := Lib.hid (fun v w => D.has l v x y w (by omega) WLl.out w3 w4)
  have V4 := Lib.hid (fun v w => D.bounds l v w (by omega) WLl.out)
  have R1 := Lib.hid (fun v w => shift_sees l v dx dy w (by omega))
  have R2 := Lib.hid (fun v w => refArea_any l v w (by omega))
  have R3 := Lib.hid (fun v w => refHas_any l v x y w (by omega))
  have R4 := Lib.hid (fun v w => refBounds_any l v w (by omega))
  have SM := Lib.hid (fun va vb w => refSame_yes (shiftL l dx dy) va vb w (shift_fits l dx dy (by omega)))
  clear D hg w1 w2 w3 w4
  generalize shiftL l dx dy = sl at *
  generalize areaL (make l) = ar at *
  generalize hasL l x y = hs at *
  generalize boundsL l = bo at *
  obtain ⟨p, q, pw, ph⟩ := bo
  unfold Rc.v at V4 R4
  go_enter Try.func4, Try.ntmps4
  go_wp2_with fail
  refine (V0.out _).mono ?_
  rintro r w1 ⟨rfl, bb⟩
  have SA1 := Lib.hid (SA.out.below bb)
  have Bel1 := Lib.hid bb
  clear SA bb
  go_wp2_with fail
  refine (V1.out _ w1 SA1.out).mono ?_
  rintro r w2 ⟨uP, rfl, s, b⟩
  have SA2 := Lib.hid (SA1.out.below b)
  have P2 := Lib.hid s
  have Bel2 := Lib.hid (Bel1.out.trans (b.mono Bel1.out.size))
  clear SA1 Bel1 b s
  go_wp2_with fail
  refine (R1.out _ w2 SA2.out).mono ?_
  rintro r w3 ⟨uQ, rfl, s, b⟩
  have SA3 := Lib.hid (SA2.out.below b)
  have P3 := Lib.hid (P2.out.below b)
  have Q3 := Lib.hid s
  have Bel3 := Lib.hid (Bel2.out.trans (b.mono Bel2.out.size))
  clear SA2 P2 Bel2 b s
  go_wp2_with fail
  refine (SM.out _ _ w3 P3.out Q3.out).mono ?_
  rintro r w4 ⟨rfl, z, rfl⟩
  have SA4 := Lib.hid (SA3.out.drewN z)
  have Bel4 := Lib.hid (below_drewN Bel3.out z)
  clear SA3 Bel3
  generalize w3.drewN z = w4 at *
  go_wp2_with fail
  refine (V2.out _ w4 SA4.out).mono ?_
  rintro r w5 ⟨rfl, b⟩
  have SA5 := Lib.hid (SA4.out.below b)
  have Bel5 := Lib.hid (Bel4.out.trans (b.mono Bel4.out.size))
  clear SA4 Bel4 b
  go_wp2_with fail
  refine (R2.out _ w5 SA5.out).mono ?_
  rintro r w6 ⟨rfl, b⟩
  have SA6 := Lib.hid (SA5.out.below b)
  have Bel6 := Lib.hid (Bel5.out.trans (b.mono Bel5.out.size))
  clear SA5 Bel5 b
  go_wp2_with fail
  refine (V3.out _ w6 SA6.out).mono ?_
  rintro r w7 ⟨rfl, b⟩
  have SA7 := Lib.hid (SA6.out.below b)
  have Bel7 := Lib.hid (Bel6.out.trans (b.mono Bel6.out.size))
  clear SA6 Bel6 b
  go_wp2_with fail
  refine (R3.out _ w7 SA7.out).mono ?_
  rintro r w8 ⟨rfl, b⟩
  have SA8 := Lib.hid (SA7.out.below b)
  have Bel8 := Lib.hid (Bel7.out.trans (b.mono Bel7.out.size))
  clear SA7 Bel7 b
  go_wp2_with fail
  refine (V4.out _ w8 SA8.out).mono ?_
  rintro r w9 ⟨rfl, b⟩
  have SA9 := Lib.hid (SA8.out.below b)
  have Bel9 := Lib.hid (Bel8.out.trans (b.mono Bel8.out.size))
  clear SA8 Bel8 b
  go_wp2_with fail
  refine (R4.out _ w9 SA9.out).mono ?_
  rintro r w10 ⟨rfl, b⟩
  have SA10 := Lib.hid (SA9.out.below b)
  have Bel10 := Lib.hid (Bel9.out.trans (b.mono Bel9.out.size))
  clear SA9 Bel9 b
  go_wp2_with fail
  go_ret
  exact ⟨rfl, Bel10.out⟩

set_option maxRecDepth 100000 in
theorem lifted (os : Os) (started : os.Started) (H : Type) (enc : TypeId × Value → H) :
    ReturnsInHanded {} Try.checked os 4 .any (Rows.regionAsksSpec.pre6 enc Try.prog Try.f4 Rows.regionAsksRow.domain false) (Rows.regionAsksSpec.post enc Try.prog Try.f4 false true false false) := by
  refine returnsInHanded_of_change (C := Try.checked) own started (by kernel_rfl) Try.func4
    (ChangeSpec.witness6 (enc := enc) (C := Try.checked) false ⟨#[], #[.slice none 0 0, .int .i64 0, .int .i64 0, .int .i64 0, .int .i64 0], []⟩ 8 (by kernel_rfl) (by kernel_rfl) (by kernel_rfl) (by kernel_rfl)) ?_
  intro W base args ds gs before hval0 hW hcnd _
  have hval : ∀ (j : Nat) t v, Try.f4.params[j]? = some t → args[j]? = some v → Value.okWide Try.prog W .any base t v := hval0
  have hW' := hW
  obtain ⟨p, q, hA0, hV, rfl, hfz, hnd⟩ := hW
  have hA : DataW.TrodAll enc Try.prog W 0 (fun _ => true) true Try.f4.params.toList args.toList ds p := hA0
  rw [Try.params4] at hA hval
  obtain ⟨v0, vs0, d0, ds0, p0, q0, hargs, rfl, rfl, h0, r0⟩ := trodAll_cons hA
  obtain ⟨v1, vs1, d1, ds1, p1, q1, rfl, rfl, rfl, h1, r1⟩ := trodAll_cons r0
  obtain ⟨v2, vs2, d2, ds2, p2, q2, rfl, rfl, rfl, h2, r2⟩ := trodAll_cons r1
  obtain ⟨v3, vs3, d3, ds3, p3, q3, rfl, rfl, rfl, h3, r3⟩ := trodAll_cons r2
  obtain ⟨v4, vs4, d4, ds4, p4, q4, rfl, rfl, rfl, h4, r4⟩ := trodAll_cons r3
  obtain ⟨rfl, rfl, rfl⟩ := trodAll_nil r4
  obtain rfl : args = #[v0, v1, v2, v3, v4] := by cases args; simp_all
  obtain ⟨rfl, rfl⟩ := trodVars_none hV
  have k0 := h0
  have lt0 : ∀ x ∈ p0, x.block < W.heap.size := by obtain ⟨m, hm⟩ := k0; exact DataW.trod_lt m _ _ _ hm
  obtain ⟨a0, len0, cap0, rfl⟩ := okWide_slice Try.underlying22 (hval 0 22 v0 rfl rfl)
  obtain ⟨A0, w0⟩ := rects_see h0
  have k1 := h1
  have lt1 : ∀ x ∈ p1, x.block < W.heap.size := by obtain ⟨m, hm⟩ := k1; exact DataW.trod_lt m _ _ _ hm
  obtain ⟨a1, rfl, rfl, rfl, w1⟩ := open_int Try.underlying3 (hval 1 3 v1 rfl rfl) h1
  have k2 := h2
  have lt2 : ∀ x ∈ p2, x.block < W.heap.size := by obtain ⟨m, hm⟩ := k2; exact DataW.trod_lt m _ _ _ hm
  obtain ⟨a2, rfl, rfl, rfl, w2⟩ := open_int Try.underlying3 (hval 2 3 v2 rfl rfl) h2
  have k3 := h3
  have lt3 : ∀ x ∈ p3, x.block < W.heap.size := by obtain ⟨m, hm⟩ := k3; exact DataW.trod_lt m _ _ _ hm
  obtain ⟨a3, rfl, rfl, rfl, w3⟩ := open_int Try.underlying3 (hval 3 3 v3 rfl rfl) h3
  have k4 := h4
  have lt4 : ∀ x ∈ p4, x.block < W.heap.size := by obtain ⟨m, hm⟩ := k4; exact DataW.trod_lt m _ _ _ hm
  obtain ⟨a4, rfl, rfl, rfl, w4⟩ := open_int Try.underlying3 (hval 4 3 v4 rfl rfl) h4
  clear hA0 hval0
  refine (walk says a0 len0 cap0 A0 a1 a2 a3 a4 W w0 w1 w2 w3 w4).mono fun e W' ⟨he, bel⟩ => ?_
  subst he
  exact ⟨_, rfl, _, _, _, [], _, [], hW', trodAll_mk1 (shut_bool Try.underlying4 _), (trodAll_cons_mk (Below.trod laidOut (by kernel_rfl) (of_decide_eq_true (by kernel_rfl)) k0 bel lt0) (trodAll_cons_mk (Below.trod laidOut (by kernel_rfl) (of_decide_eq_true (by kernel_rfl)) k1 bel lt1) (trodAll_cons_mk (Below.trod laidOut (by kernel_rfl) (of_decide_eq_true (by kernel_rfl)) k2 bel lt2) (trodAll_cons_mk (Below.trod laidOut (by kernel_rfl) (of_decide_eq_true (by kernel_rfl)) k3 bel lt3) (trodAll_cons_mk (Below.trod laidOut (by kernel_rfl) (of_decide_eq_true (by kernel_rfl)) k4 bel lt4) trodAll_mk0))))), rfl, bel.frame _, fun h => by cases h⟩

theorem over : Rows.regionAsksRow.holds Try.pinned (OpenSpec.ofChange Rows.regionAsksSpec) :=
  OpenClaim.holds_of_wide 4 Try.f4 rfl rfl rfl rfl rfl rfl rfl ⟨rfl, rfl, rfl, rfl, rfl⟩ rfl rfl rfl rfl rfl (by kernel_rfl) Try.func4 (by kernel_rfl)
    (of_decide_eq_true (by kernel_rfl)) (by unfold Func.isWrapper; first | (rw [if_pos (by decide +kernel)]; kernel_rfl) | (rw [if_neg (by decide +kernel)]; exact ⟨rfl, rfl⟩))
    (fun os started H enc _ => lifted os started H enc)

theorem proved : Rows.RegionAsksSaid := over
end Go.Proofs.Ytedlhfemmofbpaa.regionAsks
