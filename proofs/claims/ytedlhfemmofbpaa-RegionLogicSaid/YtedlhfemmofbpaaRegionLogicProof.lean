/-
  RegionLogic (layer 15): regions are as sets.
-/
import Derived.Test.YtedlhfemmofbpaaRows
import Derived.Test.YtedlhfemmofbpaaRegProg
import Derived.WalkKit
import Derived.ProofKit
import Derived.OpenShut
import Derived.ShutString
import Derived.ChangeOld
import Derived.Below
import Derived.Lib.SmallJoins
import Derived.Deep.Slices
namespace Go.Proofs.Ytedlhfemmofbpaa.regionLogic
open Go.Proofs.Ytedlhfemmofbpaa.Reg
open Lz RowG RegVal
open Go.ChangeShapes Go.WideShapes Go.ChangeAt Go.RowKit
open Go.ChangeMaps (open_string shut_string)
set_option linter.unusedVariables false

theorem own : ownKnob Try.prog.godebug = none := by kernel_rfl
theorem laidOut : laidOutB Try.prog = true := by kernel_rfl

set_option maxRecDepth 100000 in
set_option maxHeartbeats 8000000 in
theorem walk (D : Says) (a : Option Addr) (n cap : Nat) (l : List Rc) (b : Option Addr) (m capb : Nat) (k : List Rc) (x y : Int) (W : World) (w0 : RcArg W a n cap l) (w1 : RcArg W b m capb k) (w2 : (Lit.int .i64 x).wf = true) (w3 : (Lit.int .i64 y).wf = true) :
    Calls Try.prog 5 #[.slice a n cap, .slice b m capb, .int .i64 x, .int .i64 y] W fun e w' => e = .returned (.bool true) ∧ Below W.heap.size W w' := by
  have hl := w0.1
  have hk := w1.1
  have SA := Lib.hid w0.sees
  have WLl : RowKit.Hid (∀ r ∈ l, r.wf) := Lib.hid w0.2.2.2.1
  have SB := Lib.hid w1.sees
  have WLk : RowKit.Hid (∀ r ∈ k, r.wf) := Lib.hid w1.2.2.2.1
  have hn := w0.2.1
  have hm := w1.2.1
  unfold maxLen at hn hm
  clear w0 w1
  by_cases hg : 12 < n
  · have hg' : decide ((12 : Int) < n) = true := decide_eq_true (by omega)
    go_enter Try.func5, Try.ntmps5
    go_wp2_with fail
    refine (works_any D _).mono ?_
    rintro r w1 ⟨rfl, b1⟩
    go_wp2_with fail
    all_goals (go_ret; exact ⟨rfl, b1⟩)
  by_cases hg2 : 12 < m
  · have hg' : decide ((12 : Int) < n) = false := decide_eq_false (by omega)
    have hg2' : decide ((12 : Int) < m) = true := decide_eq_true (by omega)
    go_enter Try.func5, Try.ntmps5
    go_wp2_with fail
    refine (works_any D _).mono ?_
    rintro r w1 ⟨rfl, b1⟩
    go_wp2_with fail
    all_goals (go_ret; exact ⟨rfl, b1⟩)
  have hg' : decide ((12 : Int) < n) = false := decide_eq_false (by omega)
  have hg2' : decide ((12 : Int) < m) = false := decide_eq_false (by omega)
  have L1 : l.length ≤ 12 := by omega
  have L2 : k.length ≤ 12 := by omega
  have V0 := Lib.hid (works_any D)
  have V1 := Lib.hid (fun v w => D.make l v w (by omega) WLl.out)
  have V2 := Lib.hid (fun va vb w => D.union l k va vb w (by omega) WLl.out WLk.out)
  have V3 := Lib.hid (fun va vb w => D.minus l k va vb w (by omega) WLl.out WLk.out)
  have V4 := Lib.hid (fun va vb w => D.both l k va vb w (by omega) WLl.out WLk.out)
  have P1 := Lib.hid (fun v w => D.has l v x y w (by omega) WLl.out w2 w3)
  have P2 := Lib.hid (fun v w => D.has k v x y w (by omega) WLk.out w2 w3)
  have Q1 := Lib.hid (fun v w => D.has (make l) v x y w (Nat.le_trans (make_small l 12 (by omega)) (by decide)) (make_wf l) w2 w3)
  have Q2 := Lib.hid (fun v w => D.has (combL 0 l k) v x y w (Nat.le_trans (comb_small 0 l k 24 (by omega)) (by decide)) (comb_wfL 0 l k) w2 w3)
  have Q3 := Lib.hid (fun v w => D.has (combL 1 l k) v x y w (Nat.le_trans (comb_small 1 l k 24 (by omega)) (by decide)) (comb_wfL 1 l k) w2 w3)
  have Q4 := Lib.hid (fun v w => D.has (combL 2 l k) v x y w (Nat.le_trans (comb_small 2 l k 24 (by omega)) (by decide)) (comb_wfL 2 l k) w2 w3)
  rw [make_has] at Q1
  rw [comb_in, show fOp 0 = fOr from rfl] at Q2
  rw [comb_in, show fOp 1 = fMinus from rfl] at Q3
  rw [comb_in, show fOp 2 = fAnd from rfl] at Q4
  unfold fOr at Q2
  unfold fMinus at Q3
  unfold fAnd at Q4
  clear D hg hg2 w2 w3
  generalize hasL l x y = p at *
  generalize hasL k x y = q at *
  generalize combL 0 l k = c0 at *
  generalize combL 1 l k = c1 at *
  generalize combL 2 l k = c2 at *
  generalize make l = c at *
  cases p <;> cases q <;> simp only [Bool.or_false, Bool.or_true, Bool.and_false, Bool.and_true, Bool.not_false, Bool.not_true] at Q2 Q3 Q4
  all_goals
    go_enter Try.func5, Try.ntmps5
    go_wp2_with fail
    refine (V0.out _).mono ?_
    rintro r w1 ⟨rfl, bb⟩
    have SA1 := Lib.hid (SA.out.below bb)
    have SB1 := Lib.hid (SB.out.below bb)
    have Bel1 := Lib.hid bb
    clear SA SB bb
    go_wp2_with fail
    refine (P1.out _ w1 SA1.out).mono ?_
    rintro r w2 ⟨rfl, b⟩
    have SA2 := Lib.hid (SA1.out.below b)
    have SB2 := Lib.hid (SB1.out.below b)
    have Bel2 := Lib.hid (Bel1.out.trans (b.mono Bel1.out.size))
    clear SA1 SB1 Bel1 b
    go_wp2_with fail
    refine (P2.out _ w2 SB2.out).mono ?_
    rintro r w3 ⟨rfl, b⟩
    have SA3 := Lib.hid (SA2.out.below b)
    have SB3 := Lib.hid (SB2.out.below b)
    have Bel3 := Lib.hid (Bel2.out.trans (b.mono Bel2.out.size))
    clear SA2 SB2 Bel2 b
    go_wp2_with fail
    refine (V1.out _ w3 SA3.out).mono ?_
    rintro r w4 ⟨uP, rfl, s, b⟩
    have SA4 := Lib.hid (SA3.out.below b)
    have SB4 := Lib.hid (SB3.out.below b)
    have P4 := Lib.hid s
    have Bel4 := Lib.hid (Bel3.out.trans (b.mono Bel3.out.size))
    clear SA3 SB3 Bel3 b s
    go_wp2_with fail
    refine (Q1.out _ w4 P4.out).mono ?_
    rintro r w5 ⟨rfl, b⟩
    have SA5 := Lib.hid (SA4.out.below b)
    have SB5 := Lib.hid (SB4.out.below b)
    have Bel5 := Lib.hid (Bel4.out.trans (b.mono Bel4.out.size))
    clear SA4 SB4 P4 Bel4 b
    go_wp2_with fail
    refine (V2.out _ _ w5 SA5.out SB5.out).mono ?_
    rintro r w6 ⟨uP, rfl, s, b⟩
    have SA6 := Lib.hid (SA5.out.below b)
    have SB6 := Lib.hid (SB5.out.below b)
    have P6 := Lib.hid s
    have Bel6 := Lib.hid (Bel5.out.trans (b.mono Bel5.out.size))
    clear SA5 SB5 Bel5 b s
    go_wp2_with fail
    refine (Q2.out _ w6 P6.out).mono ?_
    rintro r w7 ⟨rfl, b⟩
    have SA7 := Lib.hid (SA6.out.below b)
    have SB7 := Lib.hid (SB6.out.below b)
    have Bel7 := Lib.hid (Bel6.out.trans (b.mono Bel6.out.size))
    clear SA6 SB6 P6 Bel6 b
    go_wp2_with fail
    refine (V3.out _ _ w7 SA7.out SB7.out).mono ?_
    rintro r w8 ⟨uP, rfl, s, b⟩
    have SA8 := Lib.hid (SA7.out.below b)
    have SB8 := Lib.hid (SB7.out.below b)
    have P8 := Lib.hid s
    have Bel8 := Lib.hid (Bel7.out.trans (b.mono Bel7.out.size))
    clear SA7 SB7 Bel7 b s
    go_wp2_with fail
    refine (Q3.out _ w8 P8.out).mono ?_
    rintro r w9 ⟨rfl, b⟩
    have SA9 := Lib.hid (SA8.out.below b)
    have SB9 := Lib.hid (SB8.out.below b)
    have Bel9 := Lib.hid (Bel8.out.trans (b.mono Bel8.out.size))
    clear SA8 SB8 P8 Bel8 b
    go_wp2_with fail
    refine (V4.out _ _ w9 SA9.out SB9.out).mono ?_
    rintro r w10 ⟨uP, rfl, s, b⟩
    have SA10 := Lib.hid (SA9.out.below b)
    have SB10 := Lib.hid (SB9.out.below b)
    have P10 := Lib.hid s
    have Bel10 := Lib.hid (Bel9.out.trans (b.mono Bel9.out.size))
    clear SA9 SB9 Bel9 b s
    go_wp2_with fail
    refine (Q4.out _ w10 P10.out).mono ?_
    rintro r w11 ⟨rfl, b⟩
    have SA11 := Lib.hid (SA10.out.below b)
    have SB11 := Lib.hid (SB10.out.below b)
    have Bel11 := Lib.hid (Bel10.out.trans (b.mono Bel10.out.size))
    clear SA10 SB10 P10 Bel10 b
    go_wp2_with fail
    go_ret
    exact ⟨rfl, Bel11.out⟩

set_option maxRecDepth 100000 in
theorem lifted (os : Os) (started : os.Started) (H : Type) (enc : TypeId × Value → H) :
    ReturnsInHanded {} Try.checked os 5 .any (Rows.regionLogicSpec.pre6 enc Try.prog Try.f5 Rows.regionLogicRow.domain false) (Rows.regionLogicSpec.post enc Try.prog Try.f5 false true false false) := by
  refine returnsInHanded_of_change (C := Try.checked) own started (by kernel_rfl) Try.func5
    (ChangeSpec.witness6 (enc := enc) (C := Try.checked) false ⟨#[], #[.slice none 0 0, .slice none 0 0, .int .i64 0, .int .i64 0], []⟩ 8 (by kernel_rfl) (by kernel_rfl) (by kernel_rfl) (by kernel_rfl)) ?_
  intro W base args ds gs before hval0 hW hcnd _
  have hval : ∀ (j : Nat) t v, Try.f5.params[j]? = some t → args[j]? = some v → Value.okWide Try.prog W .any base t v := hval0
  have hW' := hW
  obtain ⟨p, q, hA0, hV, rfl, hfz, hnd⟩ := hW
  have hA : DataW.TrodAll enc Try.prog W 0 (fun _ => true) true Try.f5.params.toList args.toList ds p := hA0
  rw [Try.params5] at hA hval
  obtain ⟨v0, vs0, d0, ds0, p0, q0, hargs, rfl, rfl, h0, r0⟩ := trodAll_cons hA
  obtain ⟨v1, vs1, d1, ds1, p1, q1, rfl, rfl, rfl, h1, r1⟩ := trodAll_cons r0
  obtain ⟨v2, vs2, d2, ds2, p2, q2, rfl, rfl, rfl, h2, r2⟩ := trodAll_cons r1
  obtain ⟨v3, vs3, d3, ds3, p3, q3, rfl, rfl, rfl, h3, r3⟩ := trodAll_cons r2
  obtain ⟨rfl, rfl, rfl⟩ := trodAll_nil r3
  obtain rfl : args = #[v0, v1, v2, v3] := by cases args; simp_all
  obtain ⟨rfl, rfl⟩ := trodVars_none hV
  have k0 := h0
  have lt0 : ∀ x ∈ p0, x.block < W.heap.size := by obtain ⟨m, hm⟩ := k0; exact DataW.trod_lt m _ _ _ hm
  obtain ⟨a0, len0, cap0, rfl⟩ := okWide_slice Try.underlying22 (hval 0 22 v0 rfl rfl)
  obtain ⟨A0, w0⟩ := rects_see h0
  have k1 := h1
  have lt1 : ∀ x ∈ p1, x.block < W.heap.size := by obtain ⟨m, hm⟩ := k1; exact DataW.trod_lt m _ _ _ hm
  obtain ⟨a1, len1, cap1, rfl⟩ := okWide_slice Try.underlying22 (hval 1 22 v1 rfl rfl)
  obtain ⟨A1, w1⟩ := rects_see h1
  have k2 := h2
  have lt2 : ∀ x ∈ p2, x.block < W.heap.size := by obtain ⟨m, hm⟩ := k2; exact DataW.trod_lt m _ _ _ hm
  obtain ⟨a2, rfl, rfl, rfl, w2⟩ := open_int Try.underlying3 (hval 2 3 v2 rfl rfl) h2
  have k3 := h3
  have lt3 : ∀ x ∈ p3, x.block < W.heap.size := by obtain ⟨m, hm⟩ := k3; exact DataW.trod_lt m _ _ _ hm
  obtain ⟨a3, rfl, rfl, rfl, w3⟩ := open_int Try.underlying3 (hval 3 3 v3 rfl rfl) h3
  clear hA0 hval0
  refine (walk says a0 len0 cap0 A0 a1 len1 cap1 A1 a2 a3 W w0 w1 w2 w3).mono fun e W' ⟨he, bel⟩ => ?_
  subst he
  exact ⟨_, rfl, _, _, _, [], _, [], hW', trodAll_mk1 (shut_bool Try.underlying4 _), (trodAll_cons_mk (Below.trod laidOut (by kernel_rfl) (of_decide_eq_true (by kernel_rfl)) k0 bel lt0) (trodAll_cons_mk (Below.trod laidOut (by kernel_rfl) (of_decide_eq_true (by kernel_rfl)) k1 bel lt1) (trodAll_cons_mk (Below.trod laidOut (by kernel_rfl) (of_decide_eq_true (by kernel_rfl)) k2 bel lt2) (trodAll_cons_mk (Below.trod laidOut (by kernel_rfl) (of_decide_eq_true (by kernel_rfl)) k3 bel lt3) trodAll_mk0)))), rfl, bel.frame _, fun h => by cases h⟩

theorem over : Rows.regionLogicRow.holds Try.pinned (OpenSpec.ofChange Rows.regionLogicSpec) :=
  OpenClaim.holds_of_wide 5 Try.f5 rfl rfl rfl rfl rfl rfl rfl ⟨rfl, rfl, rfl, rfl, rfl⟩ rfl rfl rfl rfl rfl (by kernel_rfl) Try.func5 (by kernel_rfl)
    (of_decide_eq_true (by kernel_rfl)) (by unfold Func.isWrapper; first | (rw [if_pos (by decide +kernel)]; kernel_rfl) | (rw [if_neg (by decide +kernel)]; exact ⟨rfl, rfl⟩))
    (fun os started H enc _ => lifted os started H enc)

theorem proved : Rows.RegionLogicSaid := over
end Go.Proofs.Ytedlhfemmofbpaa.regionLogic
