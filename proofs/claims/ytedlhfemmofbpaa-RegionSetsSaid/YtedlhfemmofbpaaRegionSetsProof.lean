/-
  RegionSets (layer 15): the region of any rectangles, and of two that are combined, is the document's.
-/
import Derived.Test.YtedlhfemmofbpaaRows
import Derived.Test.YtedlhfemmofbpaaRegProg
import Derived.WalkKit
import Derived.ProofKit
import Derived.OpenShut
import Derived.ShutString
import Derived.ChangeOld
import Derived.Below
import Derived.Lib.SmallJoins
import Derived.Deep.Slices
namespace Go.Proofs.Ytedlhfemmofbpaa.regionSets
open Go.Proofs.Ytedlhfemmofbpaa.Reg
open Lz RowG RegVal
open Go.ChangeShapes Go.WideShapes Go.ChangeAt Go.RowKit
open Go.ChangeMaps (open_string shut_string)
set_option linter.unusedVariables false

theorem own : ownKnob Try.prog.godebug = none := by kernel_rfl
theorem laidOut : laidOutB Try.prog = true := by kernel_rfl

set_option maxRecDepth 100000 in
set_option maxHeartbeats 8000000 in
theorem walk (D : Says) (a : Option Addr) (n cap : Nat) (l : List Rc) (b : Option Addr) (m capb : Nat) (k : List Rc) (W : World) (w0 : RcArg W a n cap l) (w1 : RcArg W b m capb k) :
    Calls Try.prog 3 #[.slice a n cap, .slice b m capb] W fun e w' => e = .returned (.bool true) ∧ Below W.heap.size W w' := by
  have hl := w0.1
  have hk := w1.1
  have SA := Lib.hid w0.sees
  have WLl : RowKit.Hid (∀ r ∈ l, r.wf) := Lib.hid w0.2.2.2.1
  have SB := Lib.hid w1.sees
  have WLk : RowKit.Hid (∀ r ∈ k, r.wf) := Lib.hid w1.2.2.2.1
  have hn := w0.2.1
  have hm := w1.2.1
  unfold maxLen at hn hm
  clear w0 w1
  by_cases hg : 12 < n
  · have hg' : decide ((12 : Int) < n) = true := decide_eq_true (by omega)
    go_enter Try.func3, Try.ntmps3
    go_wp2_with fail
    refine (works_any D _).mono ?_
    rintro r w1 ⟨rfl, b1⟩
    go_wp2_with fail
    all_goals (go_ret; exact ⟨rfl, b1⟩)
  by_cases hg2 : 12 < m
  · have hg' : decide ((12 : Int) < n) = false := decide_eq_false (by omega)
    have hg2' : decide ((12 : Int) < m) = true := decide_eq_true (by omega)
    go_enter Try.func3, Try.ntmps3
    go_wp2_with fail
    refine (works_any D _).mono ?_
    rintro r w1 ⟨rfl, b1⟩
    go_wp2_with fail
    all_goals (go_ret; exact ⟨rfl, b1⟩)
  have hg' : decide ((12 : Int) < n) = false := decide_eq_false (by omega)
  have hg2' : decide ((12 : Int) < m) = false := decide_eq_false (by omega)
  have L1 : l.length ≤ 12 := by omega
  have L2 : k.length ≤ 12 := by omega
  have V0 := Lib.hid (works_any D)
  have V1 := Lib.hid (fun v w => D.make l v w (by omega) WLl.out)
  have V2 := Lib.hid (fun va vb w => D.union l k va vb w (by omega) WLl.out WLk.out)
  have V3 := Lib.hid (fun va vb w => D.minus l k va vb w (by omega) WLl.out WLk.out)
  have V4 := Lib.hid (fun va vb w => D.both l k va vb w (by omega) WLl.out WLk.out)
  have R0 := Lib.hid (fun va w h => refCombine_any 0 l [] va (.slice none 0 0) w (by simp; omega) h (SeesR.nil w))
  have R1 := Lib.hid (fun op va vb w => refCombine_any op l k va vb w (by omega))
  have SM := Lib.hid (fun (c : List Rc) va vb w (hc : c.length ≤ 1000000000) => refSame_yes c va vb w hc)
  have M1 : RowKit.Hid ((make l).length ≤ 1000000000) := Lib.hid (make_fits l (by omega))
  have M2 : RowKit.Hid (∀ op, (combL op l k).length ≤ 1000000000) := Lib.hid (fun op => comb_fits op l k (by omega))
  rw [make_eq] at R0
  clear D hg hg2
  go_enter Try.func3, Try.ntmps3
  go_wp2_with fail
  refine (V0.out _).mono ?_
  rintro r w1 ⟨rfl, b1⟩
  have SA1 := Lib.hid (SA.out.below b1)
  have SB1 := Lib.hid (SB.out.below b1)
  have Bel1 := Lib.hid b1
  clear SA SB b1
  go_wp2_with fail

  refine (V1.out _ w1 SA1.out).mono ?_
  rintro r wp ⟨u, rfl, s1, b⟩
  have s2 := SA1.out.below b
  have s3 := SB1.out.below b
  have q := Bel1.out.trans (b.mono Bel1.out.size)
  have S1 := Lib.hid s1
  have S2 := Lib.hid s2
  have S3 := Lib.hid s3
  have Q := Lib.hid q
  clear SA1 SB1 Bel1 b s1 s2 s3 q
  go_wp2_with fail
  refine (R0.out _ wp S2.out).mono ?_
  rintro r wq ⟨v, rfl, t1, b⟩
  have T1 := Lib.hid (S1.out.below b)
  have T2 := Lib.hid (S2.out.below b)
  have T3 := Lib.hid (S3.out.below b)
  have T4 := Lib.hid t1.sees
  have TQ := Lib.hid (Q.out.trans (b.mono Q.out.size))
  clear S1 S2 S3 Q b t1
  go_wp2_with fail
  refine (SM.out _ _ _ wq M1.out T1.out T4.out).mono ?_
  rintro r w ⟨rfl, z, rfl⟩
  have SA2 := Lib.hid (T2.out.drewN z)
  have SB2 := Lib.hid (T3.out.drewN z)
  have Bel2 := Lib.hid (below_drewN TQ.out z)
  clear T1 T2 T3 T4 TQ
  generalize wq.drewN z = w2 at *
  go_wp2_with fail
  refine (V2.out _ _ w2 SA2.out SB2.out).mono ?_
  rintro r wp ⟨u, rfl, s1, b⟩
  have s2 := SA2.out.below b
  have s3 := SB2.out.below b
  have q := Bel2.out.trans (b.mono Bel2.out.size)
  have S1 := Lib.hid s1
  have S2 := Lib.hid s2
  have S3 := Lib.hid s3
  have Q := Lib.hid q
  clear SA2 SB2 Bel2 b s1 s2 s3 q
  go_wp2_with fail
  refine (R1.out 0 _ _ wp S2.out S3.out).mono ?_
  rintro r wq ⟨v, rfl, t1, b⟩
  have T1 := Lib.hid (S1.out.below b)
  have T2 := Lib.hid (S2.out.below b)
  have T3 := Lib.hid (S3.out.below b)
  have T4 := Lib.hid t1.sees
  have TQ := Lib.hid (Q.out.trans (b.mono Q.out.size))
  clear S1 S2 S3 Q b t1
  go_wp2_with fail
  refine (SM.out _ _ _ wq (M2.out 0) T1.out T4.out).mono ?_
  rintro r w ⟨rfl, z, rfl⟩
  have SA3 := Lib.hid (T2.out.drewN z)
  have SB3 := Lib.hid (T3.out.drewN z)
  have Bel3 := Lib.hid (below_drewN TQ.out z)
  clear T1 T2 T3 T4 TQ
  generalize wq.drewN z = w3 at *
  go_wp2_with fail
  refine (V3.out _ _ w3 SA3.out SB3.out).mono ?_
  rintro r wp ⟨u, rfl, s1, b⟩
  have s2 := SA3.out.below b
  have s3 := SB3.out.below b
  have q := Bel3.out.trans (b.mono Bel3.out.size)
  have S1 := Lib.hid s1
  have S2 := Lib.hid s2
  have S3 := Lib.hid s3
  have Q := Lib.hid q
  clear SA3 SB3 Bel3 b s1 s2 s3 q
  go_wp2_with fail
  refine (R1.out 1 _ _ wp S2.out S3.out).mono ?_
  rintro r wq ⟨v, rfl, t1, b⟩
  have T1 := Lib.hid (S1.out.below b)
  have T2 := Lib.hid (S2.out.below b)
  have T3 := Lib.hid (S3.out.below b)
  have T4 := Lib.hid t1.sees
  have TQ := Lib.hid (Q.out.trans (b.mono Q.out.size))
  clear S1 S2 S3 Q b t1
  go_wp2_with fail
  refine (SM.out _ _ _ wq (M2.out 1) T1.out T4.out).mono ?_
  rintro r w ⟨rfl, z, rfl⟩
  have SA4 := Lib.hid (T2.out.drewN z)
  have SB4 := Lib.hid (T3.out.drewN z)
  have Bel4 := Lib.hid (below_drewN TQ.out z)
  clear T1 T2 T3 T4 TQ
  generalize wq.drewN z = w4 at *
  go_wp2_with fail
  refine (V4.out _ _ w4 SA4.out SB4.out).mono ?_
  rintro r wp ⟨u, rfl, s1, b⟩
  have s2 := SA4.out.below b
  have s3 := SB4.out.below b
  have q := Bel4.out.trans (b.mono Bel4.out.size)
  have S1 := Lib.hid s1
  have S2 := Lib.hid s2
  have S3 := Lib.hid s3
  have Q := Lib.hid q
  clear SA4 SB4 Bel4 b s1 s2 s3 q
  go_wp2_with fail
  refine (R1.out 2 _ _ wp S2.out S3.out).mono ?_
  rintro r wq ⟨v, rfl, t1, b⟩
  have T1 := Lib.hid (S1.out.below b)
  have T2 := Lib.hid (S2.out.below b)
  have T3 := Lib.hid (S3.out.below b)
  have T4 := Lib.hid t1.sees
  have TQ := Lib.hid (Q.out.trans (b.mono Q.out.size))
  clear S1 S2 S3 Q b t1
  go_wp2_with fail
  refine (SM.out _ _ _ wq (M2.out 2) T1.out T4.out).mono ?_
  rintro r w ⟨rfl, z, rfl⟩
  have SA5 := Lib.hid (T2.out.drewN z)
  have SB5 := Lib.hid (T3.out.drewN z)
  have Bel5 := Lib.hid (below_drewN TQ.out z)
  clear T1 T2 T3 T4 TQ
  generalize wq.drewN z = w5 at *
  go_wp2_with fail
  go_ret
  exact ⟨rfl, Bel5.out⟩

set_option maxRecDepth 100000 in
theorem lifted (os : Os) (started : os.Started) (H : Type) (enc : TypeId × Value → H) :
    ReturnsInHanded {} Try.checked os 3 .any (Rows.regionSetsSpec.pre6 enc Try.prog Try.f3 Rows.regionSetsRow.domain false) (Rows.regionSetsSpec.post enc Try.prog Try.f3 false true false false) := by
  refine returnsInHanded_of_change (C := Try.checked) own started (by kernel_rfl) Try.func3
    (ChangeSpec.witness6 (enc := enc) (C := Try.checked) false ⟨#[], #[.slice none 0 0, .slice none 0 0], []⟩ 8 (by kernel_rfl) (by kernel_rfl) (by kernel_rfl) (by kernel_rfl)) ?_
  intro W base args ds gs before hval0 hW hcnd _
  have hval : ∀ (j : Nat) t v, Try.f3.params[j]? = some t → args[j]? = some v → Value.okWide Try.prog W .any base t v := hval0
  have hW' := hW
  obtain ⟨p, q, hA0, hV, rfl, hfz, hnd⟩ := hW
  have hA : DataW.TrodAll enc Try.prog W 0 (fun _ => true) true Try.f3.params.toList args.toList ds p := hA0
  rw [Try.params3] at hA hval
  obtain ⟨v0, vs0, d0, ds0, p0, q0, hargs, rfl, rfl, h0, r0⟩ := trodAll_cons hA
  obtain ⟨v1, vs1, d1, ds1, p1, q1, rfl, rfl, rfl, h1, r1⟩ := trodAll_cons r0
  obtain ⟨rfl, rfl, rfl⟩ := trodAll_nil r1
  obtain rfl : args = #[v0, v1] := by cases args; simp_all
  obtain ⟨rfl, rfl⟩ := trodVars_none hV
  have k0 := h0
  have lt0 : ∀ x ∈ p0, x.block < W.heap.size := by obtain ⟨m, hm⟩ := k0; exact DataW.trod_lt m _ _ _ hm
  obtain ⟨a0, len0, cap0, rfl⟩ := okWide_slice Try.underlying22 (hval 0 22 v0 rfl rfl)
  obtain ⟨A0, w0⟩ := rects_see h0
  have k1 := h1
  have lt1 : ∀ x ∈ p1, x.block < W.heap.size := by obtain ⟨m, hm⟩ := k1; exact DataW.trod_lt m _ _ _ hm
  obtain ⟨a1, len1, cap1, rfl⟩ := okWide_slice Try.underlying22 (hval 1 22 v1 rfl rfl)
  obtain ⟨A1, w1⟩ := rects_see h1
  clear hA0 hval0
  refine (walk says a0 len0 cap0 A0 a1 len1 cap1 A1 W w0 w1).mono fun e W' ⟨he, bel⟩ => ?_
  subst he
  exact ⟨_, rfl, _, _, _, [], _, [], hW', trodAll_mk1 (shut_bool Try.underlying4 _), (trodAll_cons_mk (Below.trod laidOut (by kernel_rfl) (of_decide_eq_true (by kernel_rfl)) k0 bel lt0) (trodAll_cons_mk (Below.trod laidOut (by kernel_rfl) (of_decide_eq_true (by kernel_rfl)) k1 bel lt1) trodAll_mk0)), rfl, bel.frame _, fun h => by cases h⟩

theorem over : Rows.regionSetsRow.holds Try.pinned (OpenSpec.ofChange Rows.regionSetsSpec) :=
  OpenClaim.holds_of_wide 3 Try.f3 rfl rfl rfl rfl rfl rfl rfl ⟨rfl, rfl, rfl, rfl, rfl⟩ rfl rfl rfl rfl rfl (by kernel_rfl) Try.func3 (by kernel_rfl)
    (of_decide_eq_true (by kernel_rfl)) (by unfold Func.isWrapper; first | (rw [if_pos (by decide +kernel)]; kernel_rfl) | (rw [if_neg (by decide +kernel)]; exact ⟨rfl, rfl⟩))
    (fun os started H enc _ => lifted os started H enc)

theorem proved : Rows.RegionSetsSaid := over
end Go.Proofs.Ytedlhfemmofbpaa.regionSets
