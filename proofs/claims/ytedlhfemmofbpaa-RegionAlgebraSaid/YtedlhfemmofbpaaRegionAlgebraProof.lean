/-
  RegionAlgebra (layer 15): unions, differences and intersections keep the laws of sets.
-/
import Derived.Test.YtedlhfemmofbpaaRows
import Derived.Test.YtedlhfemmofbpaaRegProg
import Derived.WalkKit
import Derived.ProofKit
import Derived.OpenShut
import Derived.ShutString
import Derived.ChangeOld
import Derived.Below
import Derived.Lib.SmallJoins
import Derived.Deep.Slices
namespace Go.Proofs.Ytedlhfemmofbpaa.regionAlgebra
open Go.Proofs.Ytedlhfemmofbpaa.Reg
open Lz RowG RegVal
open Go.ChangeShapes Go.WideShapes Go.ChangeAt Go.RowKit
open Go.ChangeMaps (open_string shut_string)
set_option linter.unusedVariables false

theorem own : ownKnob Try.prog.godebug = none := by kernel_rfl
theorem laidOut : laidOutB Try.prog = true := by kernel_rfl

set_option linter.unusedSimpArgs false
set_option maxRecDepth 100000 in
set_option maxHeartbeats 16000000 in
theorem walk (D : Says) (a : Option Addr) (n cap : Nat) (l : List Rc) (b : Option Addr) (m capb : Nat) (k : List Rc) (c : Option Addr) (o capc : Nat) (j : List Rc) (W : World) (w0 : RcArg W a n cap l) (w1 : RcArg W b m capb k) (w2 : RcArg W c o capc j) :
    Calls Try.prog 7 #[.slice a n cap, .slice b m capb, .slice c o capc] W fun e w' => e = .returned (.bool true) ∧ Below W.heap.size W w' := by
  have hl := w0.1
  have hk := w1.1
  have hj := w2.1
  have SA := Lib.hid w0.sees
  have WLl : RowKit.Hid (∀ r ∈ l, r.wf) := Lib.hid w0.2.2.2.1
  have SB := Lib.hid w1.sees
  have WLk : RowKit.Hid (∀ r ∈ k, r.wf) := Lib.hid w1.2.2.2.1
  have SC := Lib.hid w2.sees
  have WLj : RowKit.Hid (∀ r ∈ j, r.wf) := Lib.hid w2.2.2.2.1
  have qn := w0.2.1
  have qm := w1.2.1
  have qo := w2.2.1
  unfold maxLen at qn qm qo
  clear w0 w1 w2
  by_cases g1 : 12 < n
  · have hn : decide ((12 : Int) < n) = true := decide_eq_true (by omega)
    go_enter Try.func7, Try.ntmps7
    go_wp2_with fail
    refine (works_any D _).mono ?_
    rintro r w1 ⟨rfl, b1⟩
    go_wp2_with fail
    all_goals (go_ret; exact ⟨rfl, b1⟩)
  by_cases g2 : 12 < m
  · have hn : decide ((12 : Int) < n) = false := decide_eq_false (by omega)
    have hm : decide ((12 : Int) < m) = true := decide_eq_true (by omega)
    go_enter Try.func7, Try.ntmps7
    go_wp2_with fail
    refine (works_any D _).mono ?_
    rintro r w1 ⟨rfl, b1⟩
    go_wp2_with fail
    all_goals (go_ret; exact ⟨rfl, b1⟩)
  by_cases g3 : 12 < o
  · have hn : decide ((12 : Int) < n) = false := decide_eq_false (by omega)
    have hm : decide ((12 : Int) < m) = false := decide_eq_false (by omega)
    have ho : decide ((12 : Int) < o) = true := decide_eq_true (by omega)
    go_enter Try.func7, Try.ntmps7
    go_wp2_with fail
    refine (works_any D _).mono ?_
    rintro r w1 ⟨rfl, b1⟩
    go_wp2_with fail
    all_goals (go_ret; exact ⟨rfl, b1⟩)
  have hn : decide ((12 : Int) < n) = false := decide_eq_false (by omega)
  have hm : decide ((12 : Int) < m) = false := decide_eq_false (by omega)
  have ho : decide ((12 : Int) < o) = false := decide_eq_false (by omega)
  have L1 : l.length ≤ 12 := by omega
  have L2 : k.length ≤ 12 := by omega
  have L3 : j.length ≤ 12 := by omega
  have V0 := Lib.hid (works_any D)
  have sU := comb_small 0 l k 24 (by omega)
  have sI := comb_small 2 l k 24 (by omega)
  have sD := comb_small 1 l k 24 (by omega)
  have sBC := comb_small 0 k j 24 (by omega)
  have sIA := comb_small 2 l j 24 (by omega)
  have sIB := comb_small 2 k j 24 (by omega)
  have sM := make_small l 24 (by omega)
  have SM := Lib.hid (fun (c : List Rc) va vb w (hc : c.length ≤ 1000000000) => refSame_yes c va vb w (by omega))
  have fU := comb_fits 0 (combL 0 l k) j (by omega)
  have fI := comb_fits 2 (combL 0 l k) j (by omega)
  have fD := comb_fits 1 (combL 1 l k) j (by omega)
  have VU := fun va vb w => D.union l k va vb w (by omega) WLl.out WLk.out
  replace VU := Lib.hid VU
  have VI := fun va vb w => D.both l k va vb w (by omega) WLl.out WLk.out
  replace VI := Lib.hid VI
  have VD := fun va vb w => D.minus l k va vb w (by omega) WLl.out WLk.out
  replace VD := Lib.hid VD
  have VU2 := fun va vb w => D.union k l va vb w (by omega) WLk.out WLl.out
  rw [show combL 0 k l = combL 0 l k from same_places 0 0 (fun x y => by (try simp only [comb_in, make_has, hasL_nil]); cases hasL l x y <;> cases hasL k x y <;> rfl)] at VU2
  replace VU2 := Lib.hid VU2
  have VI2 := fun va vb w => D.both k l va vb w (by omega) WLk.out WLl.out
  rw [show combL 2 k l = combL 2 l k from same_places 2 2 (fun x y => by (try simp only [comb_in, make_has, hasL_nil]); cases hasL l x y <;> cases hasL k x y <;> rfl)] at VI2
  replace VI2 := Lib.hid VI2
  have VN1 := fun va vb w ha hb => D.minus l l va vb w (by omega) WLl.out WLl.out ha hb
  rw [show combL 1 l l = [] from no_places 1 (fun x y => by (try simp only [comb_in]); cases hasL l x y <;> rfl)] at VN1
  replace VN1 := Lib.hid (fun va vb w ha hb => none_of (VN1 va vb w ha hb))
  have VI3 := fun va vb w => D.both l l va vb w (by omega) WLl.out WLl.out
  rw [show combL 2 l l = combL 0 l [] from same_places 2 0 (fun x y => by (try simp only [comb_in, make_has, hasL_nil]); cases hasL l x y <;> rfl), ← make_comb0] at VI3
  replace VI3 := Lib.hid VI3
  have VM := Lib.hid (fun v w => D.make l v w (by omega) WLl.out)
  have VU3 := fun va vb w => D.union (combL 1 l k) (combL 2 l k) va vb w (by omega) (comb_wfL 1 l k) (comb_wfL 2 l k)
  rw [show combL 0 (combL 1 l k) (combL 2 l k) = combL 0 l [] from same_places 0 0 (fun x y => by (try simp only [comb_in, make_has, hasL_nil]); cases hasL l x y <;> cases hasL k x y <;> rfl), ← make_comb0] at VU3
  replace VU3 := Lib.hid VU3
  have VN2 := fun va vb w ha hb => D.both (combL 1 l k) k va vb w (by omega) (comb_wfL 1 l k) WLk.out ha hb
  rw [show combL 2 (combL 1 l k) k = [] from no_places 2 (fun x y => by (try simp only [comb_in]); cases hasL l x y <;> cases hasL k x y <;> rfl)] at VN2
  replace VN2 := Lib.hid (fun va vb w ha hb => none_of (VN2 va vb w ha hb))
  have VU4 := fun va vb w => D.union (combL 0 l k) j va vb w (by omega) (comb_wfL 0 l k) WLj.out
  replace VU4 := Lib.hid VU4
  have VBC := fun va vb w => D.union k j va vb w (by omega) WLk.out WLj.out
  replace VBC := Lib.hid VBC
  have VU5 := fun va vb w => D.union l (combL 0 k j) va vb w (by omega) WLl.out (comb_wfL 0 k j)
  rw [show combL 0 l (combL 0 k j) = combL 0 (combL 0 l k) j from same_places 0 0 (fun x y => by (try simp only [comb_in, make_has, hasL_nil]); cases hasL l x y <;> cases hasL k x y <;> cases hasL j x y <;> rfl)] at VU5
  replace VU5 := Lib.hid VU5
  have VI4 := fun va vb w => D.both (combL 0 l k) j va vb w (by omega) (comb_wfL 0 l k) WLj.out
  replace VI4 := Lib.hid VI4
  have VIA := fun va vb w => D.both l j va vb w (by omega) WLl.out WLj.out
  replace VIA := Lib.hid VIA
  have VIB := fun va vb w => D.both k j va vb w (by omega) WLk.out WLj.out
  replace VIB := Lib.hid VIB
  have VU6 := fun va vb w => D.union (combL 2 l j) (combL 2 k j) va vb w (by omega) (comb_wfL 2 l j) (comb_wfL 2 k j)
  rw [show combL 0 (combL 2 l j) (combL 2 k j) = combL 2 (combL 0 l k) j from same_places 0 2 (fun x y => by (try simp only [comb_in, make_has, hasL_nil]); cases hasL l x y <;> cases hasL k x y <;> cases hasL j x y <;> rfl)] at VU6
  replace VU6 := Lib.hid VU6
  have VD2 := fun va vb w => D.minus (combL 1 l k) j va vb w (by omega) (comb_wfL 1 l k) WLj.out
  replace VD2 := Lib.hid VD2
  have VD3 := fun va vb w => D.minus l (combL 0 k j) va vb w (by omega) WLl.out (comb_wfL 0 k j)
  rw [show combL 1 l (combL 0 k j) = combL 1 (combL 1 l k) j from same_places 1 1 (fun x y => by (try simp only [comb_in, make_has, hasL_nil]); cases hasL l x y <;> cases hasL k x y <;> cases hasL j x y <;> rfl)] at VD3
  replace VD3 := Lib.hid VD3
  have EQ := area_two l k
  have r1 := area_range (combL 0 l k)
  have r2 := area_range (combL 2 l k)
  have r3 := area_range l
  have r4 := area_range k
  have A1 := Lib.hid (fun v w => D.area (combL 0 l k) v w (by omega) (comb_wfL 0 l k))
  have A2 := Lib.hid (fun v w => D.area (combL 2 l k) v w (by omega) (comb_wfL 2 l k))
  have A3 := Lib.hid (fun v w => D.area l v w (by omega) WLl.out)
  have A4 := Lib.hid (fun v w => D.area k v w (by omega) WLk.out)
  generalize areaL (make (combL 0 l k)) = a1 at *
  generalize areaL (make (combL 2 l k)) = a2 at *
  generalize areaL (make l) = a3 at *
  generalize areaL (make k) = a4 at *
  generalize combL 0 (combL 0 l k) j = lU4 at *
  generalize combL 2 (combL 0 l k) j = lI4 at *
  generalize combL 1 (combL 1 l k) j = lD2 at *
  generalize combL 0 k j = lBC at *
  generalize combL 2 l j = lIA at *
  generalize combL 2 k j = lIB at *
  generalize combL 0 l k = lU at *
  generalize combL 2 l k = lI at *
  generalize combL 1 l k = lD at *
  generalize make l = lM at *
  have Z1 : RowKit.Hid (lU.length ≤ 1000000000) := Lib.hid (by omega)
  have Z2 : RowKit.Hid (lI.length ≤ 1000000000) := Lib.hid (by omega)
  have Z3 : RowKit.Hid (lM.length ≤ 1000000000) := Lib.hid (by omega)
  have Z4 : RowKit.Hid (lU4.length ≤ 1000000000) := Lib.hid (by omega)
  have Z5 : RowKit.Hid (lI4.length ≤ 1000000000) := Lib.hid (by omega)
  have Z6 : RowKit.Hid (lD2.length ≤ 1000000000) := Lib.hid (by omega)
  have EQ' : decide (a1 + a2 = a3 + a4) = true := decide_eq_true EQ
  clear D g1 g2 g3 sU sI sD sBC sIA sIB sM fU fI fD
  go_enter Try.func7, Try.ntmps7
  go_wp2_with fail
  refine (V0.out _).mono ?_
  rintro r w1 ⟨rfl, bb⟩
  have SA1 := Lib.hid (SA.out.below bb)
  have SB1 := Lib.hid (SB.out.below bb)
  have SC1 := Lib.hid (SC.out.below bb)
  have Bel1 := Lib.hid bb
  clear SA SB SC bb
  go_wp2_with fail
  refine (VU.out _ _ w1 SA1.out SB1.out).mono ?_
  rintro r w2 ⟨uU, rfl, s, b⟩
  have SA2 := Lib.hid (SA1.out.below b)
  have SB2 := Lib.hid (SB1.out.below b)
  have SC2 := Lib.hid (SC1.out.below b)
  have U2 := Lib.hid s
  have Bel2 := Lib.hid (Bel1.out.trans (b.mono Bel1.out.size))
  clear SA1 SB1 SC1 Bel1 b s
  go_wp2_with fail
  refine (VI.out _ _ w2 SA2.out SB2.out).mono ?_
  rintro r w3 ⟨uI, rfl, s, b⟩
  have SA3 := Lib.hid (SA2.out.below b)
  have SB3 := Lib.hid (SB2.out.below b)
  have SC3 := Lib.hid (SC2.out.below b)
  have U3 := Lib.hid (U2.out.below b)
  have I3 := Lib.hid s
  have Bel3 := Lib.hid (Bel2.out.trans (b.mono Bel2.out.size))
  clear SA2 SB2 SC2 U2 Bel2 b s
  go_wp2_with fail
  refine (VD.out _ _ w3 SA3.out SB3.out).mono ?_
  rintro r w4 ⟨uE, rfl, s, b⟩
  have SA4 := Lib.hid (SA3.out.below b)
  have SB4 := Lib.hid (SB3.out.below b)
  have SC4 := Lib.hid (SC3.out.below b)
  have U4 := Lib.hid (U3.out.below b)
  have I4 := Lib.hid (I3.out.below b)
  have E4 := Lib.hid s
  have Bel4 := Lib.hid (Bel3.out.trans (b.mono Bel3.out.size))
  clear SA3 SB3 SC3 U3 I3 Bel3 b s
  go_wp2_with fail
  refine (VU2.out _ _ w4 SB4.out SA4.out).mono ?_
  rintro r w5 ⟨uP, rfl, s, b⟩
  have SA5 := Lib.hid (SA4.out.below b)
  have SB5 := Lib.hid (SB4.out.below b)
  have SC5 := Lib.hid (SC4.out.below b)
  have U5 := Lib.hid (U4.out.below b)
  have I5 := Lib.hid (I4.out.below b)
  have E5 := Lib.hid (E4.out.below b)
  have P5 := Lib.hid s
  have Bel5 := Lib.hid (Bel4.out.trans (b.mono Bel4.out.size))
  clear SA4 SB4 SC4 U4 I4 E4 Bel4 b s
  go_wp2_with fail
  refine (SM.out _ _ _ w5 Z1.out U5.out P5.out).mono ?_
  rintro r w6 ⟨rfl, z, rfl⟩
  have SA6 := Lib.hid (SA5.out.drewN z)
  have SB6 := Lib.hid (SB5.out.drewN z)
  have SC6 := Lib.hid (SC5.out.drewN z)
  have U6 := Lib.hid (U5.out.drewN z)
  have I6 := Lib.hid (I5.out.drewN z)
  have E6 := Lib.hid (E5.out.drewN z)
  have Bel6 := Lib.hid (below_drewN Bel5.out z)
  clear SA5 SB5 SC5 U5 I5 E5 Bel5
  generalize w5.drewN z = w6 at *
  go_wp2_with fail
  refine (VI2.out _ _ w6 SB6.out SA6.out).mono ?_
  rintro r w7 ⟨uP, rfl, s, b⟩
  have SA7 := Lib.hid (SA6.out.below b)
  have SB7 := Lib.hid (SB6.out.below b)
  have SC7 := Lib.hid (SC6.out.below b)
  have U7 := Lib.hid (U6.out.below b)
  have I7 := Lib.hid (I6.out.below b)
  have E7 := Lib.hid (E6.out.below b)
  have P7 := Lib.hid s
  have Bel7 := Lib.hid (Bel6.out.trans (b.mono Bel6.out.size))
  clear SA6 SB6 SC6 U6 I6 E6 Bel6 b s
  go_wp2_with fail
  refine (SM.out _ _ _ w7 Z2.out I7.out P7.out).mono ?_
  rintro r w8 ⟨rfl, z, rfl⟩
  have SA8 := Lib.hid (SA7.out.drewN z)
  have SB8 := Lib.hid (SB7.out.drewN z)
  have SC8 := Lib.hid (SC7.out.drewN z)
  have U8 := Lib.hid (U7.out.drewN z)
  have I8 := Lib.hid (I7.out.drewN z)
  have E8 := Lib.hid (E7.out.drewN z)
  have Bel8 := Lib.hid (below_drewN Bel7.out z)
  clear SA7 SB7 SC7 U7 I7 E7 Bel7
  generalize w7.drewN z = w8 at *
  go_wp2_with fail
  refine (VN1.out _ _ w8 SA8.out SA8.out).mono ?_
  rintro r w9 ⟨p, c, rfl, b⟩
  have SA9 := Lib.hid (SA8.out.below b)
  have SB9 := Lib.hid (SB8.out.below b)
  have SC9 := Lib.hid (SC8.out.below b)
  have U9 := Lib.hid (U8.out.below b)
  have I9 := Lib.hid (I8.out.below b)
  have E9 := Lib.hid (E8.out.below b)
  have Bel9 := Lib.hid (Bel8.out.trans (b.mono Bel8.out.size))
  clear SA8 SB8 SC8 U8 I8 E8 Bel8 b
  go_wp2_with fail
  refine (VI3.out _ _ w9 SA9.out SA9.out).mono ?_
  rintro r w10 ⟨uP, rfl, s, b⟩
  have SA10 := Lib.hid (SA9.out.below b)
  have SB10 := Lib.hid (SB9.out.below b)
  have SC10 := Lib.hid (SC9.out.below b)
  have U10 := Lib.hid (U9.out.below b)
  have I10 := Lib.hid (I9.out.below b)
  have E10 := Lib.hid (E9.out.below b)
  have P10 := Lib.hid s
  have Bel10 := Lib.hid (Bel9.out.trans (b.mono Bel9.out.size))
  clear SA9 SB9 SC9 U9 I9 E9 Bel9 b s
  go_wp2_with fail
  refine (VM.out _ w10 SA10.out).mono ?_
  rintro r w11 ⟨uQ, rfl, s, b⟩
  have SA11 := Lib.hid (SA10.out.below b)
  have SB11 := Lib.hid (SB10.out.below b)
  have SC11 := Lib.hid (SC10.out.below b)
  have U11 := Lib.hid (U10.out.below b)
  have I11 := Lib.hid (I10.out.below b)
  have E11 := Lib.hid (E10.out.below b)
  have P11 := Lib.hid (P10.out.below b)
  have Q11 := Lib.hid s
  have Bel11 := Lib.hid (Bel10.out.trans (b.mono Bel10.out.size))
  clear SA10 SB10 SC10 U10 I10 E10 P10 Bel10 b s
  go_wp2_with fail
  refine (SM.out _ _ _ w11 Z3.out P11.out Q11.out).mono ?_
  rintro r w12 ⟨rfl, z, rfl⟩
  have SA12 := Lib.hid (SA11.out.drewN z)
  have SB12 := Lib.hid (SB11.out.drewN z)
  have SC12 := Lib.hid (SC11.out.drewN z)
  have U12 := Lib.hid (U11.out.drewN z)
  have I12 := Lib.hid (I11.out.drewN z)
  have E12 := Lib.hid (E11.out.drewN z)
  have Bel12 := Lib.hid (below_drewN Bel11.out z)
  clear SA11 SB11 SC11 U11 I11 E11 Bel11
  generalize w11.drewN z = w12 at *
  go_wp2_with fail
  refine (VU3.out _ _ w12 E12.out I12.out).mono ?_
  rintro r w13 ⟨uP, rfl, s, b⟩
  have SA13 := Lib.hid (SA12.out.below b)
  have SB13 := Lib.hid (SB12.out.below b)
  have SC13 := Lib.hid (SC12.out.below b)
  have U13 := Lib.hid (U12.out.below b)
  have I13 := Lib.hid (I12.out.below b)
  have E13 := Lib.hid (E12.out.below b)
  have P13 := Lib.hid s
  have Bel13 := Lib.hid (Bel12.out.trans (b.mono Bel12.out.size))
  clear SA12 SB12 SC12 U12 I12 E12 Bel12 b s
  go_wp2_with fail
  refine (VM.out _ w13 SA13.out).mono ?_
  rintro r w14 ⟨uQ, rfl, s, b⟩
  have SA14 := Lib.hid (SA13.out.below b)
  have SB14 := Lib.hid (SB13.out.below b)
  have SC14 := Lib.hid (SC13.out.below b)
  have U14 := Lib.hid (U13.out.below b)
  have I14 := Lib.hid (I13.out.below b)
  have E14 := Lib.hid (E13.out.below b)
  have P14 := Lib.hid (P13.out.below b)
  have Q14 := Lib.hid s
  have Bel14 := Lib.hid (Bel13.out.trans (b.mono Bel13.out.size))
  clear SA13 SB13 SC13 U13 I13 E13 P13 Bel13 b s
  go_wp2_with fail
  refine (SM.out _ _ _ w14 Z3.out P14.out Q14.out).mono ?_
  rintro r w15 ⟨rfl, z, rfl⟩
  have SA15 := Lib.hid (SA14.out.drewN z)
  have SB15 := Lib.hid (SB14.out.drewN z)
  have SC15 := Lib.hid (SC14.out.drewN z)
  have U15 := Lib.hid (U14.out.drewN z)
  have I15 := Lib.hid (I14.out.drewN z)
  have E15 := Lib.hid (E14.out.drewN z)
  have Bel15 := Lib.hid (below_drewN Bel14.out z)
  clear SA14 SB14 SC14 U14 I14 E14 Bel14
  generalize w14.drewN z = w15 at *
  go_wp2_with fail
  refine (VN2.out _ _ w15 E15.out SB15.out).mono ?_
  rintro r w16 ⟨p, c, rfl, b⟩
  have SA16 := Lib.hid (SA15.out.below b)
  have SB16 := Lib.hid (SB15.out.below b)
  have SC16 := Lib.hid (SC15.out.below b)
  have U16 := Lib.hid (U15.out.below b)
  have I16 := Lib.hid (I15.out.below b)
  have Bel16 := Lib.hid (Bel15.out.trans (b.mono Bel15.out.size))
  clear SA15 SB15 SC15 U15 I15 E15 Bel15 b
  go_wp2_with fail
  refine (VU4.out _ _ w16 U16.out SC16.out).mono ?_
  rintro r w17 ⟨uP, rfl, s, b⟩
  have SA17 := Lib.hid (SA16.out.below b)
  have SB17 := Lib.hid (SB16.out.below b)
  have SC17 := Lib.hid (SC16.out.below b)
  have U17 := Lib.hid (U16.out.below b)
  have I17 := Lib.hid (I16.out.below b)
  have P17 := Lib.hid s
  have Bel17 := Lib.hid (Bel16.out.trans (b.mono Bel16.out.size))
  clear SA16 SB16 SC16 U16 I16 Bel16 b s
  go_wp2_with fail
  refine (VBC.out _ _ w17 SB17.out SC17.out).mono ?_
  rintro r w18 ⟨uR, rfl, s, b⟩
  have SA18 := Lib.hid (SA17.out.below b)
  have SB18 := Lib.hid (SB17.out.below b)
  have SC18 := Lib.hid (SC17.out.below b)
  have U18 := Lib.hid (U17.out.below b)
  have I18 := Lib.hid (I17.out.below b)
  have P18 := Lib.hid (P17.out.below b)
  have R18 := Lib.hid s
  have Bel18 := Lib.hid (Bel17.out.trans (b.mono Bel17.out.size))
  clear SA17 SB17 SC17 U17 I17 P17 Bel17 b s
  go_wp2_with fail
  refine (VU5.out _ _ w18 SA18.out R18.out).mono ?_
  rintro r w19 ⟨uQ, rfl, s, b⟩
  have SA19 := Lib.hid (SA18.out.below b)
  have SB19 := Lib.hid (SB18.out.below b)
  have SC19 := Lib.hid (SC18.out.below b)
  have U19 := Lib.hid (U18.out.below b)
  have I19 := Lib.hid (I18.out.below b)
  have P19 := Lib.hid (P18.out.below b)
  have Q19 := Lib.hid s
  have Bel19 := Lib.hid (Bel18.out.trans (b.mono Bel18.out.size))
  clear SA18 SB18 SC18 U18 I18 P18 R18 Bel18 b s
  go_wp2_with fail
  refine (SM.out _ _ _ w19 Z4.out P19.out Q19.out).mono ?_
  rintro r w20 ⟨rfl, z, rfl⟩
  have SA20 := Lib.hid (SA19.out.drewN z)
  have SB20 := Lib.hid (SB19.out.drewN z)
  have SC20 := Lib.hid (SC19.out.drewN z)
  have U20 := Lib.hid (U19.out.drewN z)
  have I20 := Lib.hid (I19.out.drewN z)
  have Bel20 := Lib.hid (below_drewN Bel19.out z)
  clear SA19 SB19 SC19 U19 I19 Bel19
  generalize w19.drewN z = w20 at *
  go_wp2_with fail
  refine (VI4.out _ _ w20 U20.out SC20.out).mono ?_
  rintro r w21 ⟨uP, rfl, s, b⟩
  have SA21 := Lib.hid (SA20.out.below b)
  have SB21 := Lib.hid (SB20.out.below b)
  have SC21 := Lib.hid (SC20.out.below b)
  have U21 := Lib.hid (U20.out.below b)
  have I21 := Lib.hid (I20.out.below b)
  have P21 := Lib.hid s
  have Bel21 := Lib.hid (Bel20.out.trans (b.mono Bel20.out.size))
  clear SA20 SB20 SC20 U20 I20 Bel20 b s
  go_wp2_with fail
  refine (VIA.out _ _ w21 SA21.out SC21.out).mono ?_
  rintro r w22 ⟨uR, rfl, s, b⟩
  have SA22 := Lib.hid (SA21.out.below b)
  have SB22 := Lib.hid (SB21.out.below b)
  have SC22 := Lib.hid (SC21.out.below b)
  have U22 := Lib.hid (U21.out.below b)
  have I22 := Lib.hid (I21.out.below b)
  have P22 := Lib.hid (P21.out.below b)
  have R22 := Lib.hid s
  have Bel22 := Lib.hid (Bel21.out.trans (b.mono Bel21.out.size))
  clear SA21 SB21 SC21 U21 I21 P21 Bel21 b s
  go_wp2_with fail
  refine (VIB.out _ _ w22 SB22.out SC22.out).mono ?_
  rintro r w23 ⟨uS, rfl, s, b⟩
  have SA23 := Lib.hid (SA22.out.below b)
  have SB23 := Lib.hid (SB22.out.below b)
  have SC23 := Lib.hid (SC22.out.below b)
  have U23 := Lib.hid (U22.out.below b)
  have I23 := Lib.hid (I22.out.below b)
  have P23 := Lib.hid (P22.out.below b)
  have R23 := Lib.hid (R22.out.below b)
  have S23 := Lib.hid s
  have Bel23 := Lib.hid (Bel22.out.trans (b.mono Bel22.out.size))
  clear SA22 SB22 SC22 U22 I22 P22 R22 Bel22 b s
  go_wp2_with fail
  refine (VU6.out _ _ w23 R23.out S23.out).mono ?_
  rintro r w24 ⟨uQ, rfl, s, b⟩
  have SA24 := Lib.hid (SA23.out.below b)
  have SB24 := Lib.hid (SB23.out.below b)
  have SC24 := Lib.hid (SC23.out.below b)
  have U24 := Lib.hid (U23.out.below b)
  have I24 := Lib.hid (I23.out.below b)
  have P24 := Lib.hid (P23.out.below b)
  have Q24 := Lib.hid s
  have Bel24 := Lib.hid (Bel23.out.trans (b.mono Bel23.out.size))
  clear SA23 SB23 SC23 U23 I23 P23 R23 S23 Bel23 b s
  go_wp2_with fail
  refine (SM.out _ _ _ w24 Z5.out P24.out Q24.out).mono ?_
  rintro r w25 ⟨rfl, z, rfl⟩
  have SA25 := Lib.hid (SA24.out.drewN z)
  have SB25 := Lib.hid (SB24.out.drewN z)
  have SC25 := Lib.hid (SC24.out.drewN z)
  have U25 := Lib.hid (U24.out.drewN z)
  have I25 := Lib.hid (I24.out.drewN z)
  have Bel25 := Lib.hid (below_drewN Bel24.out z)
  clear SA24 SB24 SC24 U24 I24 Bel24
  generalize w24.drewN z = w25 at *
  go_wp2_with fail
  refine (VD.out _ _ w25 SA25.out SB25.out).mono ?_
  rintro r w26 ⟨uR, rfl, s, b⟩
  have SA26 := Lib.hid (SA25.out.below b)
  have SB26 := Lib.hid (SB25.out.below b)
  have SC26 := Lib.hid (SC25.out.below b)
  have U26 := Lib.hid (U25.out.below b)
  have I26 := Lib.hid (I25.out.below b)
  have R26 := Lib.hid s
  have Bel26 := Lib.hid (Bel25.out.trans (b.mono Bel25.out.size))
  clear SA25 SB25 SC25 U25 I25 Bel25 b s
  go_wp2_with fail
  refine (VD2.out _ _ w26 R26.out SC26.out).mono ?_
  rintro r w27 ⟨uP, rfl, s, b⟩
  have SA27 := Lib.hid (SA26.out.below b)
  have SB27 := Lib.hid (SB26.out.below b)
  have SC27 := Lib.hid (SC26.out.below b)
  have U27 := Lib.hid (U26.out.below b)
  have I27 := Lib.hid (I26.out.below b)
  have P27 := Lib.hid s
  have Bel27 := Lib.hid (Bel26.out.trans (b.mono Bel26.out.size))
  clear SA26 SB26 SC26 U26 I26 R26 Bel26 b s
  go_wp2_with fail
  refine (VBC.out _ _ w27 SB27.out SC27.out).mono ?_
  rintro r w28 ⟨uS, rfl, s, b⟩
  have SA28 := Lib.hid (SA27.out.below b)
  have SB28 := Lib.hid (SB27.out.below b)
  have SC28 := Lib.hid (SC27.out.below b)
  have U28 := Lib.hid (U27.out.below b)
  have I28 := Lib.hid (I27.out.below b)
  have P28 := Lib.hid (P27.out.below b)
  have S28 := Lib.hid s
  have Bel28 := Lib.hid (Bel27.out.trans (b.mono Bel27.out.size))
  clear SA27 SB27 SC27 U27 I27 P27 Bel27 b s
  go_wp2_with fail
  refine (VD3.out _ _ w28 SA28.out S28.out).mono ?_
  rintro r w29 ⟨uQ, rfl, s, b⟩
  have SA29 := Lib.hid (SA28.out.below b)
  have SB29 := Lib.hid (SB28.out.below b)
  have SC29 := Lib.hid (SC28.out.below b)
  have U29 := Lib.hid (U28.out.below b)
  have I29 := Lib.hid (I28.out.below b)
  have P29 := Lib.hid (P28.out.below b)
  have Q29 := Lib.hid s
  have Bel29 := Lib.hid (Bel28.out.trans (b.mono Bel28.out.size))
  clear SA28 SB28 SC28 U28 I28 P28 S28 Bel28 b s
  go_wp2_with fail
  refine (SM.out _ _ _ w29 Z6.out P29.out Q29.out).mono ?_
  rintro r w30 ⟨rfl, z, rfl⟩
  have SA30 := Lib.hid (SA29.out.drewN z)
  have SB30 := Lib.hid (SB29.out.drewN z)
  have SC30 := Lib.hid (SC29.out.drewN z)
  have U30 := Lib.hid (U29.out.drewN z)
  have I30 := Lib.hid (I29.out.drewN z)
  have Bel30 := Lib.hid (below_drewN Bel29.out z)
  clear SA29 SB29 SC29 U29 I29 Bel29
  generalize w29.drewN z = w30 at *
  go_wp2_with fail
  refine (A1.out _ w30 U30.out).mono ?_
  rintro r w31 ⟨rfl, b⟩
  have SA31 := Lib.hid (SA30.out.below b)
  have SB31 := Lib.hid (SB30.out.below b)
  have SC31 := Lib.hid (SC30.out.below b)
  have I31 := Lib.hid (I30.out.below b)
  have Bel31 := Lib.hid (Bel30.out.trans (b.mono Bel30.out.size))
  clear SA30 SB30 SC30 U30 I30 Bel30 b
  go_wp2_with fail
  refine (A2.out _ w31 I31.out).mono ?_
  rintro r w32 ⟨rfl, b⟩
  have SA32 := Lib.hid (SA31.out.below b)
  have SB32 := Lib.hid (SB31.out.below b)
  have SC32 := Lib.hid (SC31.out.below b)
  have Bel32 := Lib.hid (Bel31.out.trans (b.mono Bel31.out.size))
  clear SA31 SB31 SC31 I31 Bel31 b
  go_wp2_with fail
  refine (A3.out _ w32 SA32.out).mono ?_
  rintro r w33 ⟨rfl, b⟩
  have SA33 := Lib.hid (SA32.out.below b)
  have SB33 := Lib.hid (SB32.out.below b)
  have SC33 := Lib.hid (SC32.out.below b)
  have Bel33 := Lib.hid (Bel32.out.trans (b.mono Bel32.out.size))
  clear SA32 SB32 SC32 Bel32 b
  go_wp2_with fail
  refine (A4.out _ w33 SB33.out).mono ?_
  rintro r w34 ⟨rfl, b⟩
  have SA34 := Lib.hid (SA33.out.below b)
  have SB34 := Lib.hid (SB33.out.below b)
  have SC34 := Lib.hid (SC33.out.below b)
  have Bel34 := Lib.hid (Bel33.out.trans (b.mono Bel33.out.size))
  clear SA33 SB33 SC33 Bel33 b
  go_wp2_with fail
  go_ret
  exact ⟨rfl, Bel34.out⟩

set_option maxRecDepth 100000 in
theorem lifted (os : Os) (started : os.Started) (H : Type) (enc : TypeId × Value → H) :
    ReturnsInHanded {} Try.checked os 7 .any (Rows.regionAlgebraSpec.pre6 enc Try.prog Try.f7 Rows.regionAlgebraRow.domain false) (Rows.regionAlgebraSpec.post enc Try.prog Try.f7 false true false false) := by
  refine returnsInHanded_of_change (C := Try.checked) own started (by kernel_rfl) Try.func7
    (ChangeSpec.witness6 (enc := enc) (C := Try.checked) false ⟨#[], #[.slice none 0 0, .slice none 0 0, .slice none 0 0], []⟩ 8 (by kernel_rfl) (by kernel_rfl) (by kernel_rfl) (by kernel_rfl)) ?_
  intro W base args ds gs before hval0 hW hcnd _
  have hval : ∀ (j : Nat) t v, Try.f7.params[j]? = some t → args[j]? = some v → Value.okWide Try.prog W .any base t v := hval0
  have hW' := hW
  obtain ⟨p, q, hA0, hV, rfl, hfz, hnd⟩ := hW
  have hA : DataW.TrodAll enc Try.prog W 0 (fun _ => true) true Try.f7.params.toList args.toList ds p := hA0
  rw [Try.params7] at hA hval
  obtain ⟨v0, vs0, d0, ds0, p0, q0, hargs, rfl, rfl, h0, r0⟩ := trodAll_cons hA
  obtain ⟨v1, vs1, d1, ds1, p1, q1, rfl, rfl, rfl, h1, r1⟩ := trodAll_cons r0
  obtain ⟨v2, vs2, d2, ds2, p2, q2, rfl, rfl, rfl, h2, r2⟩ := trodAll_cons r1
  obtain ⟨rfl, rfl, rfl⟩ := trodAll_nil r2
  obtain rfl : args = #[v0, v1, v2] := by cases args; simp_all
  obtain ⟨rfl, rfl⟩ := trodVars_none hV
  have k0 := h0
  have lt0 : ∀ x ∈ p0, x.block < W.heap.size := by obtain ⟨m, hm⟩ := k0; exact DataW.trod_lt m _ _ _ hm
  obtain ⟨a0, len0, cap0, rfl⟩ := okWide_slice Try.underlying22 (hval 0 22 v0 rfl rfl)
  obtain ⟨A0, w0⟩ := rects_see h0
  have k1 := h1
  have lt1 : ∀ x ∈ p1, x.block < W.heap.size := by obtain ⟨m, hm⟩ := k1; exact DataW.trod_lt m _ _ _ hm
  obtain ⟨a1, len1, cap1, rfl⟩ := okWide_slice Try.underlying22 (hval 1 22 v1 rfl rfl)
  obtain ⟨A1, w1⟩ := rects_see h1
  have k2 := h2
  have lt2 : ∀ x ∈ p2, x.block < W.heap.size := by obtain ⟨m, hm⟩ := k2; exact DataW.trod_lt m _ _ _ hm
  obtain ⟨a2, len2, cap2, rfl⟩ := okWide_slice Try.underlying22 (hval 2 22 v2 rfl rfl)
  obtain ⟨A2, w2⟩ := rects_see h2
  clear hA0 hval0
  refine (walk says a0 len0 cap0 A0 a1 len1 cap1 A1 a2 len2 cap2 A2 W w0 w1 w2).mono fun e W' ⟨he, bel⟩ => ?_
  subst he
  exact ⟨_, rfl, _, _, _, [], _, [], hW', trodAll_mk1 (shut_bool Try.underlying4 _), (trodAll_cons_mk (Below.trod laidOut (by kernel_rfl) (of_decide_eq_true (by kernel_rfl)) k0 bel lt0) (trodAll_cons_mk (Below.trod laidOut (by kernel_rfl) (of_decide_eq_true (by kernel_rfl)) k1 bel lt1) (trodAll_cons_mk (Below.trod laidOut (by kernel_rfl) (of_decide_eq_true (by kernel_rfl)) k2 bel lt2) trodAll_mk0))), rfl, bel.frame _, fun h => by cases h⟩

theorem over : Rows.regionAlgebraRow.holds Try.pinned (OpenSpec.ofChange Rows.regionAlgebraSpec) :=
  OpenClaim.holds_of_wide 7 Try.f7 rfl rfl rfl rfl rfl rfl rfl ⟨rfl, rfl, rfl, rfl, rfl⟩ rfl rfl rfl rfl rfl (by kernel_rfl) Try.func7 (by kernel_rfl)
    (of_decide_eq_true (by kernel_rfl)) (by unfold Func.isWrapper; first | (rw [if_pos (by decide +kernel)]; kernel_rfl) | (rw [if_neg (by decide +kernel)]; exact ⟨rfl, rfl⟩))
    (fun os started H enc _ => lifted os started H enc)

theorem proved : Rows.RegionAlgebraSaid := over
end Go.Proofs.Ytedlhfemmofbpaa.regionAlgebra
