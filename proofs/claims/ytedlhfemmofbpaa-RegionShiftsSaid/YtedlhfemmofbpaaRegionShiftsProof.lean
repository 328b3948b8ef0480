/-
  RegionShifts (layer 15): what is moved there and back is as it was; places move with it.
-/
import Derived.Test.YtedlhfemmofbpaaRows
import Derived.Test.YtedlhfemmofbpaaRegProg
import Derived.Test.YtedlhfemmofbpaaRegMove
import Derived.WalkKit
import Derived.ProofKit
import Derived.OpenShut
import Derived.ShutString
import Derived.ChangeOld
import Derived.Below
import Derived.Lib.SmallJoins
import Derived.Deep.Slices
namespace Go.Proofs.Ytedlhfemmofbpaa.regionShifts
open Go.Proofs.Ytedlhfemmofbpaa.Reg
open Lz RowG RegVal
open Go.ChangeShapes Go.WideShapes Go.ChangeAt Go.RowKit
open Go.ChangeMaps (open_string shut_string)
set_option linter.unusedVariables false

theorem own : ownKnob Try.prog.godebug = none := by kernel_rfl
theorem laidOut : laidOutB Try.prog = true := by kernel_rfl

set_option maxRecDepth 100000 in
set_option maxHeartbeats 16000000 in
theorem walk (D : Says) (a : Option Addr) (n cap : Nat) (l : List Rc) (dx dy x y : Int) (W : World) (w0 : RcArg W a n cap l) :
    Calls Try.prog 8 #[.slice a n cap, .int .i64 dx, .int .i64 dy, .int .i64 x, .int .i64 y] W fun e w' => e = .returned (.bool true) ∧ Below W.heap.size W w' := by
  have hl := w0.1
  have SA := Lib.hid w0.sees
  have WLl : RowKit.Hid (∀ r ∈ l, r.wf) := Lib.hid w0.2.2.2.1
  have HS := Lib.hid w0.2.2.1
  have qn := w0.2.1
  unfold maxLen at qn
  clear w0
  by_cases gn : (12 : Int) < n
  · have hgn : decide ((12 : Int) < n) = true := decide_eq_true (by omega)
    go_enter Try.func8, Try.ntmps8
    go_wp2_with fail
    refine (works_any D _).mono ?_
    rintro r w1 ⟨rfl, b1⟩
    go_wp2_with fail
    all_goals (go_ret; exact ⟨rfl, b1⟩)
  by_cases gpdx : (100000 : Int) < dx
  · have hgn : decide ((12 : Int) < n) = false := decide_eq_false (by omega)
    have hgpdx : decide ((100000 : Int) < dx) = true := decide_eq_true (by omega)
    go_enter Try.func8, Try.ntmps8
    go_wp2_with fail
    refine (works_any D _).mono ?_
    rintro r w1 ⟨rfl, b1⟩
    go_wp2_with fail
    all_goals (go_ret; exact ⟨rfl, b1⟩)
  by_cases gmdx : dx < -100000
  · have hgn : decide ((12 : Int) < n) = false := decide_eq_false (by omega)
    have hgpdx : decide ((100000 : Int) < dx) = false := decide_eq_false (by omega)
    have hgmdx : decide (dx < -100000) = true := decide_eq_true (by omega)
    go_enter Try.func8, Try.ntmps8
    go_wp2_with fail
    refine (works_any D _).mono ?_
    rintro r w1 ⟨rfl, b1⟩
    go_wp2_with fail
    all_goals (go_ret; exact ⟨rfl, b1⟩)
  by_cases gpdy : (100000 : Int) < dy
  · have hgn : decide ((12 : Int) < n) = false := decide_eq_false (by omega)
    have hgpdx : decide ((100000 : Int) < dx) = false := decide_eq_false (by omega)
    have hgmdx : decide (dx < -100000) = false := decide_eq_false (by omega)
    have hgpdy : decide ((100000 : Int) < dy) = true := decide_eq_true (by omega)
    go_enter Try.func8, Try.ntmps8
    go_wp2_with fail
    refine (works_any D _).mono ?_
    rintro r w1 ⟨rfl, b1⟩
    go_wp2_with fail
    all_goals (go_ret; exact ⟨rfl, b1⟩)
  by_cases gmdy : dy < -100000
  · have hgn : decide ((12 : Int) < n) = false := decide_eq_false (by omega)
    have hgpdx : decide ((100000 : Int) < dx) = false := decide_eq_false (by omega)
    have hgmdx : decide (dx < -100000) = false := decide_eq_false (by omega)
    have hgpdy : decide ((100000 : Int) < dy) = false := decide_eq_false (by omega)
    have hgmdy : decide (dy < -100000) = true := decide_eq_true (by omega)
    go_enter Try.func8, Try.ntmps8
    go_wp2_with fail
    refine (works_any D _).mono ?_
    rintro r w1 ⟨rfl, b1⟩
    go_wp2_with fail
    all_goals (go_ret; exact ⟨rfl, b1⟩)
  by_cases gpx : (100000 : Int) < x
  · have hgn : decide ((12 : Int) < n) = false := decide_eq_false (by omega)
    have hgpdx : decide ((100000 : Int) < dx) = false := decide_eq_false (by omega)
    have hgmdx : decide (dx < -100000) = false := decide_eq_false (by omega)
    have hgpdy : decide ((100000 : Int) < dy) = false := decide_eq_false (by omega)
    have hgmdy : decide (dy < -100000) = false := decide_eq_false (by omega)
    have hgpx : decide ((100000 : Int) < x) = true := decide_eq_true (by omega)
    go_enter Try.func8, Try.ntmps8
    go_wp2_with fail
    refine (works_any D _).mono ?_
    rintro r w1 ⟨rfl, b1⟩
    go_wp2_with fail
    all_goals (go_ret; exact ⟨rfl, b1⟩)
  by_cases gmx : x < -100000
  · have hgn : decide ((12 : Int) < n) = false := decide_eq_false (by omega)
    have hgpdx : decide ((100000 : Int) < dx) = false := decide_eq_false (by omega)
    have hgmdx : decide (dx < -100000) = false := decide_eq_false (by omega)
    have hgpdy : decide ((100000 : Int) < dy) = false := decide_eq_false (by omega)
    have hgmdy : decide (dy < -100000) = false := decide_eq_false (by omega)
    have hgpx : decide ((100000 : Int) < x) = false := decide_eq_false (by omega)
    have hgmx : decide (x < -100000) = true := decide_eq_true (by omega)
    go_enter Try.func8, Try.ntmps8
    go_wp2_with fail
    refine (works_any D _).mono ?_
    rintro r w1 ⟨rfl, b1⟩
    go_wp2_with fail
    all_goals (go_ret; exact ⟨rfl, b1⟩)
  by_cases gpy : (100000 : Int) < y
  · have hgn : decide ((12 : Int) < n) = false := decide_eq_false (by omega)
    have hgpdx : decide ((100000 : Int) < dx) = false := decide_eq_false (by omega)
    have hgmdx : decide (dx < -100000) = false := decide_eq_false (by omega)
    have hgpdy : decide ((100000 : Int) < dy) = false := decide_eq_false (by omega)
    have hgmdy : decide (dy < -100000) = false := decide_eq_false (by omega)
    have hgpx : decide ((100000 : Int) < x) = false := decide_eq_false (by omega)
    have hgmx : decide (x < -100000) = false := decide_eq_false (by omega)
    have hgpy : decide ((100000 : Int) < y) = true := decide_eq_true (by omega)
    go_enter Try.func8, Try.ntmps8
    go_wp2_with fail
    refine (works_any D _).mono ?_
    rintro r w1 ⟨rfl, b1⟩
    go_wp2_with fail
    all_goals (go_ret; exact ⟨rfl, b1⟩)
  by_cases gmy : y < -100000
  · have hgn : decide ((12 : Int) < n) = false := decide_eq_false (by omega)
    have hgpdx : decide ((100000 : Int) < dx) = false := decide_eq_false (by omega)
    have hgmdx : decide (dx < -100000) = false := decide_eq_false (by omega)
    have hgpdy : decide ((100000 : Int) < dy) = false := decide_eq_false (by omega)
    have hgmdy : decide (dy < -100000) = false := decide_eq_false (by omega)
    have hgpx : decide ((100000 : Int) < x) = false := decide_eq_false (by omega)
    have hgmx : decide (x < -100000) = false := decide_eq_false (by omega)
    have hgpy : decide ((100000 : Int) < y) = false := decide_eq_false (by omega)
    have hgmy : decide (y < -100000) = true := decide_eq_true (by omega)
    go_enter Try.func8, Try.ntmps8
    go_wp2_with fail
    refine (works_any D _).mono ?_
    rintro r w1 ⟨rfl, b1⟩
    go_wp2_with fail
    all_goals (go_ret; exact ⟨rfl, b1⟩)
  have hgn : decide ((12 : Int) < n) = false := decide_eq_false (by omega)
  have hgpdx : decide ((100000 : Int) < dx) = false := decide_eq_false (by omega)
  have hgmdx : decide (dx < -100000) = false := decide_eq_false (by omega)
  have hgpdy : decide ((100000 : Int) < dy) = false := decide_eq_false (by omega)
  have hgmdy : decide (dy < -100000) = false := decide_eq_false (by omega)
  have hgpx : decide ((100000 : Int) < x) = false := decide_eq_false (by omega)
  have hgmx : decide (x < -100000) = false := decide_eq_false (by omega)
  have hgpy : decide ((100000 : Int) < y) = false := decide_eq_false (by omega)
  have hgmy : decide (y < -100000) = false := decide_eq_false (by omega)
  have L1 : l.length ≤ 12 := by omega
  have wf : ∀ i : Int, -1000000 ≤ i → i ≤ 1000000 → (Lit.int .i64 i).wf = true := fun i h1 h2 => by
    have e0 : IntKind.i64.min = -9223372036854775808 := rfl
    have e1 : IntKind.i64.max = 9223372036854775807 := rfl
    simp [Lit.wf]
    omega
  have V0 := Lib.hid (works_any D)
  have DD := Lib.hid D
  have WF := Lib.hid wf
  have HR : RowKit.Hid (∀ k, k < n → ∃ r, l[k]? = some r) := Lib.hid (fun k hk => ⟨l[k]'(by omega), List.getElem?_eq_getElem (by omega)⟩)
  have HL := Lib.hid hl
  clear D wf
  go_enter Try.func8, Try.ntmps8
  go_wp2_with fail
  refine (V0.out _).mono ?_
  rintro r w1 ⟨rfl, bb⟩
  go_wp2_with fail
  go_loopw [12] (fun i wr => ∃ k : Nat, k ≤ n ∧ i = .int .i64 k ∧ RowKit.Hid (∀ j r, j < k → l[j]? = some r → r.x ≤ 100000 ∧ -100000 ≤ r.x ∧ r.y ≤ 100000 ∧ -100000 ≤ r.y ∧ r.w ≤ 100000 ∧ r.h ≤ 100000) ∧ Below W.heap.size W wr) (fun i _ => n - (intOf i).toNat)
  case atStart => exact ⟨0, Nat.zero_le _, rfl, Lib.hid (fun j r h => absurd h (Nat.not_lt_zero _)), bb⟩
  case round =>
    obtain ⟨k, hk, rfl, hno, hbr⟩ := hrel
    by_cases hlt : k < n
    · obtain ⟨b, off, rfl, hb, hc⟩ := HS.out.below hbr (Nat.le_refl _) (by rw [HL.out]; omega)
      obtain ⟨r, hr⟩ := HR.out k hlt
      obtain ⟨q0, q1, q2, q3⟩ : RcAt wr b (off + k * 4) r := by
        obtain ⟨hk', rfl⟩ := List.getElem?_eq_some_iff.1 hr
        exact hc k hk'
      have AT := box4 wr r 32
      have HN2 : RowKit.Hid (r.x ≤ 100000 → -100000 ≤ r.x → r.y ≤ 100000 → -100000 ≤ r.y → r.w ≤ 100000 → r.h ≤ 100000 → RowKit.Hid (∀ j r, j < k + 1 → l[j]? = some r → r.x ≤ 100000 ∧ -100000 ≤ r.x ∧ r.y ≤ 100000 ∧ -100000 ≤ r.y ∧ r.w ≤ 100000 ∧ r.h ≤ 100000)) := Lib.hid (fun h1 h2 h3 h4 h5 h6 => Lib.hid (fun j s hj hs => by
        by_cases e : j = k
        · subst e
          rw [hr] at hs
          obtain rfl := Option.some.inj hs
          exact ⟨h1, h2, h3, h4, h5, h6⟩
        · exact hno.out j s (by omega) hs))
      clear hr
      obtain ⟨rx, ry, ru, rv⟩ := r
      simp only at q0 q1 q2 q3 AT HN2
      have bel := hbr.alloc hbr.size (.cells #[.int .i64 rx, .int .i64 ry, .int .i64 ru, .int .i64 rv] 32)
      obtain ⟨c0, c1, c2, c3⟩ := AT
      simp only [Nat.zero_add] at c0 c1 c2 c3
      have B2 := Lib.hid bel
      clear hc hbr bel hno HR HS
      by_cases ra : (100000 : Int) < rx
      · have hra : decide ((100000 : Int) < rx) = true := decide_eq_true (by omega)
        go_wp2_with fail
        go_ret
        exact ⟨rfl, B2.out⟩
      by_cases rb : rx < -100000
      · have hra : decide ((100000 : Int) < rx) = false := decide_eq_false (by omega)
        have hrb : decide (rx < -100000) = true := decide_eq_true (by omega)
        go_wp2_with fail
        go_ret
        exact ⟨rfl, B2.out⟩
      by_cases rc : (100000 : Int) < ry
      · have hra : decide ((100000 : Int) < rx) = false := decide_eq_false (by omega)
        have hrb : decide (rx < -100000) = false := decide_eq_false (by omega)
        have hrc : decide ((100000 : Int) < ry) = true := decide_eq_true (by omega)
        go_wp2_with fail
        go_ret
        exact ⟨rfl, B2.out⟩
      by_cases rd : ry < -100000
      · have hra : decide ((100000 : Int) < rx) = false := decide_eq_false (by omega)
        have hrb : decide (rx < -100000) = false := decide_eq_false (by omega)
        have hrc : decide ((100000 : Int) < ry) = false := decide_eq_false (by omega)
        have hrd : decide (ry < -100000) = true := decide_eq_true (by omega)
        go_wp2_with fail
        go_ret
        exact ⟨rfl, B2.out⟩
      by_cases re : (100000 : Int) < ru
      · have hra : decide ((100000 : Int) < rx) = false := decide_eq_false (by omega)
        have hrb : decide (rx < -100000) = false := decide_eq_false (by omega)
        have hrc : decide ((100000 : Int) < ry) = false := decide_eq_false (by omega)
        have hrd : decide (ry < -100000) = false := decide_eq_false (by omega)
        have hre : decide ((100000 : Int) < ru) = true := decide_eq_true (by omega)
        go_wp2_with fail
        go_ret
        exact ⟨rfl, B2.out⟩
      by_cases rf : (100000 : Int) < rv
      · have hra : decide ((100000 : Int) < rx) = false := decide_eq_false (by omega)
        have hrb : decide (rx < -100000) = false := decide_eq_false (by omega)
        have hrc : decide ((100000 : Int) < ry) = false := decide_eq_false (by omega)
        have hrd : decide (ry < -100000) = false := decide_eq_false (by omega)
        have hre : decide ((100000 : Int) < ru) = false := decide_eq_false (by omega)
        have hrf : decide ((100000 : Int) < rv) = true := decide_eq_true (by omega)
        go_wp2_with fail
        go_ret
        exact ⟨rfl, B2.out⟩
      have hra : decide ((100000 : Int) < rx) = false := decide_eq_false (by omega)
      have hrb : decide (rx < -100000) = false := decide_eq_false (by omega)
      have hrc : decide ((100000 : Int) < ry) = false := decide_eq_false (by omega)
      have hrd : decide (ry < -100000) = false := decide_eq_false (by omega)
      have hre : decide ((100000 : Int) < ru) = false := decide_eq_false (by omega)
      have hrf : decide ((100000 : Int) < rv) = false := decide_eq_false (by omega)
      have HX := HN2.out (by omega) (by omega) (by omega) (by omega) (by omega) (by omega)
      clear HN2
      go_wp2_with fail
      exact ⟨⟨k + 1, by omega, by go_num, HX, B2.out⟩, by simp [intOf]; omega⟩
    · obtain rfl : k = n := by omega
      have hw : Within 200000 l := fun u v h => by
        obtain ⟨r, hr, _, g⟩ := hasL_iff.1 h
        obtain ⟨i, hi, rfl⟩ := List.mem_iff_getElem.1 hr
        have := hno.out i _ (by omega) (List.getElem?_eq_getElem hi)
        omega
      have e1 := shift_back (dx := dx) (dy := dy) hw (by omega) (by omega) (by omega) (by omega) (by omega)
      have e2 := shift_has (dx := dx) (dy := dy) hw (by omega) (by omega) (by omega) (by omega) (by omega) x y
      have e3 := shift_area (dx := dx) (dy := dy) hw (by omega) (by omega) (by omega) (by omega) (by omega)
      have s1 := make_small l 12 (by omega)
      have s2 : (shiftL l dx dy).length ≤ 2 * 12 * (2 * 12) := by
        rw [(shiftL_near (dx := dx) (dy := dy) hw (by omega) (by omega) (by omega) (by omega) (by omega)).1, List.length_map]
        exact s1
      have VS := Lib.hid (fun v w => DD.out.shift l v dx dy w (by omega) (Nat.le_trans (make_small l 12 (by omega)) (by decide)) WLl.out (WF.out dx (by omega) (by omega)) (WF.out dy (by omega) (by omega)))
      have VB := fun v w => DD.out.shift (shiftL l dx dy) v (-dx) (-dy) w (by omega) (by rw [make_shift]; omega) (shift_wf l dx dy) (WF.out (-dx) (by omega) (by omega)) (WF.out (-dy) (by omega) (by omega))
      have VM := Lib.hid (fun v w => DD.out.make l v w (by omega) WLl.out)
      have VH := fun v w => DD.out.has (shiftL l dx dy) v (x + dx) (y + dy) w (by omega) (shift_wf l dx dy) (WF.out (x + dx) (by omega) (by omega)) (WF.out (y + dy) (by omega) (by omega))
      have VI := Lib.hid (fun v w => DD.out.has l v x y w (by omega) WLl.out (WF.out x (by omega) (by omega)) (WF.out y (by omega) (by omega)))
      have VA := fun v w => DD.out.area (shiftL l dx dy) v w (by omega) (shift_wf l dx dy)
      have VC := Lib.hid (fun v w => DD.out.area l v w (by omega) WLl.out)
      have SM := Lib.hid (fun va vb w => refSame_yes (make l) va vb w (by omega))
      rw [e1] at VB
      rw [e2] at VH
      rw [e3] at VA
      replace VB := Lib.hid VB
      replace VH := Lib.hid VH
      replace VA := Lib.hid VA
      have SA1 := Lib.hid (SA.out.below hbr)
      have Bel1 := Lib.hid hbr
      clear SA HS HR DD WF V0 hw e1 e2 e3 s1 s2 bb hno hbr
      generalize shiftL l dx dy = sl at *
      generalize areaL (make l) = ar at *
      generalize make l = lm at *
      generalize hasL l x y = hs at *
      go_wp2_with fail
      refine (VS.out _ _ SA1.out).mono ?_
      rintro r w2 ⟨uM, rfl, s, b⟩
      have SA2 := Lib.hid (SA1.out.below b)
      have M2 := Lib.hid s
      have Bel2 := Lib.hid (Bel1.out.trans (b.mono Bel1.out.size))
      clear SA1 Bel1 b s
      go_wp2_with fail
      refine (VB.out _ w2 M2.out).mono ?_
      rintro r w3 ⟨uP, rfl, s, b⟩
      have SA3 := Lib.hid (SA2.out.below b)
      have M3 := Lib.hid (M2.out.below b)
      have P3 := Lib.hid s
      have Bel3 := Lib.hid (Bel2.out.trans (b.mono Bel2.out.size))
      clear SA2 M2 Bel2 b s
      go_wp2_with fail
      refine (VM.out _ w3 SA3.out).mono ?_
      rintro r w4 ⟨uQ, rfl, s, b⟩
      have SA4 := Lib.hid (SA3.out.below b)
      have M4 := Lib.hid (M3.out.below b)
      have P4 := Lib.hid (P3.out.below b)
      have Q4 := Lib.hid s
      have Bel4 := Lib.hid (Bel3.out.trans (b.mono Bel3.out.size))
      clear SA3 M3 P3 Bel3 b s
      go_wp2_with fail
      refine (SM.out _ _ w4 P4.out Q4.out).mono ?_
      rintro r w5 ⟨rfl, z, rfl⟩
      have SA5 := Lib.hid (SA4.out.drewN z)
      have M5 := Lib.hid (M4.out.drewN z)
      have Bel5 := Lib.hid (below_drewN Bel4.out z)
      clear SA4 M4 Bel4
      generalize w4.drewN z = w5 at *
      go_wp2_with fail
      refine (VH.out _ w5 M5.out).mono ?_
      rintro r w6 ⟨rfl, b⟩
      have SA6 := Lib.hid (SA5.out.below b)
      have M6 := Lib.hid (M5.out.below b)
      have Bel6 := Lib.hid (Bel5.out.trans (b.mono Bel5.out.size))
      clear SA5 M5 Bel5 b
      go_wp2_with fail
      refine (VI.out _ w6 SA6.out).mono ?_
      rintro r w7 ⟨rfl, b⟩
      have SA7 := Lib.hid (SA6.out.below b)
      have M7 := Lib.hid (M6.out.below b)
      have Bel7 := Lib.hid (Bel6.out.trans (b.mono Bel6.out.size))
      clear SA6 M6 Bel6 b
      go_wp2_with fail
      refine (VA.out _ w7 M7.out).mono ?_
      rintro r w8 ⟨rfl, b⟩
      have SA8 := Lib.hid (SA7.out.below b)
      have M8 := Lib.hid (M7.out.below b)
      have Bel8 := Lib.hid (Bel7.out.trans (b.mono Bel7.out.size))
      clear SA7 M7 Bel7 b
      go_wp2_with fail
      refine (VC.out _ w8 SA8.out).mono ?_
      rintro r w9 ⟨rfl, b⟩
      have SA9 := Lib.hid (SA8.out.below b)
      have M9 := Lib.hid (M8.out.below b)
      have Bel9 := Lib.hid (Bel8.out.trans (b.mono Bel8.out.size))
      clear SA8 M8 Bel8 b
      go_wp2_with fail
      go_ret
      exact ⟨rfl, Bel9.out⟩

set_option maxRecDepth 100000 in
theorem lifted (os : Os) (started : os.Started) (H : Type) (enc : TypeId × Value → H) :
    ReturnsInHanded {} Try.checked os 8 .any (Rows.regionShiftsSpec.pre6 enc Try.prog Try.f8 Rows.regionShiftsRow.domain false) (Rows.regionShiftsSpec.post enc Try.prog Try.f8 false true false false) := by
  refine returnsInHanded_of_change (C := Try.checked) own started (by kernel_rfl) Try.func8
    (ChangeSpec.witness6 (enc := enc) (C := Try.checked) false ⟨#[], #[.slice none 0 0, .int .i64 0, .int .i64 0, .int .i64 0, .int .i64 0], []⟩ 8 (by kernel_rfl) (by kernel_rfl) (by kernel_rfl) (by kernel_rfl)) ?_
  intro W base args ds gs before hval0 hW hcnd _
  have hval : ∀ (j : Nat) t v, Try.f8.params[j]? = some t → args[j]? = some v → Value.okWide Try.prog W .any base t v := hval0
  have hW' := hW
  obtain ⟨p, q, hA0, hV, rfl, hfz, hnd⟩ := hW
  have hA : DataW.TrodAll enc Try.prog W 0 (fun _ => true) true Try.f8.params.toList args.toList ds p := hA0
  rw [Try.params8] at hA hval
  obtain ⟨v0, vs0, d0, ds0, p0, q0, hargs, rfl, rfl, h0, r0⟩ := trodAll_cons hA
  obtain ⟨v1, vs1, d1, ds1, p1, q1, rfl, rfl, rfl, h1, r1⟩ := trodAll_cons r0
  obtain ⟨v2, vs2, d2, ds2, p2, q2, rfl, rfl, rfl, h2, r2⟩ := trodAll_cons r1
  obtain ⟨v3, vs3, d3, ds3, p3, q3, rfl, rfl, rfl, h3, r3⟩ := trodAll_cons r2
  obtain ⟨v4, vs4, d4, ds4, p4, q4, rfl, rfl, rfl, h4, r4⟩ := trodAll_cons r3
  obtain ⟨rfl, rfl, rfl⟩ := trodAll_nil r4
  obtain rfl : args = #[v0, v1, v2, v3, v4] := by cases args; simp_all
  obtain ⟨rfl, rfl⟩ := trodVars_none hV
  have k0 := h0
  have lt0 : ∀ x ∈ p0, x.block < W.heap.size := by obtain ⟨m, hm⟩ := k0; exact DataW.trod_lt m _ _ _ hm
  obtain ⟨a0, len0, cap0, rfl⟩ := okWide_slice Try.underlying22 (hval 0 22 v0 rfl rfl)
  obtain ⟨A0, w0⟩ := rects_see h0
  have k1 := h1
  have lt1 : ∀ x ∈ p1, x.block < W.heap.size := by obtain ⟨m, hm⟩ := k1; exact DataW.trod_lt m _ _ _ hm
  obtain ⟨a1, rfl, rfl, rfl, w1⟩ := open_int Try.underlying3 (hval 1 3 v1 rfl rfl) h1
  have k2 := h2
  have lt2 : ∀ x ∈ p2, x.block < W.heap.size := by obtain ⟨m, hm⟩ := k2; exact DataW.trod_lt m _ _ _ hm
  obtain ⟨a2, rfl, rfl, rfl, w2⟩ := open_int Try.underlying3 (hval 2 3 v2 rfl rfl) h2
  have k3 := h3
  have lt3 : ∀ x ∈ p3, x.block < W.heap.size := by obtain ⟨m, hm⟩ := k3; exact DataW.trod_lt m _ _ _ hm
  obtain ⟨a3, rfl, rfl, rfl, w3⟩ := open_int Try.underlying3 (hval 3 3 v3 rfl rfl) h3
  have k4 := h4
  have lt4 : ∀ x ∈ p4, x.block < W.heap.size := by obtain ⟨m, hm⟩ := k4; exact DataW.trod_lt m _ _ _ hm
  obtain ⟨a4, rfl, rfl, rfl, w4⟩ := open_int Try.underlying3 (hval 4 3 v4 rfl rfl) h4
  clear hA0 hval0
  refine (walk says a0 len0 cap0 A0 a1 a2 a3 a4 W w0).mono fun e W' ⟨he, bel⟩ => ?_
  subst he
  exact ⟨_, rfl, _, _, _, [], _, [], hW', trodAll_mk1 (shut_bool Try.underlying4 _), (trodAll_cons_mk (Below.trod laidOut (by kernel_rfl) (of_decide_eq_true (by kernel_rfl)) k0 bel lt0) (trodAll_cons_mk (Below.trod laidOut (by kernel_rfl) (of_decide_eq_true (by kernel_rfl)) k1 bel lt1) (trodAll_cons_mk (Below.trod laidOut (by kernel_rfl) (of_decide_eq_true (by kernel_rfl)) k2 bel lt2) (trodAll_cons_mk (Below.trod laidOut (by kernel_rfl) (of_decide_eq_true (by kernel_rfl)) k3 bel lt3) (trodAll_cons_mk (Below.trod laidOut (by kernel_rfl) (of_decide_eq_true (by kernel_rfl)) k4 bel lt4) trodAll_mk0))))), rfl, bel.frame _, fun h => by cases h⟩

theorem over : Rows.regionShiftsRow.holds Try.pinned (OpenSpec.ofChange Rows.regionShiftsSpec) :=
  OpenClaim.holds_of_wide 8 Try.f8 rfl rfl rfl rfl rfl rfl rfl ⟨rfl, rfl, rfl, rfl, rfl⟩ rfl rfl rfl rfl rfl (by kernel_rfl) Try.func8 (by kernel_rfl)
    (of_decide_eq_true (by kernel_rfl)) (by unfold Func.isWrapper; first | (rw [if_pos (by decide +kernel)]; kernel_rfl) | (rw [if_neg (by decide +kernel)]; exact ⟨rfl, rfl⟩))
    (fun os started H enc _ => lifted os started H enc)

theorem proved : Rows.RegionShiftsSaid := over
end Go.Proofs.Ytedlhfemmofbpaa.regionShifts
