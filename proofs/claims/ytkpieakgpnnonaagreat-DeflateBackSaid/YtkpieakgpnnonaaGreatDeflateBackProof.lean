/-
  DeflateBack (layer 9): what is deflated is inflated again by the document's reader, with the same window, as a whole and as a segment, by at most so many bytes.
-/
import Derived.Test.YtkpieakgpnnonaaGreatRows
import Derived.Test.YtkpieakgpnnonaaGreatDefWorks
import Derived.Test.YtkpieakgpnnonaaGreatDflWhole
import Derived.WalkKit
import Derived.ProofKit
import Derived.OpenShut
import Derived.ShutString
import Derived.ChangeOld
import Derived.Below
import Derived.Lib.SmallJoins
import Derived.Deep.Slices
namespace Go.Proofs.YtkpieakgpnnonaaGreat.deflateBack
open Go.Proofs.YtkpieakgpnnonaaGreat.Def
open Go.Proofs.YtkpieakgpnnonaaGreat.Dfl
open Go.ChangeShapes Go.WideShapes Go.ChangeAt Go.RowKit
open Go.ChangeMaps (open_string shut_string)
set_option linter.unusedVariables false

theorem own : ownKnob Tryz.prog.godebug = none := by kernel_rfl
theorem laidOut : laidOutB Tryz.prog = true := by kernel_rfl

set_option maxRecDepth 100000 in
set_option maxHeartbeats 8000000 in
theorem early (D : Says) (win s : ByteArray) (W : World) (h : 2000 < s.size ∨ 40000 < win.size) (w0 : win.size ≤ maxLen) (w1 : s.size ≤ maxLen) :
    Calls Tryz.prog 6 #[.string win, .string s] W fun e w' => e = .returned (.bool true) ∧ Below W.heap.size W w' := by
  unfold maxLen at w0 w1
  by_cases h1 : 2000 < s.size
  · have d1 : decide ((2000 : Int) < (s.size : Int)) = true := by simp; omega
    have p1 : (2000 : Int) < s.size := by omega
    clear h
    go_enter Tryz.func6, Tryz.ntmps6
    go_wp2_with fail
    refine (works_any D _).mono ?_
    rintro r w1 ⟨rfl, b1⟩
    go_wp2_with fail
    all_goals (go_ret; exact ⟨rfl, b1⟩)
  · have d1 : decide ((2000 : Int) < (s.size : Int)) = false := by simp; omega
    have p1 : ¬ ((2000 : Int) < s.size) := by omega
    have d2 : decide ((40000 : Int) < (win.size : Int)) = true := by simp; omega
    have p2 : (40000 : Int) < win.size := by omega
    clear h
    go_enter Tryz.func6, Tryz.ntmps6
    go_wp2_with fail
    refine (works_any D _).mono ?_
    rintro r w1 ⟨rfl, b1⟩
    go_wp2_with fail
    all_goals (go_ret; exact ⟨rfl, b1⟩)

set_option maxRecDepth 100000 in
set_option maxHeartbeats 8000000 in
theorem walk (D : Says) (win s : ByteArray) (W : World) (w0 : win.size ≤ maxLen) (w1 : s.size ≤ maxLen) :
    Calls Tryz.prog 6 #[.string win, .string s] W fun e w' => e = .returned (.bool true) ∧ Below W.heap.size W w' := by
  by_cases hg : 2000 < s.size ∨ 40000 < win.size
  · exact early D win s W hg w0 w1
  have d1 : decide ((2000 : Int) < (s.size : Int)) = false := by simp; omega
  have p1 : ¬ ((2000 : Int) < s.size) := by omega
  have d2 : decide ((40000 : Int) < (win.size : Int)) = false := by simp; omega
  have p2 : ¬ ((40000 : Int) < win.size) := by omega
  have hs : s.size ≤ 2000 := by omega
  have hw : win.size ≤ 40000 := by omega
  have HD := Lib.hid (fun w => D.whole win s w (by omega) (by omega))
  have HE := Lib.hid (fun w => D.segment win s w (by omega) (by omega))
  have HW := Lib.hid (works_any D W)
  obtain ⟨d, hd⟩ : ∃ d, s.size / 1000 = d := ⟨_, rfl⟩
  have hd1 : (s.size : Int).tdiv 1000 = (d : Int) := by rw [Int.tdiv_eq_ediv_of_nonneg (by omega)]; omega
  have hd2 : (d : Int) ≤ 2 := by omega
  have HDD := Lib.hid hd
  clear hd hg w0 w1 D
  go_enter Tryz.func6, Tryz.ntmps6
  go_wp2_with fail
  refine HW.out.mono ?_
  rintro r w1 ⟨rfl, b1⟩
  have HB1 := Lib.hid b1
  clear b1 HW
  go_wp2_with fail
  refine (HD.out w1).mono ?_
  rintro r w2 ⟨t, rfl, ⟨⟨q, hq, hq2⟩, hsz, _⟩, b2⟩
  have CW := Lib.hid (fun w => refWhole_any win t s (s.size : Int) q w (by omega) (by omega) (by omega) (by omega) (by omega) hq)
  rw [hq2] at CW
  have ht : (t.size : Int) ≤ (s.size : Int) + (d : Int) + 20 := by have := HDD.out; omega
  have ht1 : t.size ≤ 3000 := by omega
  have HB2 := Lib.hid (HB1.out.trans (b2.mono HB1.out.size))
  clear b2 HB1 HD hq hq2 hsz
  go_wp2_with fail
  refine (HE.out w2).mono ?_
  rintro r w3 ⟨u, rfl, ⟨hsg, hsz, _⟩, b3⟩
  have CS := Lib.hid (fun w => refSegment_any win u s (s.size : Int) w (by omega) (by omega) (by omega) (by omega) (by omega) hsg)
  have hu : (u.size : Int) ≤ (s.size : Int) + (d : Int) + 20 := by have := HDD.out; omega
  have hu1 : u.size ≤ 3000 := by omega
  have HB3 := Lib.hid (HB2.out.trans (b3.mono HB2.out.size))
  clear b3 HB2 HE hsg hsz
  go_wp2_with fail
  refine (CW.out w3).mono ?_
  rintro r w4 ⟨rfl, b4⟩
  have HB4 := Lib.hid (HB3.out.trans (b4.mono HB3.out.size))
  clear b4 HB3 CW
  go_wp2_with fail
  refine (CS.out w4).mono ?_
  rintro r w5 ⟨rfl, b5⟩
  have HB5 := Lib.hid (HB4.out.trans (b5.mono HB4.out.size))
  clear b5 HB4 CS
  go_wp2_with fail
  go_ret
  exact ⟨rfl, HB5.out⟩

set_option maxRecDepth 100000 in
theorem lifted (os : Os) (started : os.Started) (H : Type) (enc : TypeId × Value → H) :
    ReturnsInHanded {} Tryz.checked os 6 .any (Rows.deflateBackSpec.pre6 enc Tryz.prog Tryz.f6 Rows.deflateBackRow.domain false) (Rows.deflateBackSpec.post enc Tryz.prog Tryz.f6 false true false false) := by
  refine returnsInHanded_of_change (C := Tryz.checked) own started (by kernel_rfl) Tryz.func6
    (ChangeSpec.witness6 (enc := enc) (C := Tryz.checked) false ⟨#[], #[.string ByteArray.empty, .string ByteArray.empty], []⟩ 8 (by kernel_rfl) (by kernel_rfl) (by kernel_rfl) (by kernel_rfl)) ?_
  intro W base args ds gs before hval0 hW hcnd _
  have hval : ∀ (j : Nat) t v, Tryz.f6.params[j]? = some t → args[j]? = some v → Value.okWide Tryz.prog W .any base t v := hval0
  have hW' := hW
  obtain ⟨p, q, hA0, hV, rfl, hfz, hnd⟩ := hW
  have hA : DataW.TrodAll enc Tryz.prog W 0 (fun _ => true) true Tryz.f6.params.toList args.toList ds p := hA0
  rw [Tryz.params6] at hA hval
  obtain ⟨v0, vs0, d0, ds0, p0, q0, hargs, rfl, rfl, h0, r0⟩ := trodAll_cons hA
  obtain ⟨v1, vs1, d1, ds1, p1, q1, rfl, rfl, rfl, h1, r1⟩ := trodAll_cons r0
  obtain ⟨rfl, rfl, rfl⟩ := trodAll_nil r1
  obtain rfl : args = #[v0, v1] := by cases args; simp_all
  obtain ⟨rfl, rfl⟩ := trodVars_none hV
  have k0 := h0
  have lt0 : ∀ x ∈ p0, x.block < W.heap.size := by obtain ⟨m, hm⟩ := k0; exact DataW.trod_lt m _ _ _ hm
  obtain ⟨a0, rfl, rfl, rfl, w0⟩ := open_string Tryz.underlying9 (hval 0 9 v0 rfl rfl) h0
  have k1 := h1
  have lt1 : ∀ x ∈ p1, x.block < W.heap.size := by obtain ⟨m, hm⟩ := k1; exact DataW.trod_lt m _ _ _ hm
  obtain ⟨a1, rfl, rfl, rfl, w1⟩ := open_string Tryz.underlying9 (hval 1 9 v1 rfl rfl) h1
  clear hA0 hval0
  refine (walk says a0 a1 W w0 w1).mono fun e W' ⟨he, bel⟩ => ?_
  subst he
  exact ⟨_, rfl, _, _, _, [], _, [], hW', trodAll_mk1 (shut_bool Tryz.underlying4 _), (trodAll_cons_mk (Below.trod laidOut (by kernel_rfl) (of_decide_eq_true (by kernel_rfl)) k0 bel lt0) (trodAll_cons_mk (Below.trod laidOut (by kernel_rfl) (of_decide_eq_true (by kernel_rfl)) k1 bel lt1) trodAll_mk0)), rfl, bel.frame _, fun h => by cases h⟩

theorem over : Rows.deflateBackRow.holds Tryz.pinned (OpenSpec.ofChange Rows.deflateBackSpec) :=
  OpenClaim.holds_of_wide 6 Tryz.f6 rfl rfl rfl rfl rfl rfl rfl ⟨rfl, rfl, rfl, rfl, rfl⟩ rfl rfl rfl rfl rfl (by kernel_rfl) Tryz.func6 (by kernel_rfl)
    (of_decide_eq_true (by kernel_rfl)) (by unfold Func.isWrapper; first | (rw [if_pos (by decide +kernel)]; kernel_rfl) | (rw [if_neg (by decide +kernel)]; exact ⟨rfl, rfl⟩))
    (fun os started H enc _ => lifted os started H enc)

theorem proved : Rows.DeflateBackSaid := over
end Go.Proofs.YtkpieakgpnnonaaGreat.deflateBack
