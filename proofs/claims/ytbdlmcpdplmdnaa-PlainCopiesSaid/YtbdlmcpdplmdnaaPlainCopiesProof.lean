/-
  PlainCopies (layer 16): from where a rectangle comes, as bytes, and of any bytes, is just what the document says.
-/
import Derived.Test.YtbdlmcpdplmdnaaRows
import Derived.Test.YtbdlmcpdplmdnaaPlnWorks
import Derived.WalkKit
import Derived.ProofKit
import Derived.OpenShut
import Derived.ShutString
import Derived.ChangeOld
import Derived.Below
import Derived.Lib.SmallJoins
import Derived.Deep.Slices
namespace Go.Proofs.Ytbdlmcpdplmdnaa.plainCopies
open Go.Proofs.Ytbdlmcpdplmdnaa.Pln
open Go.ChangeShapes Go.WideShapes Go.ChangeAt Go.RowKit
open Go.ChangeMaps (open_string shut_string)
set_option linter.unusedVariables false

theorem own : ownKnob Try.prog.godebug = none := by kernel_rfl
theorem laidOut : laidOutB Try.prog = true := by kernel_rfl

open Go.Proofs.Ytbdlmcpdplmdnaa.Oct Go.Proofs.Ytbdlmcpdplmdnaa.RegVal
set_option maxRecDepth 100000
theorem ext_in (x y z : ByteArray) : (x ++ y ++ z).extract 0 (0 + x.size) = x ∧ (x ++ y ++ z).extract x.size (x.size + y.size) = y := by
  refine ⟨?_, ext_mid x y z⟩
  have := ext_mid (⟨#[]⟩ : ByteArray) x (y ++ z)
  have e0 : (⟨#[]⟩ : ByteArray) ++ x ++ (y ++ z) = x ++ y ++ z := by
    rw [show (⟨#[]⟩ : ByteArray) ++ x = x from by apply ByteArray.ext; simp, ByteArray.append_assoc]
  rw [e0] at this
  exact this
theorem back (x y : Int) (s : ByteArray) (h : cpB x y = true) : cfV (cpS x y ++ s) 0 = x ∧ cfV (cpS x y ++ s) 2 = y ∧ cfN (cpS x y ++ s) = 4 ∧ cfE (cpS x y ++ s) = 0 := by
  have h' := h
  unfold cpB at h'
  rw [Bool.and_eq_true] at h'
  obtain ⟨p1, p2, _, _, _⟩ := putS_ok h'.1
  obtain ⟨q1, q2, _, _, _⟩ := putS_ok h'.2
  have e : cpS x y = putS 2 x ++ putS 2 y := by
    unfold cpS putS
    rw [if_pos h, if_pos h'.1, if_pos h'.2, ByteArray.mk_append_mk]
    rfl
  have hx : (putS 2 x).size = 2 := by omega
  have hy : (putS 2 y).size = 2 := by omega
  obtain ⟨x1, x2⟩ := ext_in (putS 2 x) (putS 2 y) s
  rw [hx] at x1 x2
  rw [hy] at x2
  have hs : ¬ (putS 2 x ++ putS 2 y ++ s).size < 4 := by rw [ByteArray.size_append, ByteArray.size_append]; omega
  unfold cfV cfN cfE
  rw [e, if_neg hs, if_neg hs, if_neg hs, if_neg hs]
  rw [x1, x2]
  exact ⟨p2, q2, rfl, rfl⟩
theorem cp_none (x y : Int) (h : cpB x y = false) : cpS x y = ⟨#[]⟩ ∧ cpE x y = 1 := by
  unfold cpS cpE
  rw [h]
  exact ⟨rfl, rfl⟩
theorem cp_size (x y : Int) : (cpS x y).size ≤ 4 := by
  have h := putS_size 2 x rfl
  unfold cpS
  by_cases h : cpB x y = true
  · rw [if_pos h]
    show ((beL 2 x ++ beL 2 y).toArray).size ≤ 4
    rw [List.size_toArray, List.length_append, beL_length, beL_length]
    omega
  · rw [if_neg h]
    show (([] : List UInt8).toArray).size ≤ 4
    simp
set_option maxHeartbeats 4000000 in
theorem walk (x y : Int) (s : ByteArray) (W : World) (w2 : s.size ≤ maxLen) :
    Calls Try.prog 4 #[.int .i64 x, .int .i64 y, .string s] W fun e w' => e = .returned (.bool true) ∧ Below W.heap.size W w' := by
  unfold maxLen at w2
  have V0 := Lib.hid works_any
  by_cases hg : 400 < s.size
  · have g1 : decide ((400 : Int) < s.size) = true := decide_eq_true (by omega)
    have g2 : decide (400 < s.size) = true := decide_eq_true hg
    go_enter Try.func4, Try.ntmps4
    go_wp2_with fail
    refine (V0.out _).mono ?_
    rintro r w1 ⟨rfl, b1⟩
    go_wp2_with fail
    go_ret
    exact ⟨rfl, b1⟩
  have g1 : decide ((400 : Int) < s.size) = false := decide_eq_false (by omega)
  have g2 : decide (400 < s.size) = false := decide_eq_false hg
  have V1 := Lib.hid (fun w => copy_any x y w)
  have V2 := Lib.hid (fun w => refCopy_any x y w)
  have V3 := Lib.hid (fun w => copyOf_any s (by omega) w)
  have V4 := Lib.hid (fun w => refCopyOf_any s (by omega) w)
  have V5 := Lib.hid (fun w => copyOf_any (cpS x y ++ s) (by have := cp_size x y; rw [ByteArray.size_append]; omega) w)
  have HB := Lib.hid (back x y s)
  have HN := Lib.hid (cp_none x y)
  have hsz := cp_size x y
  have hadd : ∀ W : World, (Op.stringOp .add (cpS x y) s).run Try.prog W = .ok (.string (cpS x y ++ s)) W := fun W => run_string_add_sum W _ _ (by omega)
  have HE : RowKit.Hid (cpB x y = true → cpE x y = 0) := Lib.hid (fun h => by unfold cpE; rw [if_pos h])
  obtain ⟨T, hT⟩ : ∃ T, cpS x y ++ s = T := ⟨_, rfl⟩
  rw [hT] at V5 HB hadd
  generalize cfV s 0 = a0 at *
  generalize cfV s 2 = a2 at *
  generalize cfN s = aN at *
  generalize cfE s = aE at *
  clear hg hT
  cases hb : cpB x y with
  | false =>
    obtain ⟨h1, h2⟩ := HN.out hb
    rw [h1, h2] at V1 V2
    clear HB HE HN V5 hadd hb h1 h2
    go_enter Try.func4, Try.ntmps4
    go_wp2_with fail
    refine (V0.out _).mono ?_
    rintro r w1 ⟨rfl, b1⟩
    have B1 := Lib.hid b1
    clear b1
    go_wp2_with fail
    refine (V1.out _).mono ?_
    rintro r w3 ⟨rfl, b⟩
    have B2 := Lib.hid (B1.out.trans (b.mono B1.out.size))
    clear b B1
    go_wp2_with fail
    refine (V2.out _).mono ?_
    rintro r w4 ⟨rfl, b⟩
    have B3 := Lib.hid (B2.out.trans (b.mono B2.out.size))
    clear b B2
    go_wp2_with fail
    refine (V3.out _).mono ?_
    rintro r w5 ⟨rfl, b⟩
    have B4 := Lib.hid (B3.out.trans (b.mono B3.out.size))
    clear b B3
    go_wp2_with fail
    refine (V4.out _).mono ?_
    rintro r w6 ⟨rfl, q, rfl⟩
    have B5 := Lib.hid (below_q B4.out q)
    clear B4
    generalize w5.drewN q = w7 at *
    go_wp2_with fail
    go_ret
    exact ⟨rfl, B5.out⟩
  | true =>
    obtain ⟨h1, h2, h3, h4⟩ := HB.out hb
    rw [HE.out hb] at V1 V2
    rw [h1, h2, h3, h4] at V5
    generalize cpS x y = cs at *
    clear HB HE HN hb h1 h2 h3 h4
    go_enter Try.func4, Try.ntmps4
    go_wp2_with fail
    refine (V0.out _).mono ?_
    rintro r w1 ⟨rfl, b1⟩
    have B1 := Lib.hid b1
    clear b1
    go_wp2_with fail
    refine (V1.out _).mono ?_
    rintro r w3 ⟨rfl, b⟩
    have B2 := Lib.hid (B1.out.trans (b.mono B1.out.size))
    clear b B1
    go_wp2_with fail
    refine (V2.out _).mono ?_
    rintro r w4 ⟨rfl, b⟩
    have B3 := Lib.hid (B2.out.trans (b.mono B2.out.size))
    clear b B2
    go_wp2_with fail
    refine (V3.out _).mono ?_
    rintro r w5 ⟨rfl, b⟩
    have B4 := Lib.hid (B3.out.trans (b.mono B3.out.size))
    clear b B3
    go_wp2_with fail
    refine (V4.out _).mono ?_
    rintro r w6 ⟨rfl, q, rfl⟩
    have B5 := Lib.hid (below_q B4.out q)
    clear B4
    generalize w5.drewN q = w7 at *
    go_wp2_with fail
    refine (V5.out _).mono ?_
    rintro r w8 ⟨rfl, b⟩
    have B6 := Lib.hid (B5.out.trans (b.mono B5.out.size))
    clear b B5
    go_wp2_with fail
    go_ret
    exact ⟨rfl, B6.out⟩

set_option maxRecDepth 100000 in
theorem lifted (os : Os) (started : os.Started) (H : Type) (enc : TypeId × Value → H) :
    ReturnsInHanded {} Try.checked os 4 .any (Rows.plainCopiesSpec.pre6 enc Try.prog Try.f4 Rows.plainCopiesRow.domain false) (Rows.plainCopiesSpec.post enc Try.prog Try.f4 false true false false) := by
  refine returnsInHanded_of_change (C := Try.checked) own started (by kernel_rfl) Try.func4
    (ChangeSpec.witness6 (enc := enc) (C := Try.checked) false ⟨#[], #[.int .i64 0, .int .i64 0, .string ByteArray.empty], []⟩ 8 (by kernel_rfl) (by kernel_rfl) (by kernel_rfl) (by kernel_rfl)) ?_
  intro W base args ds gs before hval0 hW hcnd _
  have hval : ∀ (j : Nat) t v, Try.f4.params[j]? = some t → args[j]? = some v → Value.okWide Try.prog W .any base t v := hval0
  have hW' := hW
  obtain ⟨p, q, hA0, hV, rfl, hfz, hnd⟩ := hW
  have hA : DataW.TrodAll enc Try.prog W 0 (fun _ => true) true Try.f4.params.toList args.toList ds p := hA0
  rw [Try.params4] at hA hval
  obtain ⟨v0, vs0, d0, ds0, p0, q0, hargs, rfl, rfl, h0, r0⟩ := trodAll_cons hA
  obtain ⟨v1, vs1, d1, ds1, p1, q1, rfl, rfl, rfl, h1, r1⟩ := trodAll_cons r0
  obtain ⟨v2, vs2, d2, ds2, p2, q2, rfl, rfl, rfl, h2, r2⟩ := trodAll_cons r1
  obtain ⟨rfl, rfl, rfl⟩ := trodAll_nil r2
  obtain rfl : args = #[v0, v1, v2] := by cases args; simp_all
  obtain ⟨rfl, rfl⟩ := trodVars_none hV
  have k0 := h0
  have lt0 : ∀ x ∈ p0, x.block < W.heap.size := by obtain ⟨m, hm⟩ := k0; exact DataW.trod_lt m _ _ _ hm
  obtain ⟨a0, rfl, rfl, rfl, w0⟩ := open_int Try.underlying3 (hval 0 3 v0 rfl rfl) h0
  have k1 := h1
  have lt1 : ∀ x ∈ p1, x.block < W.heap.size := by obtain ⟨m, hm⟩ := k1; exact DataW.trod_lt m _ _ _ hm
  obtain ⟨a1, rfl, rfl, rfl, w1⟩ := open_int Try.underlying3 (hval 1 3 v1 rfl rfl) h1
  have k2 := h2
  have lt2 : ∀ x ∈ p2, x.block < W.heap.size := by obtain ⟨m, hm⟩ := k2; exact DataW.trod_lt m _ _ _ hm
  obtain ⟨a2, rfl, rfl, rfl, w2⟩ := open_string Try.underlying9 (hval 2 9 v2 rfl rfl) h2
  clear hA0 hval0
  refine (walk a0 a1 a2 W w2).mono fun e W' ⟨he, bel⟩ => ?_
  subst he
  exact ⟨_, rfl, _, _, _, [], _, [], hW', trodAll_mk1 (shut_bool Try.underlying4 _), (trodAll_cons_mk (Below.trod laidOut (by kernel_rfl) (of_decide_eq_true (by kernel_rfl)) k0 bel lt0) (trodAll_cons_mk (Below.trod laidOut (by kernel_rfl) (of_decide_eq_true (by kernel_rfl)) k1 bel lt1) (trodAll_cons_mk (Below.trod laidOut (by kernel_rfl) (of_decide_eq_true (by kernel_rfl)) k2 bel lt2) trodAll_mk0))), rfl, bel.frame _, fun h => by cases h⟩

theorem over : Rows.plainCopiesRow.holds Try.pinned (OpenSpec.ofChange Rows.plainCopiesSpec) :=
  OpenClaim.holds_of_wide 4 Try.f4 rfl rfl rfl rfl rfl rfl rfl ⟨rfl, rfl, rfl, rfl, rfl⟩ rfl rfl rfl rfl rfl (by kernel_rfl) Try.func4 (by kernel_rfl)
    (of_decide_eq_true (by kernel_rfl)) (by unfold Func.isWrapper; first | (rw [if_pos (by decide +kernel)]; kernel_rfl) | (rw [if_neg (by decide +kernel)]; exact ⟨rfl, rfl⟩))
    (fun os started H enc _ => lifted os started H enc)

theorem proved : Rows.PlainCopiesSaid := over
end Go.Proofs.Ytbdlmcpdplmdnaa.plainCopies
