/-
  SymbolsNumbers (layer 7): the symbol of any length and distance, and what any symbol stands for, are the document's.
-/
import Derived.Test.YtikfenimgjeplaaRows
import Derived.Test.YtikfenimgjeplaaSymWorks
import Derived.WalkKit
import Derived.ProofKit
import Derived.OpenShut
import Derived.ShutString
import Derived.ChangeOld
import Derived.Below
import Derived.Lib.SmallJoins
import Derived.Deep.Slices
namespace Go.Proofs.Ytikfenimgjeplaa.symbolsNumbers
open Go.Proofs.Ytikfenimgjeplaa.Sym
open Go.ChangeShapes Go.WideShapes Go.ChangeAt Go.RowKit
open Go.ChangeMaps (open_string shut_string)
set_option linter.unusedVariables false

theorem own : ownKnob Try.prog.godebug = none := by kernel_rfl
theorem laidOut : laidOutB Try.prog = true := by kernel_rfl

set_option maxRecDepth 100000 in
set_option maxHeartbeats 8000000 in
theorem walk (n s : Int) (W : World) (w0 : (Lit.int .i64 n).wf = true) (w1 : (Lit.int .i64 s).wf = true) :
    Calls Try.prog 3 #[.int .i64 n, .int .i64 s] W fun e w' => e = .returned (.bool true) ∧ Below W.heap.size W w' := by
  have hn : n ≤ 9223372036854775807 := by simp [Lit.wf] at w0; omega
  have hs : s ≤ 9223372036854775807 := by simp [Lit.wf] at w1; omega
  have C1 := Lib.hid (fun w => length_any n hn w)
  have C2 := Lib.hid (fun w => refLength_any n hn w)
  have C3 := Lib.hid (fun w => distance_any n hn w)
  have C4 := Lib.hid (fun w => refDistance_any n hn w)
  have C5 := Lib.hid (fun w => lengthOf_any s w)
  have C6 := Lib.hid (fun a b w h1 h2 => refOf_any a b 29 29 29 257 LBt LXt s w rfl rfl h1 h2 (by decide) hs)
  have e6 : (if ((257 : Nat) : Int) ≤ s ∧ s < ((257 : Nat) : Int) + ((29 : Nat) : Int) then (LBt.getD (s.toNat - 257) 0, LXt.getD (s.toNat - 257) 0) else (0, 0)) = lenO s := by
    unfold lenO LB LX
    by_cases h : 257 ≤ s ∧ s ≤ 285
    · rw [if_pos h, if_pos (by omega)]
    · rw [if_neg h, if_neg (by omega)]
  rw [e6] at C6
  have C7 := Lib.hid (fun w => distanceOf_any s w)
  have C8 := Lib.hid (fun a b w h1 h2 => refOf_any a b 30 30 30 0 DBt DXt s w rfl rfl h1 h2 (by decide) hs)
  have e8 : (if ((0 : Nat) : Int) ≤ s ∧ s < ((0 : Nat) : Int) + ((30 : Nat) : Int) then (DBt.getD (s.toNat - 0) 0, DXt.getD (s.toNat - 0) 0) else (0, 0)) = distO s := by
    unfold distO DB DX
    rw [Nat.sub_zero]
    by_cases h : 0 ≤ s ∧ s ≤ 29
    · rw [if_pos h, if_pos (by omega)]
    · rw [if_neg h, if_neg (by omega)]
  rw [e8] at C8
  generalize lenS n = x at *
  generalize distS n = y at *
  generalize lenO s = z at *
  generalize distO s = u at *
  obtain ⟨x1, x2, x3⟩ := x
  obtain ⟨y1, y2, y3⟩ := y
  obtain ⟨z1, z2⟩ := z
  obtain ⟨u1, u2⟩ := u
  unfold trip at C1 C2 C3 C4
  unfold pairN at C5 C6 C7 C8
  clear e6 e8 w0 w1 hn hs
  go_enter Try.func3, Try.ntmps3
  go_wp2_with fail
  refine (works_any _).mono ?_
  rintro r w1 ⟨rfl, b1⟩
  have HB1 := Lib.hid b1
  clear b1
  go_wp2_with fail
  refine (C1.out _).mono ?_
  rintro r w2 ⟨rfl, b⟩
  have HB2 := Lib.hid (HB1.out.trans (b.mono HB1.out.size))
  clear b HB1
  go_wp2_with fail
  refine (C2.out _).mono ?_
  rintro r w3 ⟨rfl, b⟩
  have HB3 := Lib.hid (HB2.out.trans (b.mono HB2.out.size))
  clear b HB2
  go_wp2_with fail
  refine (C3.out _).mono ?_
  rintro r w4 ⟨rfl, b⟩
  have HB4 := Lib.hid (HB3.out.trans (b.mono HB3.out.size))
  clear b HB3
  go_wp2_with fail
  refine (C4.out _).mono ?_
  rintro r w5 ⟨rfl, b⟩
  have HB5 := Lib.hid (HB4.out.trans (b.mono HB4.out.size))
  clear b HB4
  go_wp2_with fail
  refine (refLengths_any _).mono ?_
  rintro r w6 ⟨la, lx, rfl, i1, i2, b⟩
  have HB6 := Lib.hid (HB5.out.trans (b.mono HB5.out.size))
  have I12 := Lib.hid (And.intro i1 i2)
  clear b HB5 i1 i2
  go_wp2_with fail
  refine (refDistances_any _).mono ?_
  rintro r w7 ⟨da, dx, rfl, i3, i4, b⟩
  have HB7 := Lib.hid (HB6.out.trans (b.mono HB6.out.size))
  have I34 := Lib.hid (And.intro i3 i4)
  have J12 := Lib.hid (And.intro (I12.out.1.below b (Nat.le_refl _)) (I12.out.2.below b (Nat.le_refl _)))
  clear b HB6 i3 i4 I12
  go_wp2_with fail
  refine (C5.out _).mono ?_
  rintro r w8 ⟨rfl, b⟩
  have HB8 := Lib.hid (HB7.out.trans (b.mono HB7.out.size))
  have I12 := Lib.hid (And.intro (J12.out.1.below b (Nat.le_refl _)) (J12.out.2.below b (Nat.le_refl _)))
  have J34 := Lib.hid (And.intro (I34.out.1.below b (Nat.le_refl _)) (I34.out.2.below b (Nat.le_refl _)))
  clear b HB7 J12 I34
  go_wp2_with fail
  refine (C6.out _ _ _ I12.out.1 I12.out.2).mono ?_
  rintro r w9 ⟨rfl, q1, rfl⟩
  go_wp2_with fail
  refine (C7.out _).mono ?_
  rintro r w9 ⟨rfl, b⟩
  have b' : Below w8.heap.size w8 w9 := ⟨b.os, b.tape, b.output, b.size, b.block⟩
  have HB9 := Lib.hid (HB8.out.trans (b'.mono HB8.out.size))
  have I34 := Lib.hid (And.intro (J34.out.1.below b' (Nat.le_refl _)) (J34.out.2.below b' (Nat.le_refl _)))
  clear b b' HB8 J34 I12
  go_wp2_with fail
  refine (C8.out _ _ _ I34.out.1 I34.out.2).mono ?_
  rintro r w10 ⟨rfl, q2, rfl⟩
  have HBA : Hid (Below W.heap.size W (w9.drewN q2)) := Lib.hid ⟨HB9.out.os, HB9.out.tape, HB9.out.output, HB9.out.size, HB9.out.block⟩
  clear HB9 I34
  go_wp2_with fail
  go_ret
  exact ⟨rfl, HBA.out⟩

set_option maxRecDepth 100000 in
theorem lifted (os : Os) (started : os.Started) (H : Type) (enc : TypeId × Value → H) :
    ReturnsInHanded {} Try.checked os 3 .any (Rows.symbolsNumbersSpec.pre6 enc Try.prog Try.f3 Rows.symbolsNumbersRow.domain false) (Rows.symbolsNumbersSpec.post enc Try.prog Try.f3 false true false false) := by
  refine returnsInHanded_of_change (C := Try.checked) own started (by kernel_rfl) Try.func3
    (ChangeSpec.witness6 (enc := enc) (C := Try.checked) false ⟨#[], #[.int .i64 0, .int .i64 0], []⟩ 8 (by kernel_rfl) (by kernel_rfl) (by kernel_rfl) (by kernel_rfl)) ?_
  intro W base args ds gs before hval0 hW hcnd _
  have hval : ∀ (j : Nat) t v, Try.f3.params[j]? = some t → args[j]? = some v → Value.okWide Try.prog W .any base t v := hval0
  have hW' := hW
  obtain ⟨p, q, hA0, hV, rfl, hfz, hnd⟩ := hW
  have hA : DataW.TrodAll enc Try.prog W 0 (fun _ => true) true Try.f3.params.toList args.toList ds p := hA0
  rw [Try.params3] at hA hval
  obtain ⟨v0, vs0, d0, ds0, p0, q0, hargs, rfl, rfl, h0, r0⟩ := trodAll_cons hA
  obtain ⟨v1, vs1, d1, ds1, p1, q1, rfl, rfl, rfl, h1, r1⟩ := trodAll_cons r0
  obtain ⟨rfl, rfl, rfl⟩ := trodAll_nil r1
  obtain rfl : args = #[v0, v1] := by cases args; simp_all
  obtain ⟨rfl, rfl⟩ := trodVars_none hV
  have k0 := h0
  have lt0 : ∀ x ∈ p0, x.block < W.heap.size := by obtain ⟨m, hm⟩ := k0; exact DataW.trod_lt m _ _ _ hm
  obtain ⟨a0, rfl, rfl, rfl, w0⟩ := open_int Try.underlying3 (hval 0 3 v0 rfl rfl) h0
  have k1 := h1
  have lt1 : ∀ x ∈ p1, x.block < W.heap.size := by obtain ⟨m, hm⟩ := k1; exact DataW.trod_lt m _ _ _ hm
  obtain ⟨a1, rfl, rfl, rfl, w1⟩ := open_int Try.underlying3 (hval 1 3 v1 rfl rfl) h1
  clear hA0 hval0
  refine (walk a0 a1 W w0 w1).mono fun e W' ⟨he, bel⟩ => ?_
  subst he
  exact ⟨_, rfl, _, _, _, [], _, [], hW', trodAll_mk1 (shut_bool Try.underlying4 _), (trodAll_cons_mk (Below.trod laidOut (by kernel_rfl) (of_decide_eq_true (by kernel_rfl)) k0 bel lt0) (trodAll_cons_mk (Below.trod laidOut (by kernel_rfl) (of_decide_eq_true (by kernel_rfl)) k1 bel lt1) trodAll_mk0)), rfl, bel.frame _, fun h => by cases h⟩

theorem over : Rows.symbolsNumbersRow.holds Try.pinned (OpenSpec.ofChange Rows.symbolsNumbersSpec) :=
  OpenClaim.holds_of_wide 3 Try.f3 rfl rfl rfl rfl rfl rfl rfl ⟨rfl, rfl, rfl, rfl, rfl⟩ rfl rfl rfl rfl rfl (by kernel_rfl) Try.func3 (by kernel_rfl)
    (of_decide_eq_true (by kernel_rfl)) (by unfold Func.isWrapper; first | (rw [if_pos (by decide +kernel)]; kernel_rfl) | (rw [if_neg (by decide +kernel)]; exact ⟨rfl, rfl⟩))
    (fun os started H enc _ => lifted os started H enc)

theorem proved : Rows.SymbolsNumbersSaid := over
end Go.Proofs.Ytikfenimgjeplaa.symbolsNumbers
