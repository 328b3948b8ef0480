/-
  Proved: crcs.Make's number at any place is just what the reference says (statement CrcsMakes). Conditions: none.
-/
import Derived.Test.YtkpnpldjhgpaiaaRows
import Derived.Test.YtkpnpldjhgpaiaaCrcRef
import Derived.WalkKit
import Derived.ProofKit
import Derived.OpenShut
import Derived.ShutString
import Derived.ChangeOld
import Derived.Below
import Derived.Lib.SmallJoins
import Derived.Deep.Slices
namespace Go.Proofs.Ytkpnpldjhgpaiaa.crcsMakes
open Go.Proofs.Ytkpnpldjhgpaiaa.Crc
open Go.ChangeShapes Go.WideShapes Go.ChangeAt Go.RowKit
open Go.ChangeMaps (open_string shut_string)
set_option linter.unusedVariables false

theorem own : ownKnob Try.prog.godebug = none := by kernel_rfl
theorem laidOut : laidOutB Try.prog = true := by kernel_rfl

theorem mask8 (n : Int) : ∃ k : Nat, k < 256 ∧ bits .and .i64 n 255 = (k : Int) := by
  refine ⟨(n % 256).toNat, by omega, ?_⟩
  rw [show bits .and .i64 n 255 = n % 256 from Bit.i64_mask n 8 (by decide)]
  omega

set_option maxRecDepth 10000 in
set_option maxHeartbeats 1000000 in
theorem walk (n : Int) (w : World) :
    Calls Try.prog 3 #[.int .i64 n] w fun e w' => e = .returned (.bool true) ∧ Below w.heap.size w w' := by
  obtain ⟨k, hk, hm⟩ := mask8 n
  have sl := sts_lt 8 k (by omega)
  have C1 := fun w => byte_any k w (by omega)
  obtain ⟨x, hx⟩ : ∃ x, sts 8 k = x := ⟨_, rfl⟩
  rw [hx] at sl C1
  have HC := Lib.hid C1
  clear C1
  go_enter Try.func3, Try.ntmps3
  go_wp2_with fail
  refine (works_any _).mono ?_
  rintro r w1 ⟨rfl, b1⟩
  go_wp2_with fail
  refine (make_any _).mono ?_
  rintro r w2 ⟨rfl, b2, t2, z2⟩
  have hc : w2.cell? ⟨w1.heap.size, k, none⟩ = some (.int .i64 (x : Nat)) := by rw [t2 k hk, hx]
  have BL := Lib.hid (below_more b1 (Nat.le_refl _) b2)
  clear b1 b2 t2 z2 hx
  generalize w1.heap.size = B at *
  go_wp2_with fail
  have k1 : (k : Int) < 256 := by omega
  have k2 : (k : Int) < ((256 : Nat) : Int) := by omega
  have k3 : (0 : Int) ≤ k := by omega
  go_quiet ((go_at_call 10; exact quiet_w (HC.out _)))
  go_wp2_with fail
  go_ret
  exact ⟨rfl, below_draws BL.out nq⟩

set_option maxRecDepth 100000 in
theorem lifted (os : Os) (started : os.Started) (H : Type) (enc : TypeId × Value → H) :
    ReturnsInHanded {} Try.checked os 3 .any (Rows.crcsMakesSpec.pre6 enc Try.prog Try.f3 Rows.crcsMakesRow.domain false) (Rows.crcsMakesSpec.post enc Try.prog Try.f3 false true false false) := by
  refine returnsInHanded_of_change (C := Try.checked) own started (by kernel_rfl) Try.func3
    (ChangeSpec.witness6 (enc := enc) (C := Try.checked) false ⟨#[], #[.int .i64 0], []⟩ 8 (by kernel_rfl) (by kernel_rfl) (by kernel_rfl) (by kernel_rfl)) ?_
  intro W base args ds gs before hval0 hW hcnd _
  have hval : ∀ (j : Nat) t v, Try.f3.params[j]? = some t → args[j]? = some v → Value.okWide Try.prog W .any base t v := hval0
  have hW' := hW
  obtain ⟨p, q, hA0, hV, rfl, hfz, hnd⟩ := hW
  have hA : DataW.TrodAll enc Try.prog W 0 (fun _ => true) true Try.f3.params.toList args.toList ds p := hA0
  rw [Try.params3] at hA hval
  obtain ⟨v0, vs0, d0, ds0, p0, q0, hargs, rfl, rfl, h0, r0⟩ := trodAll_cons hA
  obtain ⟨rfl, rfl, rfl⟩ := trodAll_nil r0
  obtain rfl : args = #[v0] := by cases args; simp_all
  obtain ⟨rfl, rfl⟩ := trodVars_none hV
  have k0 := h0
  have lt0 : ∀ x ∈ p0, x.block < W.heap.size := by obtain ⟨m, hm⟩ := k0; exact DataW.trod_lt m _ _ _ hm
  obtain ⟨a0, rfl, rfl, rfl, w0⟩ := open_int Try.underlying3 (hval 0 3 v0 rfl rfl) h0
  clear hA0 hval0
  refine (walk a0 W).mono fun e W' ⟨he, bel⟩ => ?_
  subst he
  exact ⟨_, rfl, _, _, _, [], _, [], hW', trodAll_mk1 (shut_bool Try.underlying4 _), (trodAll_cons_mk (Below.trod laidOut (by kernel_rfl) (of_decide_eq_true (by kernel_rfl)) k0 bel lt0) trodAll_mk0), rfl, bel.frame _, fun h => by cases h⟩

theorem over : Rows.crcsMakesRow.holds Try.pinned (OpenSpec.ofChange Rows.crcsMakesSpec) :=
  OpenClaim.holds_of_wide 3 Try.f3 rfl rfl rfl rfl rfl rfl rfl ⟨rfl, rfl, rfl, rfl, rfl⟩ rfl rfl rfl rfl rfl (by kernel_rfl) Try.func3 (by kernel_rfl)
    (of_decide_eq_true (by kernel_rfl)) (by unfold Func.isWrapper; first | (rw [if_pos (by decide +kernel)]; kernel_rfl) | (rw [if_neg (by decide +kernel)]; exact ⟨rfl, rfl⟩))
    (fun os started H enc _ => lifted os started H enc)

theorem proved : Rows.CrcsMakesSaid := over
end Go.Proofs.Ytkpnpldjhgpaiaa.crcsMakes
