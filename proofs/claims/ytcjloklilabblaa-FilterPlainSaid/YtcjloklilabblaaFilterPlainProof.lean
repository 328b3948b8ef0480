/-
  Proved: None leaves a row as it is, Up does so with no row above, Paeth is then Sub, and rows of noughts stay so; rows of more than 400 bytes are not asked about (statement FilterPlain). Conditions: none.
-/
import Derived.Test.YtcjloklilabblaaRows
import Derived.Test.YtcjloklilabblaaFltWorks
import Derived.WalkKit
import Derived.ProofKit
import Derived.OpenShut
import Derived.ShutString
import Derived.ChangeOld
import Derived.Below
import Derived.Lib.SmallJoins
import Derived.Deep.Slices
namespace Go.Proofs.Ytcjloklilabblaa.filterPlain
open Go.Proofs.Ytcjloklilabblaa.Flt
open Go.ChangeShapes Go.WideShapes Go.ChangeAt Go.RowKit
open Go.ChangeMaps (open_string shut_string)
set_option linter.unusedVariables false

theorem own : ownKnob Try.prog.godebug = none := by kernel_rfl
theorem laidOut : laidOutB Try.prog = true := by kernel_rfl

theorem early (st : Int) (r : ByteArray) (wr : r.size ≤ maxLen) (h : 400 < r.size ∨ st < 1) (w : World) :
    Calls Try.prog 7 #[.int .i64 st, .string r] w fun e w' => e = .returned (.bool true) ∧ Below w.heap.size w w' := by
  unfold maxLen at wr
  by_cases h1 : 400 < r.size
  · clear h
    have d1 : decide (400 < r.size) = true := decide_eq_true (by omega)
    have d2 : decide (400 < (r.size : Int)) = true := decide_eq_true (by omega)
    go_enter Try.func7, Try.ntmps7
    go_wp2_with fail
    refine (works_any _).mono ?_
    rintro r w1 ⟨rfl, b1⟩
    go_wp2_with fail
    go_ret
    exact ⟨rfl, b1⟩
  have h2 : st < 1 := by omega
  clear h
  have d1 : decide (400 < r.size) = false := decide_eq_false (by omega)
  have d2 : decide (400 < (r.size : Int)) = false := decide_eq_false (by omega)
  have d3 : decide (st < 1) = true := decide_eq_true (by omega)
  go_enter Try.func7, Try.ntmps7
  go_wp2_with fail
  refine (works_any _).mono ?_
  rintro r w1 ⟨rfl, b1⟩
  go_wp2_with fail
  go_ret
  exact ⟨rfl, b1⟩

theorem str_eq (r : ByteArray) : (⟨r.data.toList.toArray⟩ : ByteArray) = r := ByteArray.ext (by simp)
theorem plain1 (st : Int) (r : ByteArray) (hst : 1 ≤ st) : filS 0 st r r = r ∧ erS 0 st r r = 0 := by
  have h : rightB 0 st r r = true := decide_eq_true ⟨by omega, by omega, hst, .inr rfl⟩
  refine ⟨?_, by unfold erS; rw [if_pos h]⟩
  have e := fil_still (k := 0) (st := st) (prev := r.data.toList) (row := r.data.toList) (fun n _ => guess_none _ _ _) r.size (by simp)
  unfold filS
  rw [if_pos h, e, List.take_of_length_le (by simp), str_eq]
theorem plain2 (st : Int) (r : ByteArray) (hst : 1 ≤ st) : filS 2 st ⟨#[]⟩ r = r ∧ erS 2 st ⟨#[]⟩ r = 0 := by
  have h : rightB 2 st ⟨#[]⟩ r = true := decide_eq_true ⟨by omega, by omega, hst, .inl rfl⟩
  refine ⟨?_, by unfold erS; rw [if_pos h]⟩
  have e := fil_still (k := 2) (st := st) (prev := []) (row := r.data.toList) (fun n _ => by rw [guess_up, atB_nil]) r.size (by simp)
  unfold filS
  rw [if_pos h]
  show (⟨(filL 2 st [] r.data.toList r.size).toArray⟩ : ByteArray) = r
  rw [e, List.take_of_length_le (by simp), str_eq]
theorem plain3 (st : Int) (r : ByteArray) (hst : 1 ≤ st) : filS 4 st ⟨#[]⟩ r = filS 1 st ⟨#[]⟩ r ∧ erS 4 st ⟨#[]⟩ r = 0 ∧ erS 1 st ⟨#[]⟩ r = 0 := by
  have h : rightB 4 st ⟨#[]⟩ r = true := decide_eq_true ⟨by omega, by omega, hst, .inl rfl⟩
  have h2 : rightB 1 st ⟨#[]⟩ r = true := decide_eq_true ⟨by omega, by omega, hst, .inl rfl⟩
  refine ⟨?_, by unfold erS; rw [if_pos h], by unfold erS; rw [if_pos h2]⟩
  have e := fil_same (k := 4) (j := 1) (st := st) (prev := []) (prev' := []) (row := r.data.toList) (fun n _ => by rw [atB_nil, atB_nil, guess_sub, guess_paeth0 (atB_byte _ _).1]) r.size (by simp)
  unfold filS
  rw [if_pos h, if_pos h2]
  show (⟨(filL 4 st [] r.data.toList r.size).toArray⟩ : ByteArray) = ⟨(filL 1 st [] r.data.toList r.size).toArray⟩
  rw [e]
theorem plain4 (st : Int) (m : Nat) (hst : 1 ≤ st) (z : ByteArray) (hz : z = ⟨(List.replicate m (0 : UInt8)).toArray⟩) : filS 3 st z z = z ∧ erS 3 st z z = 0 ∧ unfS 4 st z z = z ∧ erS 4 st z z = 0 ∧ z.size = m := by
  have hs : z.size = m := by rw [hz]; show (List.replicate m (0 : UInt8)).length = m; simp
  have hd : z.data.toList = List.replicate m 0 := by rw [hz]
  have h : rightB 3 st z z = true := decide_eq_true ⟨by omega, by omega, hst, .inr rfl⟩
  have h2 : rightB 4 st z z = true := decide_eq_true ⟨by omega, by omega, hst, .inr rfl⟩
  refine ⟨?_, by unfold erS; rw [if_pos h], ?_, by unfold erS; rw [if_pos h2], hs⟩
  · have e := fil_still (k := 3) (st := st) (prev := List.replicate m 0) (row := List.replicate m 0) (fun n _ => by simp only [atB_zeros, guess_zero]) m (by simp)
    unfold filS
    rw [if_pos h, hd, hs, e, List.take_of_length_le (by simp), ← hz]
  · unfold unfS
    rw [if_pos h2, hd, hs, unf_zeros, ← hz]

theorem walk (st : Int) (r : ByteArray) (wst : (Lit.int .i64 st).wf = true) (wr : r.size ≤ maxLen) (w : World) :
    Calls Try.prog 7 #[.int .i64 st, .string r] w fun e w' => e = .returned (.bool true) ∧ Below w.heap.size w w' := by
  by_cases h : 400 < r.size ∨ st < 1
  · exact early st r wr h w
  have hr : r.size ≤ 400 := by omega
  have hst : 1 ≤ st := by omega
  have d1 : decide (400 < r.size) = false := decide_eq_false (by omega)
  have d2 : decide (400 < (r.size : Int)) = false := decide_eq_false (by omega)
  have d3 : decide (st < 1) = false := decide_eq_false (by omega)
  obtain ⟨z, hz⟩ : ∃ z : ByteArray, z = ⟨(List.replicate r.size (0 : UInt8)).toArray⟩ := ⟨_, rfl⟩
  obtain ⟨p1, p2⟩ := plain1 st r hst
  obtain ⟨p3, p4⟩ := plain2 st r hst
  obtain ⟨p5, p6, p7⟩ := plain3 st r hst
  obtain ⟨p8, p9, p10, p11, p12⟩ := plain4 st r.size hst z hz
  have F1 := fun w => fil_call 0 st r r hr hr wst w
  have F2 := fun w => fil_call 2 st ⟨#[]⟩ r (by decide) hr wst w
  have F3 := fun w => fil_call 4 st ⟨#[]⟩ r (by decide) hr wst w
  have F4 := fun w => fil_call 1 st ⟨#[]⟩ r (by decide) hr wst w
  have F5 := fun w => fil_call 3 st z z (by omega) (by omega) wst w
  have F6 := fun w => unf_call 4 st z z (by omega) (by omega) wst w
  rw [p1, p2] at F1
  rw [p3, p4] at F2
  rw [p5, p6] at F3
  rw [p7] at F4
  rw [p8, p9] at F5
  rw [p10, p11] at F6
  have G1 := Lib.hid F1
  have G2 := Lib.hid F2
  have G3 := Lib.hid F3
  have G4 := Lib.hid F4
  have G5 := Lib.hid F5
  have G6 := Lib.hid F6
  have HZ := Lib.hid hz
  have q2 := fil_size 1 st ⟨#[]⟩ r
  clear F1 F2 F3 F4 F5 F6 p1 p2 p3 p4 p5 p6 p7 p8 p9 p10 p11 wst wr h hz
  generalize filS 1 st ⟨#[]⟩ r = D at *
  have Z12 := Lib.hid p12
  have hzz : z.size ≤ 400 := by omega
  clear p12
  go_enter Try.func7, Try.ntmps7
  go_wp2_with fail
  refine (works_any _).mono ?_
  rintro r w1 ⟨rfl, b1⟩
  go_wp2_with fail
  refine (G1.out _).mono ?_
  rintro r w2 ⟨rfl, b2⟩
  have b2 := b1.trans (b2.mono b1.size)
  clear b1
  go_wp2_with fail
  refine (G2.out _).mono ?_
  rintro r w3 ⟨rfl, b3⟩
  have b3 := b2.trans (b3.mono b2.size)
  clear b2
  go_wp2_with fail
  refine (G3.out _).mono ?_
  rintro r w4 ⟨rfl, b4⟩
  have b4 := b3.trans (b4.mono b3.size)
  clear b3
  go_wp2_with fail
  refine (G4.out _).mono ?_
  rintro r w5 ⟨rfl, b5⟩
  have b5 := b4.trans (b5.mono b4.size)
  clear b4 G1 G2 G3 G4
  have hmk := makeZ r.size w5 (by omega)
  have hcv : (convert 33 9 (.slice (some ⟨w5.heap.size, 0, none⟩) r.size r.size)).run Try.prog (w5.alloc (.cells (madeCells #[.int .u8 0] r.size) 5)) = .ok (.string z) (w5.alloc (.cells (madeCells #[.int .u8 0] r.size) 5)) := by
    rw [HZ.out]
    exact str_of (RowIn.of_made (heap_alloc_new _ _)) r.size r.size (by simp)
  have b6 := b5.alloc b5.size (.cells (madeCells #[.int .u8 0] r.size) 5)
  go_wp2_with fail
  clear hmk hcv b5
  generalize w5.alloc (.cells (madeCells #[.int .u8 0] r.size) 5) = w6 at *
  refine (G5.out _).mono ?_
  rintro r w7 ⟨rfl, b7⟩
  have b7 := b6.trans (b7.mono b6.size)
  clear b6
  go_wp2_with fail
  refine (G6.out _).mono ?_
  rintro r w8 ⟨rfl, b8⟩
  have b8 := b7.trans (b8.mono b7.size)
  clear b7
  go_wp2_with fail
  go_ret
  exact ⟨rfl, b8⟩

set_option maxRecDepth 100000 in
theorem lifted (os : Os) (started : os.Started) (H : Type) (enc : TypeId × Value → H) :
    ReturnsInHanded {} Try.checked os 7 .any (Rows.filterPlainSpec.pre6 enc Try.prog Try.f7 Rows.filterPlainRow.domain false) (Rows.filterPlainSpec.post enc Try.prog Try.f7 false true false false) := by
  refine returnsInHanded_of_change (C := Try.checked) own started (by kernel_rfl) Try.func7
    (ChangeSpec.witness6 (enc := enc) (C := Try.checked) false ⟨#[], #[.int .i64 0, .string ByteArray.empty], []⟩ 8 (by kernel_rfl) (by kernel_rfl) (by kernel_rfl) (by kernel_rfl)) ?_
  intro W base args ds gs before hval0 hW hcnd _
  have hval : ∀ (j : Nat) t v, Try.f7.params[j]? = some t → args[j]? = some v → Value.okWide Try.prog W .any base t v := hval0
  have hW' := hW
  obtain ⟨p, q, hA0, hV, rfl, hfz, hnd⟩ := hW
  have hA : DataW.TrodAll enc Try.prog W 0 (fun _ => true) true Try.f7.params.toList args.toList ds p := hA0
  rw [Try.params7] at hA hval
  obtain ⟨v0, vs0, d0, ds0, p0, q0, hargs, rfl, rfl, h0, r0⟩ := trodAll_cons hA
  obtain ⟨v1, vs1, d1, ds1, p1, q1, rfl, rfl, rfl, h1, r1⟩ := trodAll_cons r0
  obtain ⟨rfl, rfl, rfl⟩ := trodAll_nil r1
  obtain rfl : args = #[v0, v1] := by cases args; simp_all
  obtain ⟨rfl, rfl⟩ := trodVars_none hV
  have k0 := h0
  have lt0 : ∀ x ∈ p0, x.block < W.heap.size := by obtain ⟨m, hm⟩ := k0; exact DataW.trod_lt m _ _ _ hm
  obtain ⟨a0, rfl, rfl, rfl, w0⟩ := open_int Try.underlying3 (hval 0 3 v0 rfl rfl) h0
  have k1 := h1
  have lt1 : ∀ x ∈ p1, x.block < W.heap.size := by obtain ⟨m, hm⟩ := k1; exact DataW.trod_lt m _ _ _ hm
  obtain ⟨a1, rfl, rfl, rfl, w1⟩ := open_string Try.underlying9 (hval 1 9 v1 rfl rfl) h1
  clear hA0 hval0
  refine (walk a0 a1 w0 w1 W).mono fun e W' ⟨he, bel⟩ => ?_
  subst he
  exact ⟨_, rfl, _, _, _, [], _, [], hW', trodAll_mk1 (shut_bool Try.underlying4 _), (trodAll_cons_mk (Below.trod laidOut (by kernel_rfl) (of_decide_eq_true (by kernel_rfl)) k0 bel lt0) (trodAll_cons_mk (Below.trod laidOut (by kernel_rfl) (of_decide_eq_true (by kernel_rfl)) k1 bel lt1) trodAll_mk0)), rfl, bel.frame _, fun h => by cases h⟩

theorem over : Rows.filterPlainRow.holds Try.pinned (OpenSpec.ofChange Rows.filterPlainSpec) :=
  OpenClaim.holds_of_wide 7 Try.f7 rfl rfl rfl rfl rfl rfl rfl ⟨rfl, rfl, rfl, rfl, rfl⟩ rfl rfl rfl rfl rfl (by kernel_rfl) Try.func7 (by kernel_rfl)
    (of_decide_eq_true (by kernel_rfl)) (by unfold Func.isWrapper; first | (rw [if_pos (by decide +kernel)]; kernel_rfl) | (rw [if_neg (by decide +kernel)]; exact ⟨rfl, rfl⟩))
    (fun os started H enc _ => lifted os started H enc)

theorem proved : Rows.FilterPlainSaid := over
end Go.Proofs.Ytcjloklilabblaa.filterPlain
