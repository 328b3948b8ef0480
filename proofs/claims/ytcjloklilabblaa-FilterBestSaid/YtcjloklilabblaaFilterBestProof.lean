/-
  Proved: no kind has a lesser sum than the kind that is chosen, and none ahead of it an equal one; a row that is the same as the one above is all noughts by Up; rows of more than 400 bytes are not asked about (statement FilterBest). Conditions: none.
-/
import Derived.Test.YtcjloklilabblaaRows
import Derived.Test.YtcjloklilabblaaFltWorks
import Derived.WalkKit
import Derived.ProofKit
import Derived.OpenShut
import Derived.ShutString
import Derived.ChangeOld
import Derived.Below
import Derived.Lib.SmallJoins
import Derived.Deep.Slices
namespace Go.Proofs.Ytcjloklilabblaa.filterBest
open Go.Proofs.Ytcjloklilabblaa.Flt
open Go.ChangeShapes Go.WideShapes Go.ChangeAt Go.RowKit
open Go.ChangeMaps (open_string shut_string)
set_option linter.unusedVariables false

theorem own : ownKnob Try.prog.godebug = none := by kernel_rfl
theorem laidOut : laidOutB Try.prog = true := by kernel_rfl

theorem fil_up_same (st : Int) (r : List UInt8) : ∀ n, n ≤ r.length → filL 2 st r r n = List.replicate n 0 := by
  intro n
  induction n with
  | zero => intro _; rfl
  | succ n ih =>
    intro hn
    unfold filL
    rw [ih (by omega), List.replicate_succ']
    congr 2
    unfold filB
    rw [guess_up]
    apply byteI_of
    show _ = (((0 : UInt8).toNat : Nat) : Int)
    rw [show (0 : UInt8).toNat = 0 from rfl]
    omega
theorem early (st : Int) (p r : ByteArray) (k : Int) (wp : p.size ≤ maxLen) (wr : r.size ≤ maxLen) (h : 400 < p.size ∨ 400 < r.size) (w : World) :
    Calls Try.prog 6 #[.int .i64 st, .string p, .string r, .int .i64 k] w fun e w' => e = .returned (.bool true) ∧ Below w.heap.size w w' := by
  have O := fun w => over_any p r wp wr w
  rw [decide_eq_true h] at O
  have OO := Lib.hid O
  clear O h
  go_enter Try.func6, Try.ntmps6
  go_wp2_with fail
  refine (works_any _).mono ?_
  rintro r w1 ⟨rfl, b1⟩
  go_wp2_with fail
  refine (OO.out _).mono ?_
  rintro r w2 ⟨rfl, rfl⟩
  go_wp2_with fail
  go_ret
  exact ⟨rfl, b1⟩
theorem early2 (st : Int) (p r : ByteArray) (k : Int) (wp : p.size ≤ maxLen) (wr : r.size ≤ maxLen) (h : ¬ (400 < p.size ∨ 400 < r.size)) (hb : st < 1 ∨ k < 0 ∨ 4 < k) (w : World) :
    Calls Try.prog 6 #[.int .i64 st, .string p, .string r, .int .i64 k] w fun e w' => e = .returned (.bool true) ∧ Below w.heap.size w w' := by
  have O := fun w => over_any p r wp wr w
  rw [decide_eq_false h] at O
  have OO := Lib.hid O
  clear O h
  by_cases h1 : st < 1
  · clear hb
    have d1 : decide (st < 1) = true := decide_eq_true (by omega)
    go_enter Try.func6, Try.ntmps6
    go_wp2_with fail
    refine (works_any _).mono ?_
    rintro r w1 ⟨rfl, b1⟩
    go_wp2_with fail
    refine (OO.out _).mono ?_
    rintro r w2 ⟨rfl, rfl⟩
    go_wp2_with fail
    go_ret
    exact ⟨rfl, b1⟩
  have d1 : decide (st < 1) = false := decide_eq_false (by omega)
  by_cases h2 : k < 0
  · clear hb
    have d2 : decide (k < 0) = true := decide_eq_true (by omega)
    go_enter Try.func6, Try.ntmps6
    go_wp2_with fail
    refine (works_any _).mono ?_
    rintro r w1 ⟨rfl, b1⟩
    go_wp2_with fail
    refine (OO.out _).mono ?_
    rintro r w2 ⟨rfl, rfl⟩
    go_wp2_with fail
    go_ret
    exact ⟨rfl, b1⟩
  have d2 : decide (k < 0) = false := decide_eq_false (by omega)
  have h3 : 4 < k := by omega
  have d3 : decide (4 < k) = true := decide_eq_true (by omega)
  clear hb
  go_enter Try.func6, Try.ntmps6
  go_wp2_with fail
  refine (works_any _).mono ?_
  rintro r w1 ⟨rfl, b1⟩
  go_wp2_with fail
  refine (OO.out _).mono ?_
  rintro r w2 ⟨rfl, rfl⟩
  go_wp2_with fail
  go_ret
  exact ⟨rfl, b1⟩
theorem weighs (k st : Int) (p r : ByteArray) (hr : r.size ≤ 400) (w : World) :
    Calls Try.prog 18 #[.string (filS k st p r)] w fun e w' => e = .returned (.int .i64 (wtL (filS k st p r).data.toList)) ∧ w = w' :=
  refWeight_any _ (by have := fil_size k st p r; omega) w
/-- What is known of the kind that is chosen. -/
theorem best (st : Int) (p r : ByteArray) (j : Nat) (hj : j ≤ 4) (h : rightB 0 st p r = true) : bestK st p r ≤ 4 ∧ wtL (filS (bestK st p r) st p r).data.toList ≤ wtL (filS j st p r).data.toList ∧ (j < bestK st p r → wtL (filS (bestK st p r) st p r).data.toList < wtL (filS j st p r).data.toList) := by
  have e : bestK st p r = pick (wtK st p r) 4 := by unfold bestK; rw [if_pos h]
  obtain ⟨h1, h2⟩ := pick_spec (wtK st p r) 4
  have f : ∀ k : Nat, k ≤ 4 → wtL (filS k st p r).data.toList = wtK st p r k := fun k hk => by
    have : rightB k st p r = true := (rightB_of k 0 st p r hk (by omega)).trans h
    unfold filS; rw [if_pos this]; rfl
  rw [e, f _ h1, f j hj]
  exact ⟨h1, h2 j hj⟩
theorem walk (st : Int) (p r : ByteArray) (k : Int) (wst : (Lit.int .i64 st).wf = true) (wp : p.size ≤ maxLen) (wr : r.size ≤ maxLen) (w : World) :
    Calls Try.prog 6 #[.int .i64 st, .string p, .string r, .int .i64 k] w fun e w' => e = .returned (.bool true) ∧ Below w.heap.size w w' := by
  by_cases h : 400 < p.size ∨ 400 < r.size
  · exact early st p r k wp wr h w
  by_cases hb : st < 1 ∨ k < 0 ∨ 4 < k
  · exact early2 st p r k wp wr h hb w
  have O := fun w => over_any p r wp wr w
  rw [decide_eq_false h] at O
  have OO := Lib.hid O
  have hp : p.size ≤ 400 := by omega
  have hr : r.size ≤ 400 := by omega
  obtain ⟨j, rfl⟩ : ∃ j : Nat, k = j := ⟨k.toNat, by omega⟩
  have hj : j ≤ 4 := by omega
  have d1 : decide (st < 1) = false := decide_eq_false (by omega)
  have d2 : decide ((j : Int) < 0) = false := decide_eq_false (by omega)
  have d3 : decide (4 < (j : Int)) = false := decide_eq_false (by omega)
  have C := Lib.hid (fun w => choose_any st p r hp hr wst w)
  have F := Lib.hid (fun w => fil_call (bestK st p r) st p r hp hr wst w)
  have G := Lib.hid (fun w => fil_call j st p r hp hr wst w)
  by_cases hR : rightB 0 st p r = true
  · obtain ⟨hK, hle, hlt⟩ := best st p r j hj hR
    have e1 : erS (bestK st p r) st p r = 0 := by
      have : rightB (bestK st p r) st p r = true := (rightB_of _ 0 st p r hK (by omega)).trans hR
      unfold erS; rw [if_pos this]
    have e2 : erS j st p r = 0 := by
      have : rightB j st p r = true := (rightB_of _ 0 st p r hj (by omega)).trans hR
      unfold erS; rw [if_pos this]
    have hU : rightB 2 st r r = true := decide_eq_true ⟨by omega, by omega, by omega, .inr rfl⟩
    have e3 : erS 2 st r r = 0 := by unfold erS; rw [if_pos hU]
    have e4 : wtL (filS 2 st r r).data.toList = 0 := by
      unfold filS; rw [if_pos hU]
      show wtL (filL 2 st r.data.toList r.data.toList r.size) = 0
      rw [fil_up_same st r.data.toList r.size (by simp)]
      exact wtL_zeros _
    have W1 := Lib.hid (fun w => weighs (bestK st p r) st p r hr w)
    have W2 := Lib.hid (fun w => weighs j st p r hr w)
    have U := fun w => fil_call 2 st r r hr hr wst w
    have W3 := fun w => weighs 2 st r r hr w
    rw [e3] at U
    rw [e4] at W3
    rw [e1] at F
    rw [e2] at G
    have UU := Lib.hid U
    have W4 := Lib.hid W3
    clear e1 e2 e3 e4 U W3 hU hR O h hb wst wp wr
    generalize hX : wtL (filS (bestK st p r) st p r).data.toList = X at *
    generalize hY : wtL (filS j st p r).data.toList = Y at *
    clear hX hY
    generalize filS (bestK st p r) st p r = A at *
    generalize filS j st p r = B at *
    generalize filS 2 st r r = D at *
    generalize bestK st p r = K at *
    have q1 : decide ((X : Int) ≤ Y) = true := decide_eq_true (by omega)
    have q2 : decide (X ≤ Y) = true := decide_eq_true (by omega)
    have HLT := Lib.hid hlt
    have HLE := Lib.hid hle
    clear hlt hle
    go_enter Try.func6, Try.ntmps6
    go_wp2_with fail
    refine (works_any _).mono ?_
    rintro r w1 ⟨rfl, b1⟩
    go_wp2_with fail
    refine (OO.out _).mono ?_
    rintro r w2 ⟨rfl, rfl⟩
    go_wp2_with fail
    refine (C.out _).mono ?_
    rintro r w2 ⟨rfl, b2⟩
    have b2 := b1.trans (b2.mono b1.size)
    clear b1
    go_wp2_with fail
    refine (F.out _).mono ?_
    rintro r w3 ⟨rfl, b3⟩
    have b3 := b2.trans (b3.mono b2.size)
    clear b2
    go_wp2_with fail
    refine (G.out _).mono ?_
    rintro r w4 ⟨rfl, b4⟩
    have b4 := b3.trans (b4.mono b3.size)
    clear b3
    go_wp2_with fail
    refine (UU.out _).mono ?_
    rintro r w5 ⟨rfl, b5⟩
    have b5 := b4.trans (b5.mono b4.size)
    clear b4
    go_wp2_with fail
    refine (W1.out _).mono ?_
    rintro r w6 ⟨rfl, rfl⟩
    go_wp2_with fail
    refine (W2.out _).mono ?_
    rintro r w6 ⟨rfl, rfl⟩
    by_cases hKj : K ≤ j
    · have q3 : decide ((K : Int) ≤ j) = true := decide_eq_true (by omega)
      have q4 : decide (K ≤ j) = true := decide_eq_true (by omega)
      go_wp2_with fail
      refine (W4.out _).mono ?_
      rintro r w6 ⟨rfl, rfl⟩
      go_wp2_with fail
      go_ret
      exact ⟨rfl, b5⟩
    · have q3 : decide ((K : Int) ≤ j) = false := decide_eq_false (by omega)
      have q4 : decide (K ≤ j) = false := decide_eq_false (by omega)
      have q5 : decide ((X : Int) < Y) = true := by have := HLT.out (by omega); exact decide_eq_true (by omega)
      have q6 : decide (X < Y) = true := by have := HLT.out (by omega); exact decide_eq_true (by omega)
      go_wp2_with fail
      refine (W1.out _).mono ?_
      rintro r w6 ⟨rfl, rfl⟩
      go_wp2_with fail
      refine (W2.out _).mono ?_
      rintro r w6 ⟨rfl, rfl⟩
      go_wp2_with fail
      refine (W4.out _).mono ?_
      rintro r w6 ⟨rfl, rfl⟩
      go_wp2_with fail
      go_ret
      exact ⟨rfl, b5⟩
  · have hK : bestK st p r = 0 := by unfold bestK; rw [if_neg hR]
    have n1 : ∀ i : Nat, i ≤ 4 → ¬ rightB i st p r = true := fun i hi e => hR ((rightB_of i 0 st p r hi (by omega)).symm.trans e)
    have e1 : erS (bestK st p r) st p r = 1 := by unfold erS; rw [if_neg (n1 _ (by omega))]
    have e2 : erS j st p r = 1 := by unfold erS; rw [if_neg (n1 _ hj)]
    rw [e1] at F
    rw [e2] at G
    rw [hK] at C F
    clear e1 e2 n1 hK hR O h hb wst wp wr
    generalize filS ((0 : Nat) : Int) st p r = A at *
    generalize filS j st p r = B at *
    go_enter Try.func6, Try.ntmps6
    go_wp2_with fail
    refine (works_any _).mono ?_
    rintro r w1 ⟨rfl, b1⟩
    go_wp2_with fail
    refine (OO.out _).mono ?_
    rintro r w2 ⟨rfl, rfl⟩
    go_wp2_with fail
    refine (C.out _).mono ?_
    rintro r w2 ⟨rfl, b2⟩
    have b2 := b1.trans (b2.mono b1.size)
    clear b1
    go_wp2_with fail
    refine (F.out _).mono ?_
    rintro r w3 ⟨rfl, b3⟩
    have b3 := b2.trans (b3.mono b2.size)
    clear b2
    go_wp2_with fail
    refine (G.out _).mono ?_
    rintro r w4 ⟨rfl, b4⟩
    have b4 := b3.trans (b4.mono b3.size)
    clear b3
    go_wp2_with fail
    go_ret
    exact ⟨rfl, b4⟩

set_option maxRecDepth 100000 in
theorem lifted (os : Os) (started : os.Started) (H : Type) (enc : TypeId × Value → H) :
    ReturnsInHanded {} Try.checked os 6 .any (Rows.filterBestSpec.pre6 enc Try.prog Try.f6 Rows.filterBestRow.domain false) (Rows.filterBestSpec.post enc Try.prog Try.f6 false true false false) := by
  refine returnsInHanded_of_change (C := Try.checked) own started (by kernel_rfl) Try.func6
    (ChangeSpec.witness6 (enc := enc) (C := Try.checked) false ⟨#[], #[.int .i64 0, .string ByteArray.empty, .string ByteArray.empty, .int .i64 0], []⟩ 8 (by kernel_rfl) (by kernel_rfl) (by kernel_rfl) (by kernel_rfl)) ?_
  intro W base args ds gs before hval0 hW hcnd _
  have hval : ∀ (j : Nat) t v, Try.f6.params[j]? = some t → args[j]? = some v → Value.okWide Try.prog W .any base t v := hval0
  have hW' := hW
  obtain ⟨p, q, hA0, hV, rfl, hfz, hnd⟩ := hW
  have hA : DataW.TrodAll enc Try.prog W 0 (fun _ => true) true Try.f6.params.toList args.toList ds p := hA0
  rw [Try.params6] at hA hval
  obtain ⟨v0, vs0, d0, ds0, p0, q0, hargs, rfl, rfl, h0, r0⟩ := trodAll_cons hA
  obtain ⟨v1, vs1, d1, ds1, p1, q1, rfl, rfl, rfl, h1, r1⟩ := trodAll_cons r0
  obtain ⟨v2, vs2, d2, ds2, p2, q2, rfl, rfl, rfl, h2, r2⟩ := trodAll_cons r1
  obtain ⟨v3, vs3, d3, ds3, p3, q3, rfl, rfl, rfl, h3, r3⟩ := trodAll_cons r2
  obtain ⟨rfl, rfl, rfl⟩ := trodAll_nil r3
  obtain rfl : args = #[v0, v1, v2, v3] := by cases args; simp_all
  obtain ⟨rfl, rfl⟩ := trodVars_none hV
  have k0 := h0
  have lt0 : ∀ x ∈ p0, x.block < W.heap.size := by obtain ⟨m, hm⟩ := k0; exact DataW.trod_lt m _ _ _ hm
  obtain ⟨a0, rfl, rfl, rfl, w0⟩ := open_int Try.underlying3 (hval 0 3 v0 rfl rfl) h0
  have k1 := h1
  have lt1 : ∀ x ∈ p1, x.block < W.heap.size := by obtain ⟨m, hm⟩ := k1; exact DataW.trod_lt m _ _ _ hm
  obtain ⟨a1, rfl, rfl, rfl, w1⟩ := open_string Try.underlying9 (hval 1 9 v1 rfl rfl) h1
  have k2 := h2
  have lt2 : ∀ x ∈ p2, x.block < W.heap.size := by obtain ⟨m, hm⟩ := k2; exact DataW.trod_lt m _ _ _ hm
  obtain ⟨a2, rfl, rfl, rfl, w2⟩ := open_string Try.underlying9 (hval 2 9 v2 rfl rfl) h2
  have k3 := h3
  have lt3 : ∀ x ∈ p3, x.block < W.heap.size := by obtain ⟨m, hm⟩ := k3; exact DataW.trod_lt m _ _ _ hm
  obtain ⟨a3, rfl, rfl, rfl, w3⟩ := open_int Try.underlying3 (hval 3 3 v3 rfl rfl) h3
  clear hA0 hval0
  refine (walk a0 a1 a2 a3 w0 w1 w2 W).mono fun e W' ⟨he, bel⟩ => ?_
  subst he
  exact ⟨_, rfl, _, _, _, [], _, [], hW', trodAll_mk1 (shut_bool Try.underlying4 _), (trodAll_cons_mk (Below.trod laidOut (by kernel_rfl) (of_decide_eq_true (by kernel_rfl)) k0 bel lt0) (trodAll_cons_mk (Below.trod laidOut (by kernel_rfl) (of_decide_eq_true (by kernel_rfl)) k1 bel lt1) (trodAll_cons_mk (Below.trod laidOut (by kernel_rfl) (of_decide_eq_true (by kernel_rfl)) k2 bel lt2) (trodAll_cons_mk (Below.trod laidOut (by kernel_rfl) (of_decide_eq_true (by kernel_rfl)) k3 bel lt3) trodAll_mk0)))), rfl, bel.frame _, fun h => by cases h⟩

theorem over : Rows.filterBestRow.holds Try.pinned (OpenSpec.ofChange Rows.filterBestSpec) :=
  OpenClaim.holds_of_wide 6 Try.f6 rfl rfl rfl rfl rfl rfl rfl ⟨rfl, rfl, rfl, rfl, rfl⟩ rfl rfl rfl rfl rfl (by kernel_rfl) Try.func6 (by kernel_rfl)
    (of_decide_eq_true (by kernel_rfl)) (by unfold Func.isWrapper; first | (rw [if_pos (by decide +kernel)]; kernel_rfl) | (rw [if_neg (by decide +kernel)]; exact ⟨rfl, rfl⟩))
    (fun os started H enc _ => lifted os started H enc)

theorem proved : Rows.FilterBestSaid := over
end Go.Proofs.Ytcjloklilabblaa.filterBest
