/-
  SymbolsRise (layer 7): greater lengths and distances have no lesser symbols; of one symbol the extra number rises with them, and there is room for it.
-/
import Derived.Test.YtikfenimgjeplaaRows
import Derived.Test.YtikfenimgjeplaaSymWorks
import Derived.WalkKit
import Derived.ProofKit
import Derived.OpenShut
import Derived.ShutString
import Derived.ChangeOld
import Derived.Below
import Derived.Lib.SmallJoins
import Derived.Deep.Slices
namespace Go.Proofs.Ytikfenimgjeplaa.symbolsRise
open Go.Proofs.Ytikfenimgjeplaa.Sym
open Go.ChangeShapes Go.WideShapes Go.ChangeAt Go.RowKit
open Go.ChangeMaps (open_string shut_string)
set_option linter.unusedVariables false

theorem own : ownKnob Try.prog.godebug = none := by kernel_rfl
theorem laidOut : laidOutB Try.prog = true := by kernel_rfl

theorem lastIx_mono (b : Nat → Nat) (n m : Nat) (h : n ≤ m) : ∀ c, lastIx b n c ≤ lastIx b m c
  | 0 => Nat.le_refl _
  | c + 1 => by
    unfold lastIx
    by_cases h1 : b c ≤ n
    · rw [if_pos h1, if_pos (by omega)]; exact Nat.le_refl _
    · rw [if_neg h1]
      by_cases h2 : b c ≤ m
      · rw [if_pos h2]
        by_cases h0 : c = 0
        · subst h0; exact Nat.le_refl _
        · have := lastIx_lt b n c (by omega); omega
      · rw [if_neg h2]; exact lastIx_mono b n m h c

/-- All that is asked of the two distances. -/
theorem dist_rise (n m : Nat) (h1 : 1 ≤ n) (h2 : n ≤ m) (h3 : m ≤ 32768) : ∃ a b c d e f : Nat, distS n = (a, b, c) ∧ distS m = (d, e, f) ∧ ∃ base : Nat, distO a = (base, c) ∧ a ≤ d ∧ (a = d → e - b = m - n ∧ b ≤ e ∧ c = f) ∧ base + b = n ∧ b < 2 ^ c ∧ c ≤ 13 := by
  obtain ⟨p1, p2, p3⟩ := di_spec n h1 (by omega)
  obtain ⟨q1, q2, q3⟩ := di_spec m (by omega) h3
  have hm : di n ≤ di m := lastIx_mono DB n m h2 30
  refine ⟨di n, n - DB (di n), DX (di n), di m, m - DB (di m), DX (di m), ?_, ?_, DB (di n), ?_, hm, ?_, by omega, by omega, DX_le _⟩
  · unfold distS; rw [if_pos (by omega), Int.toNat_natCast]
  · unfold distS; rw [if_pos (by omega), Int.toNat_natCast]
  · unfold distO; rw [if_pos (by omega), Int.toNat_natCast]
  · intro e
    rw [← e] at q2 ⊢
    exact ⟨by omega, by omega, rfl⟩
theorem len_rise (n m : Nat) (h1 : 3 ≤ n) (h2 : n ≤ m) (h3 : m ≤ 258) : ∃ a b c d e f : Nat, lenS n = (a, b, c) ∧ lenS m = (d, e, f) ∧ ∃ base : Nat, lenO a = (base, c) ∧ a ≤ d ∧ (a = d → e - b = m - n ∧ b ≤ e ∧ c = f) ∧ base + b = n ∧ b < 2 ^ c ∧ c ≤ 5 := by
  obtain ⟨p1, p2, p3⟩ := li_spec n h1 (by omega)
  obtain ⟨q1, q2, q3⟩ := li_spec m (by omega) h3
  have hm : li n ≤ li m := lastIx_mono LB n m h2 29
  refine ⟨257 + li n, n - LB (li n), LX (li n), 257 + li m, m - LB (li m), LX (li m), ?_, ?_, LB (li n), ?_, by omega, ?_, by omega, by omega, LX_le _⟩
  · unfold lenS; rw [if_pos (by omega), Int.toNat_natCast]
  · unfold lenS; rw [if_pos (by omega), Int.toNat_natCast]
  · unfold lenO; rw [if_pos (by omega), show ((257 + li n : Nat) : Int).toNat - 257 = li n by omega]
  · intro e
    have e2 : li n = li m := by omega
    rw [← e2] at q2 ⊢
    exact ⟨by omega, by omega, rfl⟩

set_option maxRecDepth 100000 in
set_option maxHeartbeats 8000000 in
theorem early (n m : Int) (W : World) (h : n < 1 ∨ m < n ∨ 32768 < m) :
    Calls Try.prog 8 #[.int .i64 n, .int .i64 m] W fun e w' => e = .returned (.bool true) ∧ Below W.heap.size W w' := by
  by_cases h1 : n < 1
  · clear h
    have d1 : decide (n < 1) = true := by simp; omega
    go_enter Try.func8, Try.ntmps8
    go_wp2_with fail
    refine (works_any _).mono ?_
    rintro r w1 ⟨rfl, b1⟩
    go_wp2_with fail
    all_goals (go_ret; exact ⟨rfl, b1⟩)
  have d1 : decide (n < 1) = false := by simp; omega
  by_cases h2 : m < n
  · have d2 : decide (m < n) = true := by simp; omega
    clear h
    go_enter Try.func8, Try.ntmps8
    go_wp2_with fail
    refine (works_any _).mono ?_
    rintro r w1 ⟨rfl, b1⟩
    go_wp2_with fail
    all_goals (go_ret; exact ⟨rfl, b1⟩)
  have d2 : decide (m < n) = false := by simp; omega
  have h3 : 32768 < m := by omega
  have d3 : decide (32768 < m) = true := by simp; omega
  clear h
  go_enter Try.func8, Try.ntmps8
  go_wp2_with fail
  refine (works_any _).mono ?_
  rintro r w1 ⟨rfl, b1⟩
  go_wp2_with fail
  all_goals (go_ret; exact ⟨rfl, b1⟩)

set_option maxRecDepth 100000 in
set_option maxHeartbeats 8000000 in
theorem walk (n m : Int) (W : World) :
    Calls Try.prog 8 #[.int .i64 n, .int .i64 m] W fun e w' => e = .returned (.bool true) ∧ Below W.heap.size W w' := by
  by_cases hg : n < 1 ∨ m < n ∨ 32768 < m
  · exact early n m W hg
  have d1 : decide (n < 1) = false := by simp; omega
  have d2 : decide (m < n) = false := by simp; omega
  have d3 : decide (32768 < m) = false := by simp; omega
  obtain ⟨n, rfl⟩ : ∃ N : Nat, n = N := ⟨n.toNat, by omega⟩
  obtain ⟨m, rfl⟩ : ∃ M : Nat, m = M := ⟨m.toNat, by omega⟩
  have h1 : 1 ≤ n := by omega
  have h2 : n ≤ m := by omega
  have h3 : m ≤ 32768 := by omega
  have np2 : ¬ (m < n) := by omega
  have nd2 : decide (m < n) = false := by simp; omega
  have nd3 : decide (32768 < m) = false := by simp; omega
  have C1 := Lib.hid (fun (n : Nat) (hn : n ≤ 32768) w => distance_any n (by omega) w)
  have C2 := Lib.hid (fun (s : Nat) w => distanceOf_any s w)
  have C3 := Lib.hid (fun (n : Nat) (hn : n ≤ 32768) w => length_any n (by omega) w)
  have C4 := Lib.hid (fun (s : Nat) w => lengthOf_any s w)
  obtain ⟨a, b, c, d, e, f, e1, e2, base, e3, r1, r2, r3, r4, r5⟩ := dist_rise n m h1 h2 h3
  have D1 := Lib.hid (C1.out n (by omega))
  have D2 := Lib.hid (C1.out m h3)
  have D3 := Lib.hid (C2.out a)
  rw [e1] at D1
  rw [e2] at D2
  rw [e3] at D3
  unfold trip at D1 D2
  unfold pairN at D3
  clear e1 e2 e3 hg C1 C2
  have x1 : decide (d < a) = false := by simp; omega
  have x2 : decide ((d : Int) < (a : Int)) = false := by simp; omega
  obtain ⟨P, hP1, hP2, hP3, hP4⟩ := pow_lay c (by omega)
  rw [hP1] at r4
  have hwP : IntKind.i64.wrap P = P := IntWalk.i64_in _ (by omega)
  have hw3 : IntKind.i64.wrap ((base : Int) + b) = (n : Int) := by rw [show (base : Int) + b = (n : Int) by omega]; exact IntWalk.i64_in _ (by omega)
  have x3 : decide (P ≤ b) = false := by simp; omega
  have x4 : decide ((P : Int) ≤ (b : Int)) = false := by simp; omega
  have hw2 : IntKind.i64.wrap ((m : Int) - n) = ((m - n : Nat) : Int) := by rw [show (m : Int) - n = ((m - n : Nat) : Int) by omega]; exact IntWalk.i64_in _ (by omega)
  have hw1 : a = d → IntKind.i64.wrap ((e : Int) - b) = ((m - n : Nat) : Int) := fun h => by
    obtain ⟨k1, k2, k3⟩ := r2 h
    rw [show (e : Int) - b = ((m - n : Nat) : Int) by omega]; exact IntWalk.i64_in _ (by omega)
  have HC : (d = a ∧ IntKind.i64.wrap ((e : Int) - b) = ((m - n : Nat) : Int) ∧ c = f) ∨ ((a == d) = false ∧ ((a : Int) == (d : Int)) = false ∧ ((a : Int) != (d : Int)) = true ∧ ¬ (a = d) ∧ ¬ ((a : Int) = d)) := by
    by_cases h : a = d
    · obtain ⟨k1, k2, k3⟩ := r2 h
      exact .inl ⟨h.symm, hw1 h, k3⟩
    · exact .inr ⟨by simpa using h, by simp; omega, by simp; omega, h, by omega⟩
  have np4 : ¬ (d < a) := by omega
  have np5 : ¬ (P ≤ b) := by omega
  clear r2 hw1 hP1
  by_cases hsm : n < 3 ∨ 258 < m
  · have g1 : (decide (n < 3) = true ∧ decide ((n : Int) < 3) = true) ∨ (decide (n < 3) = false ∧ decide ((n : Int) < 3) = false ∧ decide (258 < m) = true ∧ decide ((258 : Int) < (m : Int)) = true) := by
      by_cases h : n < 3
      · exact .inl ⟨by simpa using h, by simp; omega⟩
      · exact .inr ⟨by simp; omega, by simp; omega, by simp; omega, by simp; omega⟩
    clear hsm C3 C4 h1 h2 h3 r1 r3 r4
    rcases HC with ⟨rfl, y3, rfl⟩ | ⟨y1, y2, y4, y5, y6⟩ <;> rcases g1 with ⟨z1, z2⟩ | ⟨z1, z2, z3, z4⟩
    all_goals (
      generalize m - n = mn at *
      go_enter Try.func8, Try.ntmps8
      go_wp2_with fail
      refine (works_any _).mono ?_
      rintro r w1 ⟨rfl, b1⟩
      have HB1 := Lib.hid b1
      clear b1
      go_wp2_with fail
      refine (D1.out _).mono ?_
      rintro r w2 ⟨rfl, b⟩
      have HB2 := Lib.hid (HB1.out.trans (b.mono HB1.out.size))
      clear b HB1
      go_wp2_with fail
      refine (D2.out _).mono ?_
      rintro r w3 ⟨rfl, b⟩
      have HB3 := Lib.hid (HB2.out.trans (b.mono HB2.out.size))
      clear b HB2
      go_wp2_with fail
      refine (D3.out _).mono ?_
      rintro r w4 ⟨rfl, b⟩
      have HB4 := Lib.hid (HB3.out.trans (b.mono HB3.out.size))
      clear b HB3
      go_wp2_with fail
      go_ret
      exact ⟨rfl, HB4.out⟩)
  · have z1 : decide (n < 3) = false := by simp; omega
    have z2 : decide ((n : Int) < 3) = false := by simp; omega
    have z3 : decide (258 < m) = false := by simp; omega
    have z4 : decide ((258 : Int) < (m : Int)) = false := by simp; omega
    obtain ⟨a', b', c', d', e', f', e1, e2, base', e3, r1', r2', r3', r4', r5'⟩ := len_rise n m (by omega) h2 (by omega)
    have D4 := Lib.hid (C3.out n (by omega))
    have D5 := Lib.hid (C3.out m h3)
    have D6 := Lib.hid (C4.out a')
    rw [e1] at D4
    rw [e2] at D5
    rw [e3] at D6
    unfold trip at D4 D5
    unfold pairN at D6
    have x1' : decide (a' ≤ d') = true := by simp; omega
    have x2' : decide ((a' : Int) ≤ (d' : Int)) = true := by simp; omega
    obtain ⟨P', hP1', hP2', hP3', hP4'⟩ := pow_lay c' (by omega)
    rw [hP1'] at r4'
    have hwP' : IntKind.i64.wrap P' = P' := IntWalk.i64_in _ (by omega)
    have hw3' : IntKind.i64.wrap ((base' : Int) + b') = (n : Int) := by rw [show (base' : Int) + b' = (n : Int) by omega]; exact IntWalk.i64_in _ (by omega)
    have x3' : decide (b' < P') = true := by simp; omega
    have x4' : decide ((b' : Int) < (P' : Int)) = true := by simp; omega
    have HC' : (d' = a' ∧ IntKind.i64.wrap ((e' : Int) - b') = ((m - n : Nat) : Int) ∧ c' = f') ∨ ((a' == d') = false ∧ ((a' : Int) == (d' : Int)) = false ∧ ((a' : Int) != (d' : Int)) = true ∧ ¬ (a' = d') ∧ ¬ ((a' : Int) = d')) := by
      by_cases h : a' = d'
      · obtain ⟨k1, k2, k3⟩ := r2' h
        exact .inl ⟨h.symm, by rw [show (e' : Int) - b' = ((m - n : Nat) : Int) by omega]; exact IntWalk.i64_in _ (by omega), k3⟩
      · exact .inr ⟨by simpa using h, by simp; omega, by simp; omega, h, by omega⟩
    have np6 : a' ≤ d' := by omega
    have np7 : b' < P' := by omega
    clear hsm C3 C4 h1 h2 h3 r1 r3 r4 r1' r2' r3' r4' e1 e2 e3 hP1'
    rcases HC with ⟨rfl, y3, rfl⟩ | ⟨y1, y2, y4, y5, y6⟩ <;> rcases HC' with ⟨rfl, y3', rfl⟩ | ⟨y1', y2', y4', y5', y6'⟩
    all_goals (
      generalize m - n = mn at *
      go_enter Try.func8, Try.ntmps8
      go_wp2_with fail
      refine (works_any _).mono ?_
      rintro r w1 ⟨rfl, b1⟩
      have HB1 := Lib.hid b1
      clear b1
      go_wp2_with fail
      refine (D1.out _).mono ?_
      rintro r w2 ⟨rfl, b⟩
      have HB2 := Lib.hid (HB1.out.trans (b.mono HB1.out.size))
      clear b HB1
      go_wp2_with fail
      refine (D2.out _).mono ?_
      rintro r w3 ⟨rfl, b⟩
      have HB3 := Lib.hid (HB2.out.trans (b.mono HB2.out.size))
      clear b HB2
      go_wp2_with fail
      refine (D3.out _).mono ?_
      rintro r w4 ⟨rfl, b⟩
      have HB4 := Lib.hid (HB3.out.trans (b.mono HB3.out.size))
      clear b HB3
      go_wp2_with fail
      refine (D4.out _).mono ?_
      rintro r w5 ⟨rfl, b⟩
      have HB5 := Lib.hid (HB4.out.trans (b.mono HB4.out.size))
      clear b HB4
      go_wp2_with fail
      refine (D5.out _).mono ?_
      rintro r w6 ⟨rfl, b⟩
      have HB6 := Lib.hid (HB5.out.trans (b.mono HB5.out.size))
      clear b HB5
      go_wp2_with fail
      refine (D6.out _).mono ?_
      rintro r w7 ⟨rfl, b⟩
      have HB7 := Lib.hid (HB6.out.trans (b.mono HB6.out.size))
      clear b HB6
      go_wp2_with fail
      go_ret
      exact ⟨rfl, HB7.out⟩)

set_option maxRecDepth 100000 in
theorem lifted (os : Os) (started : os.Started) (H : Type) (enc : TypeId × Value → H) :
    ReturnsInHanded {} Try.checked os 8 .any (Rows.symbolsRiseSpec.pre6 enc Try.prog Try.f8 Rows.symbolsRiseRow.domain false) (Rows.symbolsRiseSpec.post enc Try.prog Try.f8 false true false false) := by
  refine returnsInHanded_of_change (C := Try.checked) own started (by kernel_rfl) Try.func8
    (ChangeSpec.witness6 (enc := enc) (C := Try.checked) false ⟨#[], #[.int .i64 0, .int .i64 0], []⟩ 8 (by kernel_rfl) (by kernel_rfl) (by kernel_rfl) (by kernel_rfl)) ?_
  intro W base args ds gs before hval0 hW hcnd _
  have hval : ∀ (j : Nat) t v, Try.f8.params[j]? = some t → args[j]? = some v → Value.okWide Try.prog W .any base t v := hval0
  have hW' := hW
  obtain ⟨p, q, hA0, hV, rfl, hfz, hnd⟩ := hW
  have hA : DataW.TrodAll enc Try.prog W 0 (fun _ => true) true Try.f8.params.toList args.toList ds p := hA0
  rw [Try.params8] at hA hval
  obtain ⟨v0, vs0, d0, ds0, p0, q0, hargs, rfl, rfl, h0, r0⟩ := trodAll_cons hA
  obtain ⟨v1, vs1, d1, ds1, p1, q1, rfl, rfl, rfl, h1, r1⟩ := trodAll_cons r0
  obtain ⟨rfl, rfl, rfl⟩ := trodAll_nil r1
  obtain rfl : args = #[v0, v1] := by cases args; simp_all
  obtain ⟨rfl, rfl⟩ := trodVars_none hV
  have k0 := h0
  have lt0 : ∀ x ∈ p0, x.block < W.heap.size := by obtain ⟨m, hm⟩ := k0; exact DataW.trod_lt m _ _ _ hm
  obtain ⟨a0, rfl, rfl, rfl, w0⟩ := open_int Try.underlying3 (hval 0 3 v0 rfl rfl) h0
  have k1 := h1
  have lt1 : ∀ x ∈ p1, x.block < W.heap.size := by obtain ⟨m, hm⟩ := k1; exact DataW.trod_lt m _ _ _ hm
  obtain ⟨a1, rfl, rfl, rfl, w1⟩ := open_int Try.underlying3 (hval 1 3 v1 rfl rfl) h1
  clear hA0 hval0
  refine (walk a0 a1 W).mono fun e W' ⟨he, bel⟩ => ?_
  subst he
  exact ⟨_, rfl, _, _, _, [], _, [], hW', trodAll_mk1 (shut_bool Try.underlying4 _), (trodAll_cons_mk (Below.trod laidOut (by kernel_rfl) (of_decide_eq_true (by kernel_rfl)) k0 bel lt0) (trodAll_cons_mk (Below.trod laidOut (by kernel_rfl) (of_decide_eq_true (by kernel_rfl)) k1 bel lt1) trodAll_mk0)), rfl, bel.frame _, fun h => by cases h⟩

theorem over : Rows.symbolsRiseRow.holds Try.pinned (OpenSpec.ofChange Rows.symbolsRiseSpec) :=
  OpenClaim.holds_of_wide 8 Try.f8 rfl rfl rfl rfl rfl rfl rfl ⟨rfl, rfl, rfl, rfl, rfl⟩ rfl rfl rfl rfl rfl (by kernel_rfl) Try.func8 (by kernel_rfl)
    (of_decide_eq_true (by kernel_rfl)) (by unfold Func.isWrapper; first | (rw [if_pos (by decide +kernel)]; kernel_rfl) | (rw [if_neg (by decide +kernel)]; exact ⟨rfl, rfl⟩))
    (fun os started H enc _ => lifted os started H enc)

theorem proved : Rows.SymbolsRiseSaid := over
end Go.Proofs.Ytikfenimgjeplaa.symbolsRise
