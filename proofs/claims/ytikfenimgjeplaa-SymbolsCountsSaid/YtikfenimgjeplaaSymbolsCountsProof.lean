/-
  SymbolsCounts (layer 7): how often each symbol comes in any tokens, and the fixed codes' lengths, are the document's.
-/
import Derived.Test.YtikfenimgjeplaaRows
import Derived.Test.YtikfenimgjeplaaSymSame
import Derived.WalkKit
import Derived.ProofKit
import Derived.OpenShut
import Derived.ShutString
import Derived.ChangeOld
import Derived.Below
import Derived.Lib.SmallJoins
import Derived.Deep.Slices
namespace Go.Proofs.Ytikfenimgjeplaa.symbolsCounts
open Go.Proofs.Ytikfenimgjeplaa.Sym
open Go.ChangeShapes Go.WideShapes Go.ChangeAt Go.RowKit
open Go.ChangeMaps (open_string shut_string)
set_option linter.unusedVariables false

theorem own : ownKnob Try.prog.godebug = none := by kernel_rfl
theorem laidOut : laidOutB Try.prog = true := by kernel_rfl

open Go.Proofs.Ytikfenimgjeplaa.Lz (Tok IsToks toks_see)
open Go.Proofs.Ytikfenimgjeplaa.Huf (IsInts)
set_option maxRecDepth 100000 in
set_option maxHeartbeats 8000000 in
theorem walk (a : Option Addr) (n cap : Nat) (l : List Tok) (W : World) (w0 : l.length = n ∧ n ≤ maxLen ∧ IsToks W a l ∧ (a = none → n = 0 ∧ cap = 0)) :
    Calls Try.prog 4 #[.slice a n cap] W fun e w' => e = .returned (.bool true) ∧ Below W.heap.size W w' := by
  obtain ⟨hl, hmax, hT, _⟩ := w0
  unfold maxLen at hmax
  have HT := Lib.hid hT
  clear hT
  by_cases hg : 60 < n
  · have hg' : (60 : Int) < n := by omega
    go_enter Try.func4, Try.ntmps4
    go_wp2_with fail
    refine (works_any _).mono ?_
    rintro r w1 ⟨rfl, b1⟩
    go_wp2_with fail
    all_goals (go_ret; exact ⟨rfl, b1⟩)
  have hg' : ¬ ((60 : Int) < n) := by omega
  have hn60 : n ≤ 60 := by omega
  have S1 := Lib.hid (fun w a b h1 h2 => sameRow_any a b 286 286 286 ((List.range 286).map (litC l)) w (by rw [List.length_map, List.length_range]) h1 h2 (by decide))
  have S2 := Lib.hid (fun w a b h1 h2 => sameRow_any a b 30 30 30 ((List.range 30).map (dstC l)) w (by rw [List.length_map, List.length_range]) h1 h2 (by decide))
  have S3 := Lib.hid (fun w a b c d h1 h2 => sameRow_any a b 288 c d fxL w rfl h1 h2 (by decide))
  have S4 := Lib.hid (fun w a b c d h1 h2 => sameRow_any a b 30 c d fxD w rfl h1 h2 (by decide))
  clear hg hmax
  go_enter Try.func4, Try.ntmps4
  go_wp2_with fail
  refine (works_any _).mono ?_
  rintro r w1 ⟨rfl, b1⟩
  have HB1 := Lib.hid b1
  clear b1
  go_wp2_with fail
  refine (count_any a l n cap w1 hl (HT.out.below HB1.out (Nat.le_refl _)) (by omega)).mono ?_
  rintro r w2 ⟨p1, p2, rfl, k1, k2, b⟩
  have HB2 := Lib.hid (HB1.out.trans (b.mono HB1.out.size))
  have K1 := Lib.hid (And.intro k1.isInts k2.isInts)
  clear b k1 k2 HB1
  go_wp2_with fail
  refine (refCount_any a l n cap w2 hl (HT.out.below HB2.out (Nat.le_refl _)) (by omega)).mono ?_
  rintro r w3 ⟨p3, p4, rfl, k1, k2, b⟩
  have HB3 := Lib.hid (HB2.out.trans (b.mono HB2.out.size))
  have K2 := Lib.hid (And.intro (K1.out.1.below b (Nat.le_refl _)) (And.intro (K1.out.2.below b (Nat.le_refl _)) (And.intro k1.isInts k2.isInts)))
  clear b k1 k2 HB2 K1
  go_wp2_with fail
  refine (fixed_any w3).mono ?_
  rintro r w4 ⟨p5, c5, p6, c6, rfl, k5, k6, b⟩
  have HB4 := Lib.hid (HB3.out.trans (b.mono HB3.out.size))
  have K3 := Lib.hid (And.intro (K2.out.1.below b (Nat.le_refl _)) (And.intro (K2.out.2.1.below b (Nat.le_refl _)) (And.intro (K2.out.2.2.1.below b (Nat.le_refl _)) (K2.out.2.2.2.below b (Nat.le_refl _)))))
  have K5 := Lib.hid (And.intro k5 k6)
  clear b k5 k6 HB3 K2
  go_wp2_with fail
  refine (refFixed_any w4).mono ?_
  rintro r w5 ⟨p7, c7, p8, c8, rfl, k7, k8, b⟩
  have HB5 := Lib.hid (HB4.out.trans (b.mono HB4.out.size))
  have K4 := Lib.hid (And.intro (K3.out.1.below b (Nat.le_refl _)) (And.intro (K3.out.2.1.below b (Nat.le_refl _)) (And.intro (K3.out.2.2.1.below b (Nat.le_refl _)) (K3.out.2.2.2.below b (Nat.le_refl _)))))
  have K6 := Lib.hid (And.intro (K5.out.1.below b (Nat.le_refl _)) (And.intro (K5.out.2.below b (Nat.le_refl _)) (And.intro k7 k8)))
  clear b k7 k8 HB4 K3 K5
  go_wp2_with fail
  refine (S1.out w5 _ _ K4.out.1 K4.out.2.2.1).mono ?_
  rintro r w6 ⟨rfl, q1, rfl⟩
  go_wp2_with fail
  refine (S2.out (w5.drewN q1) _ _ K4.out.2.1 K4.out.2.2.2).mono ?_
  rintro r w6 ⟨rfl, q2, rfl⟩
  go_wp2_with fail
  refine (S3.out (w5.drewN (q1 + q2)) _ _ _ _ K6.out.1 K6.out.2.2.1).mono ?_
  rintro r w6 ⟨rfl, q3, rfl⟩
  go_wp2_with fail
  refine (S4.out (w5.drewN (q1 + q2 + q3)) _ _ _ _ K6.out.2.1 K6.out.2.2.2).mono ?_
  rintro r w6 ⟨rfl, q4, rfl⟩
  go_wp2_with fail
  go_ret
  exact ⟨rfl, below_drew HB5.out _⟩

set_option maxRecDepth 100000 in
theorem lifted (os : Os) (started : os.Started) (H : Type) (enc : TypeId × Value → H) :
    ReturnsInHanded {} Try.checked os 4 .any (Rows.symbolsCountsSpec.pre6 enc Try.prog Try.f4 Rows.symbolsCountsRow.domain false) (Rows.symbolsCountsSpec.post enc Try.prog Try.f4 false true false false) := by
  refine returnsInHanded_of_change (C := Try.checked) own started (by kernel_rfl) Try.func4
    (ChangeSpec.witness6 (enc := enc) (C := Try.checked) false ⟨#[], #[.slice none 0 0], []⟩ 8 (by kernel_rfl) (by kernel_rfl) (by kernel_rfl) (by kernel_rfl)) ?_
  intro W base args ds gs before hval0 hW hcnd _
  have hval : ∀ (j : Nat) t v, Try.f4.params[j]? = some t → args[j]? = some v → Value.okWide Try.prog W .any base t v := hval0
  have hW' := hW
  obtain ⟨p, q, hA0, hV, rfl, hfz, hnd⟩ := hW
  have hA : DataW.TrodAll enc Try.prog W 0 (fun _ => true) true Try.f4.params.toList args.toList ds p := hA0
  rw [Try.params4] at hA hval
  obtain ⟨v0, vs0, d0, ds0, p0, q0, hargs, rfl, rfl, h0, r0⟩ := trodAll_cons hA
  obtain ⟨rfl, rfl, rfl⟩ := trodAll_nil r0
  obtain rfl : args = #[v0] := by cases args; simp_all
  obtain ⟨rfl, rfl⟩ := trodVars_none hV
  have k0 := h0
  have lt0 : ∀ x ∈ p0, x.block < W.heap.size := by obtain ⟨m, hm⟩ := k0; exact DataW.trod_lt m _ _ _ hm
  obtain ⟨a0, len0, cap0, rfl⟩ := okWide_slice Try.underlying32 (hval 0 32 v0 rfl rfl)
  obtain ⟨A0, w0⟩ := toks_see h0
  clear hA0 hval0
  refine (walk a0 len0 cap0 A0 W w0).mono fun e W' ⟨he, bel⟩ => ?_
  subst he
  exact ⟨_, rfl, _, _, _, [], _, [], hW', trodAll_mk1 (shut_bool Try.underlying4 _), (trodAll_cons_mk (Below.trod laidOut (by kernel_rfl) (of_decide_eq_true (by kernel_rfl)) k0 bel lt0) trodAll_mk0), rfl, bel.frame _, fun h => by cases h⟩

theorem over : Rows.symbolsCountsRow.holds Try.pinned (OpenSpec.ofChange Rows.symbolsCountsSpec) :=
  OpenClaim.holds_of_wide 4 Try.f4 rfl rfl rfl rfl rfl rfl rfl ⟨rfl, rfl, rfl, rfl, rfl⟩ rfl rfl rfl rfl rfl (by kernel_rfl) Try.func4 (by kernel_rfl)
    (of_decide_eq_true (by kernel_rfl)) (by unfold Func.isWrapper; first | (rw [if_pos (by decide +kernel)]; kernel_rfl) | (rw [if_neg (by decide +kernel)]; exact ⟨rfl, rfl⟩))
    (fun os started H enc _ => lifted os started H enc)

theorem proved : Rows.SymbolsCountsSaid := over
end Go.Proofs.Ytikfenimgjeplaa.symbolsCounts
