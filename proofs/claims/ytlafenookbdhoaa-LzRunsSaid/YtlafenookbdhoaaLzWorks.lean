/-
  The document's examples (miradorlaw06's works), and its bound.
-/
import Derived.Test.YtlafenookbdhoaaLzPlain
import Derived.Test.YtlafenookbdhoaaLzRef
namespace Go.Proofs.Ytlafenookbdhoaa.Lz
open Go.ChangeShapes Go.WideShapes Go.ChangeAt Go.RowKit
set_option linter.unusedVariables false

theorem isToks_lit (w : World) (T : TypeId) (l : List Tok) : IsToks (w.alloc (.cells (cellsT l).toArray T)) (some ⟨w.heap.size, 0, none⟩) l := by
  intro _
  refine ⟨w.heap.size, 0, rfl, by simp, fun i hi => ?_⟩
  obtain ⟨g0, g1, g2⟩ := cellsT_get l i hi
  refine ⟨?_, ?_, ?_⟩
  · rw [cell_of_row _ _ _ _ _ _ (heap_alloc_new _ _)]; simpa using g0
  · rw [cell_of_row _ _ _ _ _ _ (heap_alloc_new _ _)]; simpa using g1
  · rw [cell_of_row _ _ _ _ _ _ (heap_alloc_new _ _)]; simpa using g2

theorem w_exp1 : expL [97, 98] [⟨0, 5, 2⟩] = [97, 98, 97, 98, 97] ∧ expE [97, 98] [⟨0, 5, 2⟩] = 0 := by decide +kernel
theorem w_exp2 : expL [97, 98] [⟨0, 5, 3⟩] = [] ∧ expE [97, 98] [⟨0, 5, 3⟩] = 60 := by decide +kernel

theorem w_call1 (W : World) : Calls Try.prog 12 #[.string ⟨#[97, 98]⟩, .slice (some ⟨W.heap.size, 0, none⟩) 1 1] (W.alloc (.cells #[.int .i64 0, .int .i64 5, .int .i64 2] 30)) fun e w' =>
    e = .returned (.tuple #[.string ⟨#[97, 98, 97, 98, 97]⟩, .int .i64 0]) ∧ Below W.heap.size W w' := by
  refine (expand_any ⟨#[97, 98]⟩ (some ⟨W.heap.size, 0, none⟩) [⟨0, 5, 2⟩] 1 1 _ rfl (isToks_lit W 30 [⟨0, 5, 2⟩]) (by decide) (by decide)).mono ?_
  rintro e w' ⟨rfl, hb⟩
  refine ⟨?_, ((Below.refl _ _).alloc (Nat.le_refl _) _).trans (hb.mono (by simp))⟩
  rw [show (ByteArray.mk #[97, 98]).data.toList = [97, 98] from rfl, w_exp1.1, w_exp1.2]
theorem w_call2 (W : World) : Calls Try.prog 12 #[.string ⟨#[97, 98]⟩, .slice (some ⟨W.heap.size, 0, none⟩) 1 1] (W.alloc (.cells #[.int .i64 0, .int .i64 5, .int .i64 3] 30)) fun e w' =>
    e = .returned (.tuple #[.string ⟨#[]⟩, .int .i64 60]) ∧ Below W.heap.size W w' := by
  refine (expand_any ⟨#[97, 98]⟩ (some ⟨W.heap.size, 0, none⟩) [⟨0, 5, 3⟩] 1 1 _ rfl (isToks_lit W 30 [⟨0, 5, 3⟩]) (by decide) (by decide)).mono ?_
  rintro e w' ⟨rfl, hb⟩
  refine ⟨?_, ((Below.refl _ _).alloc (Nat.le_refl _) _).trans (hb.mono (by simp))⟩
  rw [show (ByteArray.mk #[97, 98]).data.toList = [97, 98] from rfl, w_exp2.1, w_exp2.2]
theorem w_plain (W : World) : Calls Try.prog 18 #[.string ⟨#[97, 98]⟩] W fun e w' =>
    e = .returned (.slice (some ⟨W.heap.size, 0, none⟩) 2 2) ∧ Below W.heap.size W w' ∧ W.heap.size < w'.heap.size ∧ TokAt w' W.heap.size 0 ⟨97, 0, 0⟩ ∧ TokAt w' W.heap.size 3 ⟨98, 0, 0⟩ := by
  refine (plain_any ⟨#[97, 98]⟩ W (by decide)).mono ?_
  rintro e w' ⟨rfl, ht, hb⟩
  obtain ⟨b, off, e1, hlt, hc⟩ := ht (by decide)
  simp only [Option.some.injEq, Addr.mk.injEq] at e1
  obtain ⟨rfl, rfl, _⟩ := e1
  exact ⟨rfl, hb, hlt, hc 0 (by decide), hc 1 (by decide)⟩
theorem w_tail : tailB ⟨#[97, 98, 99]⟩ = ⟨#[97, 98, 99]⟩ := tailB_small _ (by decide)

set_option maxRecDepth 10000 in
set_option maxHeartbeats 1000000 in
theorem works_any (w : World) : Calls Try.prog 10 #[] w fun e w' => e = .returned (.bool true) ∧ Below w.heap.size w w' := by
  go_enter Try.func10, Try.ntmps10
  go_wp2_with fail
  refine (w_call1 _).mono ?_
  rintro r w1 ⟨rfl, b1⟩
  go_wp2_with fail
  refine (w_plain _).mono ?_
  rintro r w2 ⟨rfl, b2, z2, t0, t1⟩
  have b12 := b1.trans (b2.mono b1.size)
  generalize w1.heap.size = P at *
  have T0 := Lib.hid t0
  have T1 := Lib.hid t1
  clear b1 b2 t0 t1
  go_wp2_with fail
  refine (w_call2 _).mono ?_
  rintro r w3 ⟨rfl, b3⟩
  obtain ⟨c0, c1, c2⟩ := T0.out
  obtain ⟨c3, c4, c5⟩ := T1.out
  have c0 := (b3.cell (p := ⟨P, 0, none⟩) z2).trans c0
  have c1 := (b3.cell (p := ⟨P, 1, none⟩) z2).trans c1
  have c2 := (b3.cell (p := ⟨P, 2, none⟩) z2).trans c2
  have c3 := (b3.cell (p := ⟨P, 3, none⟩) z2).trans c3
  have b4 := b12.trans (b3.mono b12.size)
  have C5 := Lib.hid (tail_any ⟨#[97, 98, 99]⟩ w3 (by decide))
  rw [w_tail] at C5
  have C6 := Lib.hid (valid_any ⟨97, 0, 0⟩ w3)
  rw [show okT ⟨97, 0, 0⟩ = true by decide] at C6
  have B4 := Lib.hid b4
  clear b12 b3 b4 z2 T0 T1
  go_wp2_with fail
  refine C5.out.mono ?_
  rintro r w' ⟨rfl, rfl⟩
  go_wp2_with fail
  refine C6.out.mono ?_
  rintro r w' ⟨rfl, rfl⟩
  go_wp2_with fail
  go_ret
  exact ⟨rfl, B4.out.alloc B4.out.size _⟩

theorem over_any (a : Option Addr) (n cap : Nat) (w : World) (hn : n ≤ maxLen) :
    Calls Try.prog 11 #[.slice a n cap] w fun e w' => e = .returned (.bool (decide (60 < n))) ∧ w = w' := by
  unfold maxLen at hn
  go_enter Try.func11, Try.ntmps11
  go_wp2_with fail
  go_ret
  exact ⟨ret_bool (decide_eq_decide.2 (by omega)), rfl⟩

end Go.Proofs.Ytlafenookbdhoaa.Lz
