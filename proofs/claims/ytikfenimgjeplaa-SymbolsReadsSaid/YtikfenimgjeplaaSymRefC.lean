/-
  Contract of the reference's code.
-/
import Derived.Test.YtikfenimgjeplaaSymWrite
import Derived.Test.YtikfenimgjeplaaBitRefS
namespace Go.Proofs.Ytikfenimgjeplaa.Sym
open Go.ChangeShapes Go.WideShapes Go.ChangeAt Go.RowKit
open Go.Proofs.Ytikfenimgjeplaa.Huf (codeV)
open Go.Proofs.Ytikfenimgjeplaa.Bit (BlAt From refReverse_any codeBits bits_rev revV bitsOf cnt)
set_option linter.unusedVariables false
set_option maxRecDepth 100000

theorem code_none (c n s : Nat) (N : List Nat) (w : World) (hN : N.length = n) (hc : CodesAt w c n N) (h0 : N.getD s 0 = 0) :
    Calls Try.prog 54 #[.slice (some ⟨c, 0, none⟩) n n, .int .i64 s] w fun r w' => r = .returned (.tuple #[.slice none 0 0, .bool false]) ∧ w = w' := by
  by_cases hs : s < n
  · have e1 := (hc.cells s hs).2
    rw [h0] at e1
    have hs' : (s : Int) < n := by omega
    have d1 : decide ((n : Int) ≤ (s : Int)) = false := by simp; omega
    have p1 : ¬ (n ≤ s) := by omega
    clear hc h0
    go_enter Try.func54, Try.ntmps54
    go_wp2_with fail
    go_ret2
    exact ⟨rfl, rfl⟩
  · have d1 : decide ((n : Int) ≤ (s : Int)) = true := by simp; omega
    have p1 : n ≤ s := by omega
    clear hc h0
    go_enter Try.func54, Try.ntmps54
    go_wp2_with fail
    go_ret2
    exact ⟨rfl, rfl⟩

set_option maxHeartbeats 2000000 in
theorem code_some (c n s : Nat) (N : List Nat) (w : World) (hN : N.length = n) (hc : CodesAt w c n N) (h0 : N.getD s 0 ≠ 0) :
    Calls Try.prog 54 #[.slice (some ⟨c, 0, none⟩) n n, .int .i64 s] w fun r w' => ∃ u, r = .returned (.tuple #[u, .bool true]) ∧ BlAt w' u (cd N s) ∧ Below w.heap.size w w' ∧ From w.heap.size u := by
  have hs : s < n := by
    rcases Nat.lt_or_ge s n with h | h
    · exact h
    · exact absurd (by rw [List.getD_eq_getElem?_getD, List.getElem?_eq_none (by omega)]; rfl) h0
  have hs' : (s : Int) < n := by omega
  have d1 : decide ((n : Int) ≤ (s : Int)) = false := by simp; omega
  have p1 : ¬ (n ≤ s) := by omega
  obtain ⟨x, hx⟩ : ∃ x, codeV N s = x := ⟨_, rfl⟩
  obtain ⟨y, hy⟩ : ∃ y, N.getD s 0 = y := ⟨_, rfl⟩
  have CC : Hid (∀ w', Below w.heap.size w w' → w'.cell? ⟨c, s * 2, none⟩ = some (.int .i64 x) ∧ w'.cell? ⟨c, s * 2 + 1, none⟩ = some (.int .i64 y)) := Lib.hid fun w' hb => by
    rw [← hx, ← hy]; exact (hc.below hb).cells s hs
  have hcd : cd N s = bitsOf (cnt (y : Int)) (revV x y : Nat) := by unfold cd; rw [hx, hy, bits_rev]
  rw [hcd]
  rw [hy] at h0
  have d2 : ((y : Int) == 0) = false := by simpa using h0
  obtain ⟨e0, e1⟩ := CC.out w (Below.refl _ _)
  have hc0 := CC.out w (Below.refl _ _)
  clear hc hcd hx hy
  go_enter Try.func54, Try.ntmps54
  go_wp2_with fail
  go_region_held3 (fun w' => w'.cell? ⟨c, s * 2, none⟩ = some (.int .i64 x) ∧ w'.cell? ⟨c, s * 2 + 1, none⟩ = some (.int .i64 y)) (first | exact hc0 | exact hk2 | exact hk3)
    (first
      | (go_at_call 70; refine (refReverse_any _ _ _).mono ?_; rintro r w2 ⟨rfl, b2⟩; have B2 : Below w.heap.size w w2 := ⟨b2.os, b2.tape, b2.output, b2.size, b2.block⟩; have hk2 := CC.out w2 B2)
      | (go_at_call 25; refine (Bit.of_any _ _ _).mono ?_; rintro r w3 ⟨u, rfl, u3, b3, f3⟩; have B3 := B2.trans (b3.mono B2.size); have hk3 := CC.out w3 B3))
  have HH := Lib.hid (And.intro u3 (And.intro B3 (show From w.heap.size u from fun k hk => Nat.le_trans B2.size (f3 k hk))))
  clear u3 B3 b3 b2 B2 f3 hk2 hk3 hc0 e0 e1
  go_wp2_with fail
  go_ret2
  exact ⟨_, rfl, HH.out.1, HH.out.2.1, HH.out.2.2⟩
end Go.Proofs.Ytikfenimgjeplaa.Sym
