/-
  Plain: a row's rectangles, one for each pair of it.
-/
import Derived.Test.YtedlhfemmofbpaaRegPrgZ
namespace Go.Proofs.Ytedlhfemmofbpaa.Reg
set_option linter.unusedVariables false

theorem pairs_range : ∀ (M : Nat) (l : List Int), l.length = 2 * M → pairs l = (List.range M).map fun x => ⟨px l (2 * x), px l (2 * x + 1), ()⟩
  | 0, l, h => by
    have e : l = [] := List.length_eq_zero_iff.1 (by omega)
    subst e
    rfl
  | M + 1, [], h => absurd h (by simp)
  | M + 1, [x], h => absurd h (by simp only [List.length_cons, List.length_nil]; omega)
  | M + 1, x :: y :: r, h => by
    have ih := pairs_range M r (by simp only [List.length_cons] at h; omega)
    rw [List.range_succ_eq_map, List.map_cons, List.map_map]
    show (⟨x, y, ()⟩ : Seg Unit) :: pairs r = _
    rw [ih]
    refine congr (congrArg List.cons ?_) (List.map_congr_left fun a _ => ?_)
    · simp [px]
    · simp only [Function.comp, Nat.succ_eq_add_one]
      rw [show 2 * (a + 1) = 2 * a + 1 + 1 by omega]
      simp [px]
/-- The rectangle of a pair. -/
def recAt (V : Bnd) (i : Nat) (l : List Int) (x : Nat) : Rc := ⟨px l (2 * x), bdN V i, px l (2 * x + 1) - px l (2 * x), bdN V (i + 1) - bdN V i⟩
theorem recs1_fin {V : Bnd} {i M : Nat} {l : List Int} (hl : rowN V i = l) (h : l.length = 2 * M) : recs1 V i = (List.finRange M).map fun x => recAt V i l x.1 := by
  unfold recs1
  rw [hl, pairs_range M l h, List.map_map]
  apply List.ext_getElem
  · simp
  · intro j h1 h2
    simp [recAt]
end Go.Proofs.Ytedlhfemmofbpaa.Reg
