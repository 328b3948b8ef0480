/-
  The one form: plain facts.
-/
import Derived.Test.YtedlhfemmofbpaaRegSays
namespace Go.Proofs.Ytedlhfemmofbpaa.Reg
set_option linter.unusedVariables false

theorem make_counts {l : List Rc} {k : Nat} {r : Rc} (h : (make l)[k]? = some r) : (-1048576 ≤ r.x ∧ 1 ≤ r.w ∧ r.x + r.w ≤ 1048576) ∧ (-1048576 ≤ r.y ∧ 1 ≤ r.h ∧ r.y + r.h ≤ 1048576) :=
  counts_iff.1 ((comb_form (f := fOr) rfl l []).counts r (List.mem_of_getElem? h))
theorem make_next {l : List Rc} {k : Nat} {s r : Rc} (h1 : (make l)[k]? = some s) (h2 : (make l)[k + 1]? = some r) : ahead s r := by
  obtain ⟨i1, rfl⟩ := List.getElem?_eq_some_iff.1 h1
  obtain ⟨i2, rfl⟩ := List.getElem?_eq_some_iff.1 h2
  exact List.pairwise_iff_getElem.1 (comb_form (f := fOr) rfl l []).order k (k + 1) i1 i2 (by omega)
/-- The rectangles from k on, the last one first, each twice. -/
def twice (l : List Rc) (k : Nat) : List Rc := (l.drop k).reverse.flatMap fun r => [r, r]
theorem twice_step {l : List Rc} {k : Nat} (h : k < l.length) : twice l k = twice l (k + 1) ++ [l[k], l[k]] := by
  unfold twice
  rw [List.drop_eq_getElem_cons h, List.reverse_cons, List.flatMap_append]
  simp
theorem twice_none (l : List Rc) : twice l l.length = [] := by
  unfold twice
  rw [List.drop_length]
  rfl
theorem twice_length (l : List Rc) (k : Nat) : (twice l k).length = 2 * (l.length - k) := by
  unfold twice
  rw [List.length_flatMap]
  have : ∀ m : List Rc, (m.map fun r => ([r, r] : List Rc).length).sum = 2 * m.length := by
    intro m
    induction m with
    | nil => rfl
    | cons r m ih =>
      rw [List.map_cons, List.sum_cons, ih, List.length_cons]
      show 2 + 2 * m.length = 2 * (m.length + 1)
      omega
  rw [this, List.length_reverse, List.length_drop]
theorem twice_make (l : List Rc) : make (twice l 0) = make l := by
  refine make_same fun x y => ?_
  rw [Bool.eq_iff_iff, hasL_iff, hasL_iff]
  constructor
  · rintro ⟨r, hr, h⟩
    unfold twice at hr
    obtain ⟨s, hs, hr⟩ := List.mem_flatMap.1 hr
    simp at hr hs
    subst hr
    exact ⟨r, hs, h⟩
  · rintro ⟨r, hr, h⟩
    refine ⟨r, ?_, h⟩
    unfold twice
    exact List.mem_flatMap.2 ⟨r, by simpa using hr, by simp⟩
theorem make_make (l : List Rc) : make (make l) = make l := make_form (comb_form (f := fOr) rfl l [])
theorem twice_wf {l : List Rc} (h : ∀ r ∈ l, r.wf) (k : Nat) : ∀ r ∈ twice l k, r.wf := fun r hr => by
  unfold twice at hr
  obtain ⟨s, hs, hr⟩ := List.mem_flatMap.1 hr
  have e : r = s := by simpa using hr
  rw [e]
  exact h s (List.mem_of_mem_drop (List.mem_reverse.1 hs))
end Go.Proofs.Ytedlhfemmofbpaa.Reg
