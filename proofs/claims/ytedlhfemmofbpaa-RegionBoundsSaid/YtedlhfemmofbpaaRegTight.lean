/-
  The smallest rectangle: plain facts.
-/
import Derived.Test.YtedlhfemmofbpaaRegSays
namespace Go.Proofs.Ytedlhfemmofbpaa.Reg
set_option linter.unusedVariables false

theorem make_some {l : List Rc} : make l ≠ [] ↔ ∃ r ∈ l, counts r = true := by
  constructor
  · intro h
    obtain ⟨s, hs⟩ := List.exists_mem_of_ne_nil _ h
    have hc := (comb_form (f := fOr) rfl l []).counts s hs
    have hc' := counts_iff.1 hc
    have h1 : hasL (make l) s.x s.y = true := hasL_iff.2 ⟨s, hs, hc, by omega⟩
    rw [make_has] at h1
    obtain ⟨r, hr, hrc, _⟩ := hasL_iff.1 h1
    exact ⟨r, hr, hrc⟩
  · rintro ⟨r, hr, hc⟩ e
    have hc' := counts_iff.1 hc
    have h1 : hasL l r.x r.y = true := hasL_iff.2 ⟨r, hr, hc, by omega⟩
    rw [← make_has, e] at h1
    exact absurd h1 (by simp [hasL_nil])
theorem bounds_none {l : List Rc} (h : make l = []) : boundsL l = ⟨0, 0, 0, 0⟩ := by
  unfold boundsL
  rw [if_pos]
  refine bord_nil.1.2 fun r hr => ?_
  rw [Bool.eq_false_iff]
  exact fun hc => make_some.2 ⟨r, hr, hc⟩ h
/-- What is asked of the smallest rectangle. -/
structure Box (l : List Rc) (b : Rc) : Prop where
  x0 : -1048576 ≤ b.x
  x1 : b.x + b.w ≤ 1048576
  w1 : 1 ≤ b.w
  y0 : -1048576 ≤ b.y
  y1 : b.y + b.h ≤ 1048576
  h1 : 1 ≤ b.h
  inb : ∀ x y, hasL l x y = true → b.x ≤ x ∧ x < b.x + b.w ∧ b.y ≤ y ∧ y < b.y + b.h
  all : combL 1 l [b] = []
  left : combL 2 l [⟨b.x, b.y, 1, b.h⟩] ≠ []
  right : combL 2 l [⟨b.x + b.w - 1, b.y, 1, b.h⟩] ≠ []
  top : combL 2 l [⟨b.x, b.y, b.w, 1⟩] ≠ []
  down : combL 2 l [⟨b.x, b.y + b.h - 1, b.w, 1⟩] ≠ []
  area : areaL (make l) ≤ b.w * b.h
theorem both_some {l : List Rc} {c : Rc} {x y : Int} (h1 : hasL l x y = true) (hc : counts c = true) (h2 : c.x ≤ x ∧ x < c.x + c.w ∧ c.y ≤ y ∧ y < c.y + c.h) : combL 2 l [c] ≠ [] := by
  intro e
  have := comb_in 2 l [c] x y
  rw [e, hasL_nil, h1, hasL_iff.2 ⟨c, by simp, hc, h2⟩] at this
  exact absurd this (by decide)
theorem bounds_box {l : List Rc} (h : make l ≠ []) : Box l (boundsL l) := by
  obtain ⟨r0, m0, c0⟩ := make_some.1 h
  have T := bounds_tight m0 c0
  have hh := comb_area (f := fOr) rfl l []
  rw [show flat (comb fOr l []) = make l from rfl] at hh
  generalize boundsL l = b at *
  obtain ⟨r1, m1, c1, e1⟩ := T.left
  obtain ⟨r2, m2, c2, e2⟩ := T.right
  obtain ⟨r3, m3, c3, e3⟩ := T.top
  obtain ⟨r4, m4, c4, e4⟩ := T.down
  have a0 := counts_iff.1 c0
  have a1 := counts_iff.1 c1
  have a2 := counts_iff.1 c2
  have a3 := counts_iff.1 c3
  have a4 := counts_iff.1 c4
  have t0 := T.all r0 m0 c0
  have t1 := T.all r1 m1 c1
  have t2 := T.all r2 m2 c2
  have t3 := T.all r3 m3 c3
  have t4 := T.all r4 m4 c4
  have inb : ∀ x y, hasL l x y = true → b.x ≤ x ∧ x < b.x + b.w ∧ b.y ≤ y ∧ y < b.y + b.h := fun x y hxy => by
    obtain ⟨r, hr, hc, g⟩ := hasL_iff.1 hxy
    have := T.all r hr hc
    omega
  have cb : counts b = true := counts_iff.2 (by omega)
  refine ⟨by omega, by omega, by omega, by omega, by omega, by omega, inb, ?_, ?_, ?_, ?_, ?_, ?_⟩
  · refine no_places 1 fun x y => ?_
    cases hxy : hasL l x y with
    | false => cases hasL [b] x y <;> rfl
    | true =>
      rw [hasL_iff.2 ⟨b, by simp, cb, inb x y hxy⟩]
      rfl
  · exact both_some (x := r1.x) (y := r1.y) (hasL_iff.2 ⟨r1, m1, c1, by omega⟩) (counts_iff.2 (by simp only; omega)) (by simp only; omega)
  · exact both_some (x := r2.x + r2.w - 1) (y := r2.y) (hasL_iff.2 ⟨r2, m2, c2, by omega⟩) (counts_iff.2 (by simp only; omega)) (by simp only; omega)
  · exact both_some (x := r3.x) (y := r3.y) (hasL_iff.2 ⟨r3, m3, c3, by omega⟩) (counts_iff.2 (by simp only; omega)) (by simp only; omega)
  · exact both_some (x := r4.x) (y := r4.y + r4.h - 1) (hasL_iff.2 ⟨r4, m4, c4, by omega⟩) (counts_iff.2 (by simp only; omega)) (by simp only; omega)
  · rw [hh]
    exact many_box (x := b.x) (y := b.y) (by omega) (by omega) fun u v huv => by
      rw [hasL_nil] at huv
      exact inb u v (by simpa [fOr] using huv)
end Go.Proofs.Ytedlhfemmofbpaa.Reg
