/-
  Plain facts of layer 6: chains of places with the same beginning.
-/
import Derived.Test.YtlafenookbdhoaaLzMath
namespace Go.Proofs.Ytlafenookbdhoaa.Lz
set_option linter.unusedVariables false

/-- Of each place one ahead of it with the same beginning, or none; the last one, where all is asked for. -/
structure Links (T : List UInt8) (full : Prop) (A : List Int) : Prop where
  len : A.length = T.length
  ok : ∀ q (h : q < A.length), A[q] = -1 ∨ ∃ r : Nat, A[q] = r ∧ r < q ∧ q + 3 ≤ T.length ∧ beg T r = beg T q
  all : full → ∀ r q, r < q → q + 3 ≤ T.length → beg T r = beg T q → (r : Int) ≤ A.getD q (-1)

/-- As far as places were gone through, from p on. -/
structure Upto (T : List UInt8) (start p : Nat) (A : List Int) (F : Nat → Option Nat) : Prop where
  len : A.length = T.length
  ok : ∀ q (h : q < A.length), A[q] = -1 ∨ ∃ r : Nat, A[q] = r ∧ p ≤ r ∧ r < q ∧ q + 3 ≤ T.length ∧ beg T r = beg T q
  first : ∀ x v, F x = some v → p ≤ v ∧ v + 3 ≤ T.length ∧ beg T v = x
  cover : start = 0 → ∀ q, p ≤ q → q + 3 ≤ T.length → ∃ v, F (beg T q) = some v ∧ v ≤ q
  all : start = 0 → ∀ r q, p ≤ r → r < q → q + 3 ≤ T.length → beg T r = beg T q → (r : Int) ≤ A.getD q (-1)

theorem Upto.start (T : List UInt8) (start : Nat) : Upto T start (T.length - 2) (List.replicate T.length (-1)) (fun _ => none) :=
  ⟨by simp, fun q h => .inl (by simp), (fun x v h => nomatch h), (fun _ q h1 h2 => by omega), (fun _ r q h1 h2 h3 => by omega)⟩

theorem Upto.links {T : List UInt8} {start : Nat} {A : List Int} {F : Nat → Option Nat} (h : Upto T start 0 A F) : Links T (start = 0) A :=
  ⟨h.len, fun q hq => by
    rcases h.ok q hq with h1 | ⟨r, h1, _, h2, h3, h4⟩
    · exact .inl h1
    · exact .inr ⟨r, h1, h2, h3, h4⟩, fun hf r q h1 h2 h3 => h.all hf r q (Nat.zero_le _) h1 h2 h3⟩

/-- The map with one place more. -/
def upd (F : Nat → Option Nat) (x p : Nat) : Nat → Option Nat := fun y => if y = x then some p else F y

theorem Upto.hit {T : List UInt8} {start p v : Nat} {A : List Int} {F : Nat → Option Nat} (h : Upto T start (p + 1) A F) (hp : p + 3 ≤ T.length) (hv : F (beg T p) = some v) : Upto T start p (A.set v p) (upd F (beg T p) p) := by
  obtain ⟨f1, f2, f3⟩ := h.first _ _ hv
  have hl := h.len
  refine ⟨by simp [hl], fun q hq => ?_, fun x u hx => ?_, fun hs q h1 h2 => ?_, fun hs r q h1 h2 h3 h4 => ?_⟩
  · rw [List.getElem_set]
    by_cases hqv : v = q
    · rw [if_pos hqv]
      subst hqv
      exact .inr ⟨p, rfl, Nat.le_refl _, by omega, f2, f3.symm⟩
    · rw [if_neg hqv]
      rcases h.ok q (by simpa using hq) with h1 | ⟨r, h1, h2, h3, h4, h5⟩
      · exact .inl h1
      · exact .inr ⟨r, h1, by omega, h3, h4, h5⟩
  · unfold upd at hx
    by_cases hxe : x = beg T p
    · rw [if_pos hxe] at hx
      simp only [Option.some.injEq] at hx
      subst hx
      exact ⟨Nat.le_refl _, hp, hxe.symm⟩
    · rw [if_neg hxe] at hx
      obtain ⟨g1, g2, g3⟩ := h.first _ _ hx
      exact ⟨by omega, g2, g3⟩
  · unfold upd
    by_cases hqe : beg T q = beg T p
    · exact ⟨p, by rw [if_pos hqe], h1⟩
    · rw [if_neg hqe]
      have : p ≠ q := fun e => hqe (by rw [e])
      exact h.cover hs q (by omega) h2
  · by_cases hqv : v = q
    · subst hqv
      have hr : r = p := by
        apply Classical.byContradiction
        intro hne
        obtain ⟨u, c1, c2⟩ := h.cover hs r (by omega) (by omega)
        rw [h4, f3, hv] at c1
        simp only [Option.some.injEq] at c1
        omega
      subst hr
      rw [List.getD_eq_getElem?_getD, List.getElem?_set, if_pos rfl, if_pos (by omega)]
      exact Int.le_refl _
    · have e : (A.set v p).getD q (-1) = A.getD q (-1) := by
        rw [List.getD_eq_getElem?_getD, List.getD_eq_getElem?_getD, List.getElem?_set, if_neg hqv]
      rw [e]
      by_cases hrp : r = p
      · subst hrp
        have hcov := h.cover hs q (by omega) h3
        obtain ⟨u, c1, c2⟩ := hcov
        rw [← h4, hv] at c1
        simp only [Option.some.injEq] at c1
        subst c1
        have := h.all hs v q f1 (by omega) h3 (by rw [f3, h4])
        omega
      · exact h.all hs r q (by omega) h2 h3 h4
theorem Upto.miss {T : List UInt8} {start p : Nat} {A : List Int} {F : Nat → Option Nat} (h : Upto T start (p + 1) A F) (hp : p + 3 ≤ T.length) (hv : F (beg T p) = none) : Upto T start p A (upd F (beg T p) p) := by
  refine ⟨h.len, fun q hq => ?_, fun x u hx => ?_, fun hs q h1 h2 => ?_, fun hs r q h1 h2 h3 h4 => ?_⟩
  · rcases h.ok q hq with h1 | ⟨r, h1, h2, h3, h4, h5⟩
    · exact .inl h1
    · exact .inr ⟨r, h1, by omega, h3, h4, h5⟩
  · unfold upd at hx
    by_cases hxe : x = beg T p
    · rw [if_pos hxe] at hx
      simp only [Option.some.injEq] at hx
      subst hx
      exact ⟨Nat.le_refl _, hp, hxe.symm⟩
    · rw [if_neg hxe] at hx
      obtain ⟨g1, g2, g3⟩ := h.first _ _ hx
      exact ⟨by omega, g2, g3⟩
  · unfold upd
    by_cases hqe : beg T q = beg T p
    · exact ⟨p, by rw [if_pos hqe], h1⟩
    · rw [if_neg hqe]
      have : p ≠ q := fun e => hqe (by rw [e])
      exact h.cover hs q (by omega) h2
  · by_cases hrp : r = p
    · subst hrp
      obtain ⟨u, c1, c2⟩ := h.cover hs q (by omega) h3
      rw [← h4, hv] at c1
      cases c1
    · exact h.all hs r q (by omega) h2 h3 h4
theorem Upto.pass {T : List UInt8} {start p : Nat} {A : List Int} {F : Nat → Option Nat} (h : Upto T start (p + 1) A F) (hp : p < start) : Upto T start p A F :=
  ⟨h.len, fun q hq => by
    rcases h.ok q hq with h1 | ⟨r, h1, h2, h3, h4, h5⟩
    · exact .inl h1
    · exact .inr ⟨r, h1, by omega, h3, h4, h5⟩, fun x v hx => by
    obtain ⟨g1, g2, g3⟩ := h.first _ _ hx
    exact ⟨by omega, g2, g3⟩, fun hs => by omega, fun hs => by omega⟩

/-- What has been seen of a chain: the place that comes next, and the longest piece. -/
structure Seek (T : List UInt8) (full : Prop) (p i : Nat) (f : Int) (t : Tok) : Prop where
  good : Good T p t
  from_ : f = -1 ∨ ∃ r : Nat, f = r ∧ r < p ∧ p + 3 ≤ T.length ∧ beg T r = beg T p
  near : f + i + 1 ≤ p
  all : full → ∀ q, q < p → p + 3 ≤ T.length → beg T q = beg T p → (q : Int) ≤ f ∨ ((alikeL (T.drop q) (restL T p) : Nat) : Int) ≤ t.L

theorem Seek.start {T : List UInt8} {full : Prop} {A : List Int} {p : Nat} (h : Links T full A) (hp : p < T.length) : Seek T full p 0 (A.getD p (-1)) (byteT (T.getD p 0)) := by
  have hpa : p < A.length := by rw [h.len]; exact hp
  have e : A.getD p (-1) = A[p] := by simp [List.getD_eq_getElem?_getD, hpa]
  refine ⟨.inl rfl, ?_, ?_, fun hf q h1 h2 h3 => .inl (h.all hf q p h1 h2 h3)⟩
  · rw [e]
    rcases h.ok p hpa with h1 | ⟨r, h1, h2, h3, h4⟩
    · exact .inl h1
    · exact .inr ⟨r, h1, h2, h3, h4⟩
  · rw [e]
    rcases h.ok p hpa with h1 | ⟨r, h1, h2, h3, h4⟩
    · rw [h1]; omega
    · rw [h1]; omega

/-- One place of the chain more. -/
theorem Seek.step {T : List UInt8} {full : Prop} {A : List Int} {p i r : Nat} {t : Tok} (hA : Links T full A) (h : Seek T full p i r t) (hp : p < T.length) (hd : p - r ≤ 32768) :
    r < p ∧ r < A.length ∧ Seek T full p (i + 1) (A.getD r (-1)) (if t.L < ((alikeL (T.drop r) (restL T p) : Nat) : Int) then ⟨0, (alikeL (T.drop r) (restL T p) : Nat), ((p - r : Nat) : Int)⟩ else t) := by
  rcases h.from_ with h1 | ⟨r', h1, hr, h3, h4⟩
  · omega
  · obtain rfl : r = r' := by omega
    have hra : r < A.length := by rw [hA.len]; omega
    have e : A.getD r (-1) = A[r] := by simp [List.getD_eq_getElem?_getD, hra]
    refine ⟨hr, hra, ⟨?_, ?_, ?_, fun hf q q1 q2 q3 => ?_⟩⟩
    · by_cases hl : t.L < ((alikeL (T.drop r) (restL T p) : Nat) : Int)
      · rw [if_pos hl]
        exact .inr ⟨r, hr, hd, beg_alike hr h3 h4, rfl⟩
      · rw [if_neg hl]; exact h.good
    · rw [e]
      rcases hA.ok r hra with g1 | ⟨u, g1, g2, g3, g4⟩
      · exact .inl g1
      · exact .inr ⟨u, g1, by omega, h3, g4.trans h4⟩
    · rw [e]
      have hn := h.near
      rcases hA.ok r hra with g1 | ⟨u, g1, g2, g3, g4⟩
      · rw [g1]; omega
      · rw [g1]; omega
    · rcases h.all hf q q1 q2 q3 with g1 | g1
      · by_cases hqr : q = r
        · subst hqr
          right
          split
          · exact Int.le_refl _
          · omega
        · left
          exact hA.all hf q r (by omega) (by omega) (by rw [q3, h4])
      · right
        split
        · show ((alikeL (T.drop q) (restL T p) : Nat) : Int) ≤ ((alikeL (T.drop r) (restL T p) : Nat) : Int)
          omega
        · exact g1

/-- Where the search ends. -/
theorem Seek.full {T : List UInt8} {p i : Nat} {f : Int} {t : Tok} {full : Prop} (h : Seek T full p i f t) (hf : full) (hend : f = -1 ∨ 32768 < p - f ∨ t.L = ((restL T p).length : Nat) ∨ 128 ≤ i) : Full T p t := by
  intro q q1 q2 q3 q4
  have hle := (alikeL_le (T.drop q) (restL T p)).2
  rcases h.all hf q q1 q3 q4 with g1 | g1
  · have hn := h.near
    rcases hend with e | e | e | e
    · omega
    · omega
    · rw [e]; omega
    · omega
  · exact g1

end Go.Proofs.Ytlafenookbdhoaa.Lz
