/-
  The rectangles of rre, plainly: what the ground is, which pieces there are, what is left when they are painted.
-/
import Derived.Test.YtmjjbapahgejmaaPlnRow
namespace Go.Proofs.Ytmjjbapahgejmaa.Rre
open Pln
set_option linter.unusedVariables false

/-- The first place from a on where it does not hold (or so far on). -/
def stopAt (P : Nat → Bool) : Nat → Nat → Nat
  | 0, a => a
  | f + 1, a => if P a = true then stopAt P f (a + 1) else a
theorem stop_eq {P : Nat → Bool} : ∀ (f a b : Nat), a ≤ b → b ≤ a + f → (∀ i, a ≤ i → i < b → P i = true) → P b = false → stopAt P f a = b
  | 0, a, b, h1, h2, _, _ => by simp only [stopAt]; omega
  | f + 1, a, b, h1, h2, h3, h4 => by
    simp only [stopAt]
    rcases Nat.lt_or_ge a b with h | h
    · rw [if_pos (h3 a (Nat.le_refl _) h)]
      exact stop_eq f (a + 1) b h (by omega) (fun i hi hj => h3 i (by omega) hj) h4
    · have : a = b := by omega
      subst this
      rw [if_neg (by rw [h4]; decide)]
theorem stop_ge {P : Nat → Bool} : ∀ (f a : Nat), a ≤ stopAt P f a
  | 0, a => Nat.le_refl _
  | f + 1, a => by
    simp only [stopAt]
    split
    · exact Nat.le_trans (Nat.le_succ a) (stop_ge f (a + 1))
    · exact Nat.le_refl _
theorem stop_all {P : Nat → Bool} : ∀ (f a i : Nat), a ≤ i → i < stopAt P f a → P i = true
  | 0, a, i, h1, h2 => by simp only [stopAt] at h2; omega
  | f + 1, a, i, h1, h2 => by
    simp only [stopAt] at h2
    split at h2
    · rename_i h
      rcases Nat.lt_or_ge a i with hh | hh
      · exact stop_all f (a + 1) i hh h2
      · have : a = i := by omega
        subst this
        exact h
    · omega

/-- A piece: its value, its left upper place, its sides. -/
structure Pc where
  v : Int
  x : Nat
  y : Nat
  n : Nat
  m : Nat
  deriving DecidableEq
def Pc.has (p : Pc) (i j : Nat) : Bool := decide (p.x ≤ i ∧ i < p.x + p.n ∧ p.y ≤ j ∧ j < p.y + p.m)
theorem has_iff {p : Pc} {i j : Nat} : p.has i j = true ↔ p.x ≤ i ∧ i < p.x + p.n ∧ p.y ≤ j ∧ j < p.y + p.m := by simp [Pc.has]
/-- Is a place in one of the pieces? -/
def hasL (l : List Pc) (i j : Nat) : Bool := l.any (fun p => p.has i j)
theorem hasL_iff {l : List Pc} {i j : Nat} : hasL l i j = true ↔ ∃ p ∈ l, p.has i j = true := by simp [hasL]
theorem hasL_append (a b : List Pc) (i j : Nat) : hasL (a ++ b) i j = (hasL a i j || hasL b i j) := by simp [hasL]
/-- One place: this value, and in no piece. -/
def free1 (w : Nat) (vals : List Int) (l : List Pc) (v : Int) (i j : Nat) : Bool := decide (px vals (j * w + i) = v) && !hasL l i j
/-- A row's piece. -/
def freeL (w : Nat) (vals : List Int) (l : List Pc) (v : Int) (x y n : Nat) : Bool := decide (∀ k, k < n → free1 w vals l v (x + k) y = true)
theorem free1_iff {w : Nat} {vals : List Int} {l : List Pc} {v : Int} {i j : Nat} : free1 w vals l v i j = true ↔ px vals (j * w + i) = v ∧ hasL l i j = false := by simp [free1]
theorem freeL_iff {w : Nat} {vals : List Int} {l : List Pc} {v : Int} {x y n : Nat} : freeL w vals l v x y n = true ↔ ∀ k, k < n → free1 w vals l v (x + k) y = true := by simp [freeL]
theorem freeL_one {w : Nat} {vals : List Int} {l : List Pc} {v : Int} {x y : Nat} : freeL w vals l v x y 1 = free1 w vals l v x y := by
  rw [Bool.eq_iff_iff, freeL_iff]
  exact ⟨fun h => h 0 (by omega), fun h k hk => by rw [show k = 0 by omega]; exact h⟩
/-- How far a piece goes. -/
def goR (w : Nat) (vals : List Int) (l : List Pc) (v : Int) (x y : Nat) (n : Nat) : Bool := decide (x + n < w) && freeL w vals l v (x + n) y 1
def goD (w h : Nat) (vals : List Int) (l : List Pc) (v : Int) (x y n : Nat) (m : Nat) : Bool := decide (y + m < h) && freeL w vals l v x (y + m) n
def sideR (w : Nat) (vals : List Int) (l : List Pc) (v : Int) (x y : Nat) : Nat := stopAt (goR w vals l v x y) w 1
def sideD (w h : Nat) (vals : List Int) (l : List Pc) (v : Int) (x y n : Nat) : Nat := stopAt (goD w h vals l v x y n) h 1
/-- What one place adds, and the pieces when so many places have been looked at. -/
def stepP (w h : Nat) (vals : List Int) (g : Int) (l : List Pc) (x y : Nat) : List Pc :=
  if px vals (y * w + x) = g ∨ freeL w vals l (px vals (y * w + x)) x y 1 = false then l
  else l ++ [⟨px vals (y * w + x), x, y, sideR w vals l (px vals (y * w + x)) x y, sideD w h vals l (px vals (y * w + x)) x y (sideR w vals l (px vals (y * w + x)) x y)⟩]
def pcs (w h : Nat) (vals : List Int) (g : Int) : Nat → List Pc
  | 0 => []
  | k + 1 => stepP w h vals g (pcs w h vals g k) (k % w) (k / w)
theorem at_mod {w x y : Nat} (h : x < w) : (y * w + x) % w = x ∧ (y * w + x) / w = y := by
  constructor
  · rw [Nat.add_comm, Nat.add_mul_mod_self_right, Nat.mod_eq_of_lt h]
  · rw [Nat.add_comm, Nat.add_mul_div_right _ _ (by omega), Nat.div_eq_of_lt h, Nat.zero_add]
theorem pcs_step {w h : Nat} {vals : List Int} {g : Int} {x y : Nat} (hx : x < w) : pcs w h vals g (y * w + x + 1) = stepP w h vals g (pcs w h vals g (y * w + x)) x y := by
  simp only [pcs]
  rw [(at_mod hx).1, (at_mod hx).2]
theorem pcs_length (w h : Nat) (vals : List Int) (g : Int) : ∀ k, (pcs w h vals g k).length ≤ k
  | 0 => Nat.le_refl _
  | k + 1 => by
    have := pcs_length w h vals g k
    simp only [pcs, stepP]
    split
    · omega
    · simp only [List.length_append, List.length_cons, List.length_nil]; omega
theorem at_lt {w h x y : Nat} (hx : x < w) (hy : y < h) : y * w + x < w * h := by
  have h1 : (y + 1) * w ≤ h * w := Nat.mul_le_mul_right w hy
  rw [Nat.add_mul, Nat.one_mul] at h1
  rw [Nat.mul_comm w h]
  omega

/-- What stands of the pieces. -/
structure Inv (w h : Nat) (vals : List Int) (g : Int) (k : Nat) (l : List Pc) : Prop where
  inside : ∀ p ∈ l, 1 ≤ p.n ∧ 1 ≤ p.m ∧ p.x + p.n ≤ w ∧ p.y + p.m ≤ h
  value : ∀ p ∈ l, ∀ i j, p.has i j = true → px vals (j * w + i) = p.v
  ground : ∀ p ∈ l, p.v ≠ g
  once : ∀ i j, (l.filter (fun p => p.has i j)).length ≤ 1
  all : ∀ i j, i < w → j * w + i < k → px vals (j * w + i) ≠ g → hasL l i j = true
theorem filter_has {l : List Pc} {i j : Nat} : hasL l i j = false → l.filter (fun p => p.has i j) = [] := by
  intro h
  rw [List.filter_eq_nil_iff]
  intro p hp hc
  rw [hasL_iff.2 ⟨p, hp, hc⟩] at h
  exact absurd h (by decide)
theorem goR_le {w : Nat} {vals : List Int} {l : List Pc} {v : Int} {x y n : Nat} (h : goR w vals l v x y n = true) : x + n < w ∧ free1 w vals l v (x + n) y = true := by
  unfold goR at h
  rw [freeL_one] at h
  simp at h
  exact h
theorem goD_le {w h : Nat} {vals : List Int} {l : List Pc} {v : Int} {x y n m : Nat} (hh : goD w h vals l v x y n m = true) : y + m < h ∧ freeL w vals l v x (y + m) n = true := by
  unfold goD at hh
  simp at hh
  exact hh
theorem sideR_in {w : Nat} {vals : List Int} {l : List Pc} {v : Int} {x y : Nat} (hx : x < w) (h1 : free1 w vals l v x y = true) :
    1 ≤ sideR w vals l v x y ∧ x + sideR w vals l v x y ≤ w ∧ freeL w vals l v x y (sideR w vals l v x y) = true := by
  have h0 : 1 ≤ sideR w vals l v x y := stop_ge _ _
  have ha : ∀ i, 1 ≤ i → i < sideR w vals l v x y → goR w vals l v x y i = true := fun i h1 h2 => stop_all _ _ _ h1 h2
  refine ⟨h0, ?_, ?_⟩
  · rcases Nat.lt_or_ge 1 (sideR w vals l v x y) with h | h
    · have := (goR_le (ha (sideR w vals l v x y - 1) (by omega) (by omega))).1
      omega
    · omega
  · rw [freeL_iff]
    intro k hk
    rcases Nat.lt_or_ge 0 k with h | h
    · exact (goR_le (ha k h hk)).2
    · rw [show k = 0 by omega]; exact h1
theorem sideD_in {w h : Nat} {vals : List Int} {l : List Pc} {v : Int} {x y n : Nat} (hy : y < h) (h1 : freeL w vals l v x y n = true) :
    1 ≤ sideD w h vals l v x y n ∧ y + sideD w h vals l v x y n ≤ h ∧ ∀ k, k < sideD w h vals l v x y n → freeL w vals l v x (y + k) n = true := by
  have h0 : 1 ≤ sideD w h vals l v x y n := stop_ge _ _
  have ha : ∀ i, 1 ≤ i → i < sideD w h vals l v x y n → goD w h vals l v x y n i = true := fun i h1 h2 => stop_all _ _ _ h1 h2
  refine ⟨h0, ?_, ?_⟩
  · rcases Nat.lt_or_ge 1 (sideD w h vals l v x y n) with hh | hh
    · have := (goD_le (ha (sideD w h vals l v x y n - 1) (by omega) (by omega))).1
      omega
    · omega
  · intro k hk
    rcases Nat.lt_or_ge 0 k with hh | hh
    · exact (goD_le (ha k hh hk)).2
    · rw [show k = 0 by omega]; exact h1
theorem inv_step {w h : Nat} {vals : List Int} {g : Int} {x y : Nat} {l : List Pc} (hx : x < w) (hy : y < h) (I : Inv w h vals g (y * w + x) l) : Inv w h vals g (y * w + x + 1) (stepP w h vals g l x y) := by
  have last : ∀ i j, i < w → j * w + i < y * w + x + 1 → j * w + i < y * w + x ∨ (i = x ∧ j = y) := by
    intro i j hi hj
    rcases Nat.lt_or_ge (j * w + i) (y * w + x) with hh | hh
    · exact .inl hh
    · have e : j * w + i = y * w + x := by omega
      have e1 := congrArg (· % w) e
      have e2 := congrArg (· / w) e
      simp only [(at_mod hi).1, (at_mod hi).2, (at_mod hx).1, (at_mod hx).2] at e1 e2
      exact .inr ⟨e1, e2⟩
  unfold stepP
  split
  · rename_i hc
    refine ⟨I.inside, I.value, I.ground, I.once, fun i j hi hj hv => ?_⟩
    rcases last i j hi hj with hh | ⟨rfl, rfl⟩
    · exact I.all i j hi hh hv
    · rcases hc with hc | hc
      · exact absurd hc hv
      · rw [freeL_one] at hc
        cases hb : hasL l i j with
        | true => rfl
        | false => rw [free1_iff.2 ⟨rfl, hb⟩] at hc; exact absurd hc (by decide)
  · rename_i hc
    have hg : px vals (y * w + x) ≠ g := fun e => hc (.inl e)
    have hf : freeL w vals l (px vals (y * w + x)) x y 1 = true := by
      cases hb : freeL w vals l (px vals (y * w + x)) x y 1 with
      | true => rfl
      | false => exact absurd (.inr hb) hc
    rw [freeL_one] at hf
    obtain ⟨r1, r2, r3⟩ := sideR_in hx hf
    generalize sideR w vals l (px vals (y * w + x)) x y = n at r1 r2 r3 ⊢
    obtain ⟨d1, d2, d3⟩ := sideD_in hy r3
    generalize sideD w h vals l (px vals (y * w + x)) x y n = m at d1 d2 d3 ⊢
    have new : ∀ i j, Pc.has ⟨px vals (y * w + x), x, y, n, m⟩ i j = true → px vals (j * w + i) = px vals (y * w + x) ∧ hasL l i j = false := by
      intro i j hh
      obtain ⟨h1, h2, h3, h4⟩ := has_iff.1 hh
      simp only at h1 h2 h3 h4
      have := freeL_iff.1 (d3 (j - y) (by omega)) (i - x) (by omega)
      rw [show x + (i - x) = i by omega, show y + (j - y) = j by omega] at this
      exact free1_iff.1 this
    refine ⟨?_, ?_, ?_, ?_, ?_⟩
    · intro p hp
      rcases List.mem_append.1 hp with hp | hp
      · exact I.inside p hp
      · rw [List.mem_singleton.1 hp]
        exact ⟨r1, d1, r2, d2⟩
    · intro p hp i j hh
      rcases List.mem_append.1 hp with hp | hp
      · exact I.value p hp i j hh
      · rw [List.mem_singleton.1 hp] at hh ⊢
        exact (new i j hh).1
    · intro p hp
      rcases List.mem_append.1 hp with hp | hp
      · exact I.ground p hp
      · rw [List.mem_singleton.1 hp]; exact hg
    · intro i j
      rw [List.filter_append, List.length_append]
      cases hh : Pc.has ⟨px vals (y * w + x), x, y, n, m⟩ i j with
      | true => rw [filter_has (new i j hh).2]; simp [hh]
      | false => have := I.once i j; simp [hh]; exact this
    · intro i j hi hj hv
      rw [hasL_append]
      rcases last i j hi hj with hh | ⟨rfl, rfl⟩
      · rw [I.all i j hi hh hv]; rfl
      · have : Pc.has ⟨px vals (j * w + i), i, j, n, m⟩ i j = true := has_iff.2 ⟨Nat.le_refl _, by simp only; omega, Nat.le_refl _, by simp only; omega⟩
        simp [hasL, this]
theorem pcs_inv {w h : Nat} {vals : List Int} {g : Int} : ∀ k, k ≤ w * h → Inv w h vals g k (pcs w h vals g k)
  | 0, _ => ⟨by simp [pcs], by simp [pcs], by simp [pcs], by simp [pcs], fun i j _ hj => by omega⟩
  | k + 1, hk => by
    have h0 : 0 < w := by
      rcases Nat.eq_zero_or_pos w with h | h
      · subst h; omega
      · exact h
    have hx : k % w < w := Nat.mod_lt _ h0
    have hy : k / w < h := by rw [Nat.div_lt_iff_lt_mul h0, Nat.mul_comm]; omega
    have e : k / w * w + k % w = k := by rw [Nat.mul_comm]; exact Nat.div_add_mod k w
    have := inv_step (g := g) (vals := vals) hx hy (by rw [e]; exact pcs_inv k (by omega))
    rw [e] at this
    simpa only [pcs] using this
/-- All of them; and what the document says of sides that do not fit. -/
def piecesN (w h : Nat) (vals : List Int) (g : Int) : List Pc := pcs w h vals g (w * h)
def piecesL (w h : Int) (vals : List Int) (g : Int) : List Pc :=
  if w < 0 ∨ h < 0 ∨ 4096 < w ∨ 4096 < h ∨ (vals.length : Int) ≠ w * h then [] else piecesN w.toNat h.toNat vals g
theorem pieces_inv (w h : Nat) (vals : List Int) (g : Int) : Inv w h vals g (w * h) (piecesN w h vals g) := pcs_inv _ (Nat.le_refl _)
theorem pieces_length (w h : Nat) (vals : List Int) (g : Int) : (piecesN w h vals g).length ≤ w * h := pcs_length _ _ _ _ _
/-- Each place is in one piece, of its value, or in none. -/
theorem pieces_has {w h : Nat} {vals : List Int} {g : Int} {i j : Nat} (hi : i < w) (hj : j < h) : hasL (piecesN w h vals g) i j = decide (px vals (j * w + i) ≠ g) := by
  have I := pieces_inv w h vals g
  rw [Bool.eq_iff_iff, decide_eq_true_iff]
  constructor
  · intro hh
    obtain ⟨p, hp, hc⟩ := hasL_iff.1 hh
    rw [I.value p hp i j hc]
    exact I.ground p hp
  · intro hh
    exact I.all i j hi (at_lt hi hj) hh
/-- What is painted over a ground. -/
def paint1 (w : Nat) (l : List Int) (p : Pc) : List Int := gen l.length (fun k => if p.has (k % w) (k / w) = true then p.v else px l k)
def paintL (w : Nat) : List Int → List Pc → List Int := List.foldl (paint1 w)
theorem paint_length {w : Nat} : ∀ (ps : List Pc) (l : List Int), (paintL w l ps).length = l.length
  | [], l => rfl
  | p :: ps, l => by
    show (paintL w (paint1 w l p) ps).length = _
    rw [paint_length ps]
    exact gen_length _ _
theorem paint_none {w : Nat} {k : Nat} : ∀ (ps : List Pc) (l : List Int), k < l.length → hasL ps (k % w) (k / w) = false → px (paintL w l ps) k = px l k
  | [], l, _, _ => rfl
  | p :: ps, l, hk, hh => by
    have h1 : p.has (k % w) (k / w) = false ∧ hasL ps (k % w) (k / w) = false := by simpa [hasL] using hh
    show px (paintL w (paint1 w l p) ps) k = _
    rw [paint_none ps _ (by unfold paint1; rwa [gen_length]) h1.2]
    unfold paint1
    rw [px_gen hk, if_neg (by rw [h1.1]; decide)]
theorem paint_some {w : Nat} {k : Nat} {v : Int} : ∀ (ps : List Pc) (l : List Int), k < l.length → hasL ps (k % w) (k / w) = true → (∀ p ∈ ps, p.has (k % w) (k / w) = true → p.v = v) → px (paintL w l ps) k = v
  | [], l, _, hh, _ => by simp [hasL] at hh
  | p :: ps, l, hk, hh, hv => by
    show px (paintL w (paint1 w l p) ps) k = _
    have hl : k < (paint1 w l p).length := by unfold paint1; rwa [gen_length]
    cases hs : hasL ps (k % w) (k / w) with
    | true => exact paint_some ps _ hl hs (fun q hq => hv q (List.mem_cons_of_mem _ hq))
    | false =>
      rw [paint_none ps _ hl hs]
      have h1 : p.has (k % w) (k / w) = true := by
        rw [show hasL (p :: ps) (k % w) (k / w) = (p.has (k % w) (k / w) || hasL ps (k % w) (k / w)) from rfl, hs, Bool.or_false] at hh
        exact hh
      unfold paint1
      rw [px_gen hk, if_pos h1]
      exact hv p List.mem_cons_self h1
/-- The pieces over the ground are the picture. -/
theorem paint_back {w h : Nat} {vals : List Int} {g : Int} (hl : vals.length = w * h) : paintL w (gen (w * h) (fun _ => g)) (piecesN w h vals g) = vals := by
  apply row_ext
  · rw [paint_length, gen_length, hl]
  · intro k hk
    rw [paint_length, gen_length] at hk
    have h0 : 0 < w := by
      rcases Nat.eq_zero_or_pos w with h | h
      · subst h; omega
      · exact h
    have hx : k % w < w := Nat.mod_lt _ h0
    have hy : k / w < h := by rw [Nat.div_lt_iff_lt_mul h0, Nat.mul_comm]; exact hk
    have e : k / w * w + k % w = k := by rw [Nat.mul_comm]; exact Nat.div_add_mod k w
    have hp := pieces_has (vals := vals) (g := g) hx hy
    rw [e] at hp
    by_cases hv : px vals k = g
    · rw [paint_none _ _ (by rwa [gen_length]) (by rw [hp]; simp [hv]), px_gen hk, hv]
    · refine paint_some _ _ (by rwa [gen_length]) (by rw [hp]; simp [hv]) (fun p hq hc => ?_)
      have := (pieces_inv w h vals g).value p hq _ _ hc
      rw [e] at this
      exact this.symm
end Go.Proofs.Ytmjjbapahgejmaa.Rre
