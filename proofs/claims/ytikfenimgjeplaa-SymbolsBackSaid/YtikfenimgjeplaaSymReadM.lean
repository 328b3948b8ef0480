/-
  What Read reads: plain functions over a row of bits.
-/
import Derived.Test.YtikfenimgjeplaaHufBackS
import Derived.Test.YtikfenimgjeplaaSymCount
namespace Go.Proofs.Ytikfenimgjeplaa.Sym
open Go.Proofs.Ytikfenimgjeplaa.Huf (nxG codeV used top fst symsOf)
open Go.Proofs.Ytikfenimgjeplaa.Bit (rV rI rOk errI num tat num_lt)
open Go.Proofs.Ytikfenimgjeplaa.Lz (Tok okT)
set_option linter.unusedVariables false
set_option maxRecDepth 100000

/-- A number: what a symbol stands for, with its extra bits: the value, the error, how far, and whether the reader keeps an error. -/
def numG (o : Nat × Nat) (T : List Bool) (i : Nat) : Nat × Int × Nat × Bool :=
  if o.1 = 0 then (0, 3, i, false) else (o.1 + rV T i false o.2, errI (!rOk T i false o.2), rI T i false o.2, !rOk T i false o.2)

/-- A token that begins with symbol s. -/
def tokG (M : List Nat) (T : List Bool) (i s : Nat) : Tok × Int × Nat × Bool :=
  if s < 256 then (⟨s, 0, 0⟩, 0, i, false)
  else
    let a := numG (lenO s) T i
    if a.2.1 ≠ 0 then (⟨0, 0, 0⟩, a.2.1, a.2.2.1, a.2.2.2)
    else
      let x := nxG M T a.2.2.1 false 15 0 0
      if x.2.1 ≠ 0 then (⟨0, 0, 0⟩, x.2.1, x.2.2.1, x.2.2.2)
      else
        let d := numG (distO x.1) T x.2.2.1
        if d.2.1 ≠ 0 then (⟨0, 0, 0⟩, d.2.1, d.2.2.1, d.2.2.2)
        else (⟨0, a.1, d.1⟩, 0, d.2.2.1, d.2.2.2)

/-- Tokens up to the End, not above most bytes. -/
def readG (N M : List Nat) (T : List Bool) (most : Int) : Nat → Nat → Nat → List Tok → List Tok × Int × Nat × Bool
  | 0, i, _, _ => ([], 2, i, true)
  | f + 1, i, made, acc =>
    let x := nxG N T i false 15 0 0
    if x.2.1 ≠ 0 then ([], x.2.1, x.2.2.1, x.2.2.2)
    else if x.1 = 256 then (acc, 0, x.2.2.1, x.2.2.2)
    else
      let t := tokG M T x.2.2.1 x.1
      if t.2.1 ≠ 0 then ([], t.2.1, t.2.2.1, t.2.2.2)
      else if most < (made + max t.1.L.toNat 1 : Nat) then ([], 4, t.2.2.1, t.2.2.2)
      else readG N M T most f t.2.2.1 (made + max t.1.L.toNat 1) (acc ++ [t.1])

theorem nx_ok (N : List Nat) (T : List Bool) (i : Nat) : ∀ f k v, i + k ≤ T.length → (nxG N T i false f k v).2.1 = 0 → (nxG N T i false f k v).2.2.2 = false ∧ i + k + 1 ≤ (nxG N T i false f k v).2.2.1 ∧ (nxG N T i false f k v).2.2.1 ≤ T.length
  | 0, k, v, _, h => by simp [nxG] at h
  | f + 1, k, v, hk, h => by
    unfold nxG at h ⊢
    by_cases h1 : v * 2 ^ (15 - k) < used N 15
    · rw [if_pos h1] at h ⊢
      by_cases h2 : false = true ∨ T.length ≤ i + k
      · rw [if_pos h2] at h; simp at h
      · rw [if_neg h2] at h ⊢
        have h4 : i + k < T.length := by simp at h2; omega
        by_cases h3 : 2 * v + (tat T (i + k)).toNat < top N (k + 1)
        · rw [if_pos h3]; exact ⟨rfl, Nat.le_refl _, by show i + k + 1 ≤ _; omega⟩
        · rw [if_neg h3] at h ⊢
          have := nx_ok N T i f (k + 1) _ (by omega) h
          exact ⟨this.1, by omega, this.2.2⟩
    · rw [if_neg h1] at h; simp at h
theorem nx_le (N : List Nat) (T : List Bool) (i : Nat) (b : Bool) : ∀ f k v, i + k ≤ T.length → (nxG N T i b f k v).2.2.1 ≤ T.length
  | 0, k, v, h => by simp [nxG]; exact h
  | f + 1, k, v, hk => by
    unfold nxG
    split
    · split
      · exact hk
      · rename_i h2
        simp at h2
        split
        · show i + k + 1 ≤ _; omega
        · exact nx_le N T i b f (k + 1) _ (by omega)
    · exact hk
theorem num_ok {o : Nat × Nat} {T : List Bool} {i : Nat} (hi : i ≤ T.length) : ((numG o T i).2.1 = 0 → (numG o T i).2.2.2 = false ∧ i ≤ (numG o T i).2.2.1) ∧ (numG o T i).2.2.1 ≤ T.length := by
  unfold numG
  by_cases h : o.1 = 0
  · rw [if_pos h]; exact ⟨fun h => by simp at h, hi⟩
  · rw [if_neg h]
    refine ⟨fun h2 => ?_, ?_⟩
    · cases hr : rOk T i false o.2 with
      | false => rw [hr] at h2; simp [errI] at h2
      | true => refine ⟨rfl, ?_⟩; show i ≤ rI T i false o.2; unfold rI; rw [if_pos hr]; omega
    · exact Bit.rI_le hi
theorem num_val {o : Nat × Nat} {T : List Bool} {i : Nat} : (numG o T i).1 ≤ o.1 + 2 ^ o.2 := by
  unfold numG
  split
  · exact Nat.zero_le _
  · show o.1 + rV T i false o.2 ≤ _
    unfold rV
    split
    · have h1 := num_lt ((T.drop i).take o.2)
      have h2 : (2 : Nat) ^ ((T.drop i).take o.2).length ≤ 2 ^ o.2 := Nat.pow_le_pow_right (by decide) (by rw [List.length_take]; omega)
      omega
    · have := Nat.two_pow_pos o.2; omega
theorem lenO_small (s : Int) : (lenO s).1 ≤ 258 ∧ (lenO s).2 ≤ 5 := by
  unfold lenO
  split
  · rename_i h
    exact ⟨(LB_pos ⟨s.toNat - 257, by omega⟩).2, LX_le (s.toNat - 257)⟩
  · exact ⟨Nat.zero_le _, Nat.zero_le _⟩
theorem distO_small (s : Int) : (distO s).1 ≤ 24577 ∧ (distO s).2 ≤ 13 := by
  unfold distO
  split
  · rename_i h
    exact ⟨(DB_pos ⟨s.toNat, by omega⟩).2, DX_le s.toNat⟩
  · exact ⟨Nat.zero_le _, Nat.zero_le _⟩
/-- A token that was read without an error. -/
theorem tok_ok (M : List Nat) (T : List Bool) (i s : Nat) (hi : i ≤ T.length) (h : (tokG M T i s).2.1 = 0) : (tokG M T i s).2.2.2 = false ∧ i ≤ (tokG M T i s).2.2.1 ∧ (tokG M T i s).2.2.1 ≤ T.length ∧ 0 ≤ (tokG M T i s).1.L ∧ (tokG M T i s).1.L ≤ 300 := by
  unfold tokG at h ⊢
  by_cases h1 : s < 256
  · rw [if_pos h1]; exact ⟨rfl, Nat.le_refl _, hi, by show (0 : Int) ≤ 0; omega, by show (0 : Int) ≤ 300; omega⟩
  · rw [if_neg h1] at h ⊢
    have a1 := num_ok (o := lenO s) hi
    have a2 := num_val (o := lenO s) (T := T) (i := i)
    have a3 := lenO_small s
    have a4 : (2 : Nat) ^ (lenO s).2 ≤ 2 ^ 5 := Nat.pow_le_pow_right (by decide) a3.2
    simp only at h ⊢
    generalize numG (lenO s) T i = a at *
    by_cases h2 : a.2.1 = 0
    · rw [if_neg (by simpa using h2)] at h ⊢
      have x1 := nx_ok M T a.2.2.1 15 0 0 (by omega)
      have x2 := nx_le M T a.2.2.1 false 15 0 0 (by omega)
      generalize nxG M T a.2.2.1 false 15 0 0 = x at *
      by_cases h3 : x.2.1 = 0
      · rw [if_neg (by simpa using h3)] at h ⊢
        have d1 := num_ok (o := distO x.1) x2
        generalize numG (distO x.1) T x.2.2.1 = d at *
        by_cases h4 : d.2.1 = 0
        · rw [if_neg (by simpa using h4)]
          have := a1.1 h2
          have := x1 h3
          have := d1.1 h4
          refine ⟨this.1, by show i ≤ d.2.2.1; omega, d1.2, by show (0 : Int) ≤ (a.1 : Nat); omega, by show ((a.1 : Nat) : Int) ≤ 300; omega⟩
        · rw [if_pos (by simpa using h4)] at h; exact absurd h h4
      · rw [if_pos (by simpa using h3)] at h; exact absurd h h3
    · rw [if_pos (by simpa using h2)] at h; exact absurd h h2
theorem tokG_byte {M : List Nat} {T : List Bool} {i s : Nat} (h : s < 256) : tokG M T i s = (⟨s, 0, 0⟩, 0, i, false) := by unfold tokG; rw [if_pos h]
theorem tokG_e1 {M : List Nat} {T : List Bool} {i s : Nat} (h : ¬ s < 256) {av aj : Nat} {ae : Int} {ab : Bool} (ha : numG (lenO s) T i = (av, ae, aj, ab)) (h0 : ae ≠ 0) : tokG M T i s = (⟨0, 0, 0⟩, ae, aj, ab) := by
  unfold tokG; rw [if_neg h]; simp only [ha]; rw [if_pos h0]
theorem tokG_e2 {M : List Nat} {T : List Bool} {i s : Nat} (h : ¬ s < 256) {av aj xs xj : Nat} {xe : Int} {ab xb : Bool} (ha : numG (lenO s) T i = (av, 0, aj, ab)) (hx : nxG M T aj false 15 0 0 = (xs, xe, xj, xb)) (h0 : xe ≠ 0) : tokG M T i s = (⟨0, 0, 0⟩, xe, xj, xb) := by
  unfold tokG; rw [if_neg h]; simp only [ha]; rw [if_neg (by simp)]; simp only [hx]; rw [if_pos h0]
theorem tokG_e3 {M : List Nat} {T : List Bool} {i s : Nat} (h : ¬ s < 256) {av aj xs xj dv dj : Nat} {de : Int} {ab xb db : Bool} (ha : numG (lenO s) T i = (av, 0, aj, ab)) (hx : nxG M T aj false 15 0 0 = (xs, 0, xj, xb)) (hd : numG (distO xs) T xj = (dv, de, dj, db)) (h0 : de ≠ 0) : tokG M T i s = (⟨0, 0, 0⟩, de, dj, db) := by
  unfold tokG; rw [if_neg h]; simp only [ha]; rw [if_neg (by simp)]; simp only [hx]; rw [if_neg (by simp)]; simp only [hd]; rw [if_pos h0]
theorem tokG_ok {M : List Nat} {T : List Bool} {i s : Nat} (h : ¬ s < 256) {av aj xs xj dv dj : Nat} {ab xb db : Bool} (ha : numG (lenO s) T i = (av, 0, aj, ab)) (hx : nxG M T aj false 15 0 0 = (xs, 0, xj, xb)) (hd : numG (distO xs) T xj = (dv, 0, dj, db)) : tokG M T i s = (⟨0, av, dv⟩, 0, dj, db) := by
  unfold tokG; rw [if_neg h]; simp only [ha]; rw [if_neg (by simp)]; simp only [hx]; rw [if_neg (by simp)]; simp only [hd]; rw [if_neg (by simp)]
theorem readG_e1 {N M : List Nat} {T : List Bool} {most : Int} {f i made : Nat} {acc : List Tok} {xs xj : Nat} {xe : Int} {xb : Bool} (hx : nxG N T i false 15 0 0 = (xs, xe, xj, xb)) (h0 : xe ≠ 0) : readG N M T most (f + 1) i made acc = ([], xe, xj, xb) := by
  unfold readG; simp only [hx]; rw [if_pos h0]
theorem readG_end {N M : List Nat} {T : List Bool} {most : Int} {f i made : Nat} {acc : List Tok} {xj : Nat} {xb : Bool} (hx : nxG N T i false 15 0 0 = (256, 0, xj, xb)) : readG N M T most (f + 1) i made acc = (acc, 0, xj, xb) := by
  unfold readG; simp only [hx]; rw [if_neg (by simp), if_pos trivial]
theorem readG_e2 {N M : List Nat} {T : List Bool} {most : Int} {f i made : Nat} {acc : List Tok} {xs xj tj : Nat} {xb b : Bool} {t : Tok} {te : Int} (hx : nxG N T i false 15 0 0 = (xs, 0, xj, xb)) (h1 : xs ≠ 256) (ht : tokG M T xj xs = (t, te, tj, b)) (h0 : te ≠ 0) :
    readG N M T most (f + 1) i made acc = ([], te, tj, b) := by
  unfold readG; simp only [hx]; rw [if_neg (by simp), if_neg h1]; simp only [ht]; rw [if_pos h0]
theorem readG_e3 {N M : List Nat} {T : List Bool} {most : Int} {f i made : Nat} {acc : List Tok} {xs xj tj : Nat} {xb b : Bool} {t : Tok} (hx : nxG N T i false 15 0 0 = (xs, 0, xj, xb)) (h1 : xs ≠ 256) (ht : tokG M T xj xs = (t, 0, tj, b)) (h0 : most < (made + max t.L.toNat 1 : Nat)) :
    readG N M T most (f + 1) i made acc = ([], 4, tj, b) := by
  unfold readG; simp only [hx]; rw [if_neg (by simp), if_neg h1]; simp only [ht]; rw [if_neg (by simp), if_pos h0]
theorem readG_next {N M : List Nat} {T : List Bool} {most : Int} {f i made : Nat} {acc : List Tok} {xs xj tj : Nat} {xb b : Bool} {t : Tok} (hx : nxG N T i false 15 0 0 = (xs, 0, xj, xb)) (h1 : xs ≠ 256) (ht : tokG M T xj xs = (t, 0, tj, b)) (h0 : ¬ most < (made + max t.L.toNat 1 : Nat)) :
    readG N M T most (f + 1) i made acc = readG N M T most f tj (made + max t.L.toNat 1) (acc ++ [t]) := by
  conv => lhs; unfold readG
  simp only [hx]; rw [if_neg (by simp), if_neg h1]; simp only [ht]; rw [if_neg (by simp), if_neg h0]
theorem tok_le (M : List Nat) (T : List Bool) (i s : Nat) (hi : i ≤ T.length) : (tokG M T i s).2.2.1 ≤ T.length := by
  unfold tokG
  by_cases h1 : s < 256
  · rw [if_pos h1]; exact hi
  · rw [if_neg h1]
    have a1 := num_ok (o := lenO s) hi
    simp only
    generalize numG (lenO s) T i = a at *
    split
    · exact a1.2
    · have x2 := nx_le M T a.2.2.1 false 15 0 0 (by omega)
      generalize nxG M T a.2.2.1 false 15 0 0 = x at *
      split
      · exact x2
      · have d1 := num_ok (o := distO x.1) x2
        split
        · exact d1.2
        · exact d1.2
end Go.Proofs.Ytikfenimgjeplaa.Sym
