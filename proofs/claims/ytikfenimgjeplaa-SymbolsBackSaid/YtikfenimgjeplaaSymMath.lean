/-
  Plain facts of the two scales of symbols: bases, extra bits, and which symbol a number has.
-/
import Derived.WalkKit
import Derived.ProofKit
import Derived.IntWalk
import Derived.Lib.Hide
namespace Go.Proofs.Ytikfenimgjeplaa.Sym
set_option linter.unusedVariables false

/-- How many extra bits the symbol at place i of a scale has: k symbols each have the same count. -/
def bt (k i : Nat) : Nat := i / k - 1
/-- The least number of the symbol at place i. -/
def bs (a k : Nat) : Nat → Nat
  | 0 => a
  | i + 1 => bs a k i + 2 ^ bt k i
theorem bs_up (a k i : Nat) : bs a k i < bs a k (i + 1) := by have := Nat.two_pow_pos (bt k i); show bs a k i < bs a k i + _; omega
theorem bs_mono (a k i : Nat) : ∀ d, bs a k i ≤ bs a k (i + d)
  | 0 => Nat.le_refl _
  | d + 1 => by have h1 := bs_mono a k i d; have h2 := bs_up a k (i + d); show bs a k i ≤ bs a k (i + d + 1); omega
theorem bs_le {a k i j : Nat} (h : i ≤ j) : bs a k i ≤ bs a k j := by
  obtain ⟨d, rfl⟩ := Nat.exists_eq_add_of_le h
  exact bs_mono a k i d

/-- The bases and the counts of extra bits as they are published. -/
def LBt : List Nat := [3, 4, 5, 6, 7, 8, 9, 10, 11, 13, 15, 17, 19, 23, 27, 31, 35, 43, 51, 59, 67, 83, 99, 115, 131, 163, 195, 227, 258]
def LXt : List Nat := [0, 0, 0, 0, 0, 0, 0, 0, 1, 1, 1, 1, 2, 2, 2, 2, 3, 3, 3, 3, 4, 4, 4, 4, 5, 5, 5, 5, 0]
def DBt : List Nat := [1, 2, 3, 4, 5, 7, 9, 13, 17, 25, 33, 49, 65, 97, 129, 193, 257, 385, 513, 769, 1025, 1537, 2049, 3073, 4097, 6145, 8193, 12289, 16385, 24577]
def DXt : List Nat := [0, 0, 0, 0, 1, 1, 2, 2, 3, 3, 4, 4, 5, 5, 6, 6, 7, 7, 8, 8, 9, 9, 10, 10, 11, 11, 12, 12, 13, 13]
def LB (i : Nat) : Nat := LBt.getD i 0
def LX (i : Nat) : Nat := LXt.getD i 0
def DB (i : Nat) : Nat := DBt.getD i 0
def DX (i : Nat) : Nat := DXt.getD i 0
theorem LB_eq : ∀ i : Fin 28, LB i = bs 3 4 i ∧ LX i = bt 4 i := by decide +kernel
theorem DB_eq : ∀ i : Fin 30, DB i = bs 1 2 i ∧ DX i = bt 2 i := by decide +kernel
theorem bs_l : bs 3 4 28 = 259 := by decide +kernel
theorem bs_d : bs 1 2 30 = 32769 := by decide +kernel

/-- The last of the places below c whose base is not above n (0 where there is none). -/
def lastIx (b : Nat → Nat) (n : Nat) : Nat → Nat
  | 0 => 0
  | k + 1 => if b k ≤ n then k else lastIx b n k
theorem lastIx_is (b : Nat → Nat) (n i : Nat) (hi : b i ≤ n) : ∀ c, i < c → (∀ k, i < k → k < c → n < b k) → lastIx b n c = i := by
  intro c
  induction c with
  | zero => intro h; omega
  | succ c ih =>
    intro hc hk
    unfold lastIx
    by_cases h : i = c
    · subst h; rw [if_pos hi]
    · rw [if_neg (by have := hk c (by omega) (by omega); omega)]
      exact ih (by omega) fun k h1 h2 => hk k h1 (by omega)
theorem lastIx_lt (b : Nat → Nat) (n : Nat) : ∀ c, 0 < c → lastIx b n c < c
  | c + 1, _ => by
    unfold lastIx
    split
    · omega
    · by_cases h : c = 0
      · subst h; simp [lastIx]
      · have := lastIx_lt b n c (by omega); omega

/-- The place of a length's symbol, and of a distance's. -/
def li (n : Nat) : Nat := lastIx LB n 29
def di (n : Nat) : Nat := lastIx DB n 30

/-- Some place of a scale holds n, if n is within. -/
theorem find_bs (a k n : Nat) (h : a ≤ n) : ∀ c, n < bs a k c → ∃ i, i < c ∧ bs a k i ≤ n ∧ n < bs a k (i + 1) := by
  intro c
  induction c with
  | zero => intro h2; exact absurd h2 (by show ¬ n < a; omega)
  | succ c ih =>
    intro h2
    by_cases h3 : n < bs a k c
    · obtain ⟨i, h4, h5⟩ := ih h3
      exact ⟨i, by omega, h5⟩
    · exact ⟨c, by omega, by omega, h2⟩

theorem di_is (n i : Nat) (hi : i < 30) (h1 : bs 1 2 i ≤ n) (h2 : n < bs 1 2 (i + 1)) : di n = i := by
  refine lastIx_is DB n i (by rw [(DB_eq ⟨i, hi⟩).1]; exact h1) 30 hi fun k h3 h4 => ?_
  have e : DB k = bs 1 2 k := (DB_eq ⟨k, h4⟩).1
  rw [e]
  exact Nat.lt_of_lt_of_le h2 (bs_le h3)
theorem li_is (n i : Nat) (hn : n < 258) (hi : i < 28) (h1 : bs 3 4 i ≤ n) (h2 : n < bs 3 4 (i + 1)) : li n = i := by
  refine lastIx_is LB n i (by rw [(LB_eq ⟨i, hi⟩).1]; exact h1) 29 (by omega) fun k h3 h4 => ?_
  by_cases h : k = 28
  · subst h; exact hn
  · have e : LB k = bs 3 4 k := (LB_eq ⟨k, by omega⟩).1
    rw [e]
    exact Nat.lt_of_lt_of_le h2 (bs_le h3)
theorem li_258 : li 258 = 28 := by decide +kernel

/-- What is known of a distance's place. -/
theorem di_spec (n : Nat) (h1 : 1 ≤ n) (h2 : n ≤ 32768) : di n < 30 ∧ DB (di n) ≤ n ∧ n < DB (di n) + 2 ^ DX (di n) := by
  obtain ⟨i, hi, a, b⟩ := find_bs 1 2 n h1 30 (by rw [bs_d]; omega)
  rw [di_is n i hi a b, (DB_eq ⟨i, hi⟩).1, (DB_eq ⟨i, hi⟩).2]
  exact ⟨hi, a, b⟩
/-- What is known of a length's place. -/
theorem li_spec (n : Nat) (h1 : 3 ≤ n) (h2 : n ≤ 258) : li n < 29 ∧ LB (li n) ≤ n ∧ n < LB (li n) + 2 ^ LX (li n) := by
  by_cases h : n = 258
  · subst h; rw [li_258]; decide +kernel
  · obtain ⟨i, hi, a, b⟩ := find_bs 3 4 n h1 28 (by rw [bs_l]; omega)
    rw [li_is n i (by omega) hi a b, (LB_eq ⟨i, hi⟩).1, (LB_eq ⟨i, hi⟩).2]
    exact ⟨by omega, a, b⟩
theorem DX_le : ∀ i, DX i ≤ 13 := by
  intro i
  by_cases h : i < 30
  · exact (by decide +kernel : ∀ i : Fin 30, DX i ≤ 13) ⟨i, h⟩
  · unfold DX; rw [List.getD_eq_getElem?_getD, List.getElem?_eq_none (by show 30 ≤ i; omega)]; decide
theorem LX_le : ∀ i, LX i ≤ 5 := by
  intro i
  by_cases h : i < 29
  · exact (by decide +kernel : ∀ i : Fin 29, LX i ≤ 5) ⟨i, h⟩
  · unfold LX; rw [List.getD_eq_getElem?_getD, List.getElem?_eq_none (by show 29 ≤ i; omega)]; decide
theorem DB_pos : ∀ i : Fin 30, 1 ≤ DB i ∧ DB i ≤ 24577 := by decide +kernel
theorem LB_pos : ∀ i : Fin 29, 3 ≤ LB i ∧ LB i ≤ 258 := by decide +kernel

/-- Symbol, extra number and its bits, of a length and of a distance; what a symbol stands for. -/
def lenS (n : Int) : Nat × Nat × Nat := if 3 ≤ n ∧ n ≤ 258 then (257 + li n.toNat, n.toNat - LB (li n.toNat), LX (li n.toNat)) else (0, 0, 0)
def distS (n : Int) : Nat × Nat × Nat := if 1 ≤ n ∧ n ≤ 32768 then (di n.toNat, n.toNat - DB (di n.toNat), DX (di n.toNat)) else (0, 0, 0)
def lenO (s : Int) : Nat × Nat := if 257 ≤ s ∧ s ≤ 285 then (LB (s.toNat - 257), LX (s.toNat - 257)) else (0, 0)
def distO (s : Int) : Nat × Nat := if 0 ≤ s ∧ s ≤ 29 then (DB s.toNat, DX s.toNat) else (0, 0)
end Go.Proofs.Ytikfenimgjeplaa.Sym
