/-
  Plain facts of layer 3: two sums of bytes. Nothing of the program is named here.
-/
import Derived.WalkKit
import Derived.ProofKit
namespace Go.Proofs.Ythfehckdlogbaaa.Adl

/-- The first sum behind bytes. -/
def adA (a : Int) : List UInt8 → Int
  | [] => a
  | c :: r => adA ((a + c.toNat) % 65521) r
/-- The second sum behind bytes. -/
def adB (a b : Int) : List UInt8 → Int
  | [] => b
  | c :: r => adB ((a + c.toNat) % 65521) ((b + (a + c.toNat) % 65521) % 65521) r

theorem adA_append (l m : List UInt8) : ∀ a, adA a (l ++ m) = adA (adA a l) m := by
  induction l with
  | nil => intro a; rfl
  | cons c r ih => intro a; exact ih _

theorem adB_append (l m : List UInt8) : ∀ a b, adB a b (l ++ m) = adB (adA a l) (adB a b l) m := by
  induction l with
  | nil => intro a b; rfl
  | cons c r ih => intro a b; exact ih _ _

theorem adA_bd (l : List UInt8) : ∀ a, 0 ≤ a → a < 65536 → 0 ≤ adA a l ∧ adA a l < 65536 := by
  induction l with
  | nil => intro a h0 h1; exact ⟨h0, h1⟩
  | cons c r ih => intro a h0 h1; exact ih _ (by omega) (by omega)

theorem adB_bd (l : List UInt8) : ∀ a b, 0 ≤ b → b < 65536 → 0 ≤ adB a b l ∧ adB a b l < 65536 := by
  induction l with
  | nil => intro a b h0 h1; exact ⟨h0, h1⟩
  | cons c r ih => intro a b h0 h1; exact ih _ _ (by omega) (by omega)

theorem adA_lt (l : List UInt8) : ∀ a, 0 ≤ a → a < 65521 → 0 ≤ adA a l ∧ adA a l < 65521 := by
  induction l with
  | nil => intro a h0 h1; exact ⟨h0, h1⟩
  | cons c r ih => intro a h0 h1; exact ih _ (by omega) (by omega)

theorem adB_lt (l : List UInt8) : ∀ a b, 0 ≤ b → b < 65521 → 0 ≤ adB a b l ∧ adB a b l < 65521 := by
  induction l with
  | nil => intro a b h0 h1; exact ⟨h0, h1⟩
  | cons c r ih => intro a b h0 h1; exact ih _ _ (by omega) (by omega)

/-- All bytes together. -/
def sumL : List UInt8 → Int
  | [] => 0
  | c :: r => c.toNat + sumL r
/-- All bytes together, each as often as it is counted in the second sum. -/
def wsum : List UInt8 → Int
  | [] => 0
  | c :: r => (r.length + 1) * c.toNat + wsum r

theorem sumL_append (l m : List UInt8) : sumL (l ++ m) = sumL l + sumL m := by
  induction l with
  | nil => simp [sumL]
  | cons c r ih => simp only [List.cons_append, sumL, ih]; omega

theorem wsum_append (l m : List UInt8) : wsum (l ++ m) = wsum l + m.length * sumL l + wsum m := by
  induction l with
  | nil => simp [sumL, wsum]
  | cons c r ih =>
    simp only [List.cons_append, sumL, wsum, ih, List.length_append, Int.natCast_add]
    grind

theorem adA_mod (l : List UInt8) : ∀ a, adA a l % 65521 = (a + sumL l) % 65521 := by
  induction l with
  | nil => intro a; simp [adA, sumL]
  | cons c r ih =>
    intro a
    simp only [adA, sumL]
    rw [ih]
    omega

theorem adB_mod (l : List UInt8) : ∀ a b, adB a b l % 65521 = (b + l.length * a + wsum l) % 65521 := by
  induction l with
  | nil => intro a b; simp [adB, wsum]
  | cons c r ih =>
    intro a b
    simp only [adB, wsum, List.length_cons, Int.natCast_add]
    rw [ih]
    obtain ⟨q, hq⟩ : ∃ q, (a + c.toNat) % 65521 = a + c.toNat - 65521 * q := ⟨(a + c.toNat) / 65521, by omega⟩
    rw [hq]
    obtain ⟨q2, hq2⟩ : ∃ q2, (b + (a + c.toNat - 65521 * q)) % 65521 = b + (a + c.toNat - 65521 * q) - 65521 * q2 := ⟨(b + (a + c.toNat - 65521 * q)) / 65521, by omega⟩
    rw [hq2]
    have e : b + (a + c.toNat - 65521 * q) - 65521 * q2 + (r.length : Int) * (a + c.toNat - 65521 * q) + wsum r = (b + ((r.length : Int) + (1 : Nat)) * a + (((r.length : Int) + 1) * c.toNat + wsum r)) - 65521 * (q + q2 + r.length * q) := by grind
    rw [e]
    omega

def lo (s : Int) : Int := s % 65536
def hi (s : Int) : Int := s / 65536 % 65536

theorem lo_bd (s : Int) : 0 ≤ lo s ∧ lo s < 65536 := by unfold lo; omega
theorem hi_bd (s : Int) : 0 ≤ hi s ∧ hi s < 65536 := by unfold hi; omega

/-- The sum behind more bytes. -/
def moreV (s : Int) (l : List UInt8) : Int := adB (lo s) (hi s) l * 65536 + adA (lo s) l

theorem lo_more (s : Int) (l : List UInt8) : lo (moreV s l) = adA (lo s) l := by
  have := adA_bd l (lo s) (lo_bd s).1 (lo_bd s).2
  unfold moreV; generalize adA (lo s) l = x at *; generalize adB (lo s) (hi s) l = y at *; unfold lo; omega
theorem hi_more (s : Int) (l : List UInt8) : hi (moreV s l) = adB (lo s) (hi s) l := by
  have := adA_bd l (lo s) (lo_bd s).1 (lo_bd s).2
  have := adB_bd l (lo s) (hi s) (hi_bd s).1 (hi_bd s).2
  unfold moreV; generalize adA (lo s) l = x at *; generalize adB (lo s) (hi s) l = y at *; unfold hi; omega

theorem moreV_append (s : Int) (l m : List UInt8) : moreV s (l ++ m) = moreV (moreV s l) m := by
  show _ = adB (lo (moreV s l)) (hi (moreV s l)) m * 65536 + adA (lo (moreV s l)) m
  rw [lo_more, hi_more]
  unfold moreV
  rw [adA_append, adB_append]

theorem moreV_bd (s : Int) (l : List UInt8) : 0 ≤ moreV s l ∧ moreV s l < 4294967296 := by
  have := adA_bd l (lo s) (lo_bd s).1 (lo_bd s).2
  have := adB_bd l (lo s) (hi s) (hi_bd s).1 (hi_bd s).2
  unfold moreV; generalize adA (lo s) l = x at *; generalize adB (lo s) (hi s) l = y at *; omega

/-- The sum of two texts. -/
def joinV (a b n : Int) : Int := (hi a + hi b + (max n 0) % 65521 * (lo a + 65520)) % 65521 * 65536 + (lo a + 65520 + lo b) % 65521

theorem lo1 : lo 1 = 1 := by decide
theorem hi1 : hi 1 = 0 := by decide

theorem join_more (x y : List UInt8) : joinV (moreV 1 x) (moreV 1 y) y.length = moreV 1 (x ++ y) := by
  unfold joinV
  rw [lo_more, lo_more, hi_more, hi_more, lo1, hi1]
  unfold moreV
  rw [lo1, hi1]
  have a1 := adA_mod x 1
  have a2 := adA_mod y 1
  have b1 := adB_mod x 1 0
  have b2 := adB_mod y 1 0
  have a3 := adA_mod (x ++ y) 1
  have b3 := adB_mod (x ++ y) 1 0
  have l3 := adA_lt (x ++ y) 1 (by decide) (by decide)
  have m3 := adB_lt (x ++ y) 1 0 (by decide) (by decide)
  rw [sumL_append] at a3
  rw [wsum_append, List.length_append, Int.natCast_add] at b3
  generalize adA 1 (x ++ y) = A3 at *
  generalize adB 1 0 (x ++ y) = B3 at *
  generalize adA 1 x = A1 at *
  generalize adA 1 y = A2 at *
  generalize adB 1 0 x = B1 at *
  generalize adB 1 0 y = B2 at *
  generalize sumL x = S1 at *
  generalize sumL y = S2 at *
  generalize wsum x = W1 at *
  generalize wsum y = W2 at *
  have hy : max (y.length : Int) 0 = y.length := by omega
  rw [hy]
  generalize (y.length : Int) = n at *
  generalize (x.length : Int) = m at *
  have eA : (A1 + 65520 + A2) % 65521 = A3 := by omega
  have eB : (B1 + B2 + n % 65521 * (A1 + 65520)) % 65521 = B3 := by
    have e1 : (n % 65521 * (A1 + 65520)) % 65521 = (n * S1) % 65521 := by
      have h1 : (A1 + 65520) % 65521 = S1 % 65521 := by omega
      rw [Int.mul_emod, Int.emod_emod, h1, ← Int.mul_emod]
    generalize n % 65521 * (A1 + 65520) = p at *
    generalize n * S1 = q at *
    simp only [Int.mul_one, Int.zero_add] at b1 b2 b3
    omega
  rw [eA, eB]

theorem sumL_set (p r : List UInt8) (c d : UInt8) (h : moreV 1 (p ++ c :: r) = moreV 1 (p ++ d :: r)) : c = d := by
  have h1 : lo (moreV 1 (p ++ c :: r)) = lo (moreV 1 (p ++ d :: r)) := by rw [h]
  rw [lo_more, lo_more, lo1] at h1
  have a1 := adA_mod (p ++ c :: r) 1
  have a2 := adA_mod (p ++ d :: r) 1
  rw [h1] at a1
  rw [sumL_append] at a1 a2
  simp only [sumL] at a1 a2
  have := c.toNat_lt
  have := d.toNat_lt
  exact UInt8.toNat_inj.1 (by omega)

theorem sumL_zeros (n : Nat) : sumL (List.replicate n 0) = 0 := by
  induction n with
  | zero => rfl
  | succ n ih => simp [List.replicate_succ, sumL, ih]
theorem wsum_zeros (n : Nat) : wsum (List.replicate n 0) = 0 := by
  induction n with
  | zero => rfl
  | succ n ih => simp [List.replicate_succ, wsum, ih]

theorem more_zeros (l : List UInt8) (n : Nat) : moreV 1 (l ++ List.replicate n 0) = (hi (moreV 1 l) + n * lo (moreV 1 l)) % 65521 * 65536 + lo (moreV 1 l) := by
  rw [lo_more, hi_more]
  unfold moreV
  rw [lo1, hi1, adA_append, adB_append]
  have l1 := adA_lt l 1 (by decide) (by decide)
  have l2 := adB_lt l 1 0 (by decide) (by decide)
  generalize adA 1 l = A at *
  generalize adB 1 0 l = B at *
  have a := adA_mod (List.replicate n 0) A
  have b := adB_mod (List.replicate n 0) A B
  have l3 := adA_lt (List.replicate n 0) A l1.1 l1.2
  have l4 := adB_lt (List.replicate n 0) A B l2.1 l2.2
  rw [sumL_zeros] at a
  rw [wsum_zeros, List.length_replicate] at b
  generalize (n : Int) * A = p at *
  omega

end Go.Proofs.Ythfehckdlogbaaa.Adl
