/-
  Plain facts of layer 2: bits as a list, as a number, as bytes. Nothing of the program is named here.
-/
import Derived.WalkKit
import Derived.ProofKit
import Derived.Laws.BitsAllLaws
import Derived.Laws.Cells
import Derived.IntWalk
namespace Go.Proofs.Ytbdlmcpdplmdnaa.Bit

/-- Bit i of a number, also of one below 0. -/
def ibit (v : Int) (i : Nat) : Bool := v / 2 ^ i % 2 == 1
/-- The n lowest bits, the lowest one first. -/
def bitsOf (n : Nat) (v : Int) : List Bool := (List.range n).map (ibit v)
/-- A row of bits as a number, the first one the lowest. -/
def num : List Bool → Nat
  | [] => 0
  | b :: l => b.toNat + 2 * num l
/-- A count as the calls take it. -/
def cnt (n : Int) : Nat := (min (max n 0) 32).toNat

theorem cnt_le (n : Int) : cnt n ≤ 32 := by unfold cnt; omega

theorem ibit_int (v : Int) (i : Nat) : ((ibit v i).toNat : Int) = v / 2 ^ i % 2 := by
  unfold ibit
  have : v / 2 ^ i % 2 = 0 ∨ v / 2 ^ i % 2 = 1 := by omega
  rcases this with h | h <;> rw [h] <;> rfl

theorem div_pow (v : Int) (a b : Nat) : v / 2 ^ a / 2 ^ b = v / 2 ^ (a + b) := by
  rw [Int.ediv_ediv_of_nonneg (Int.le_of_lt (Int.pow_pos (by decide))), Int.pow_add]

theorem ibit_div (v : Int) (a i : Nat) : ibit (v / 2 ^ a) i = ibit v (a + i) := by
  unfold ibit
  rw [div_pow]

theorem bitsOf_length (n : Nat) (v : Int) : (bitsOf n v).length = n := by simp [bitsOf]

theorem bitsOf_succ (n : Nat) (v : Int) : bitsOf (n + 1) v = bitsOf n v ++ [ibit v n] := by simp [bitsOf, List.range_succ]

theorem bitsOf_add (a b : Nat) (v : Int) : bitsOf (a + b) v = bitsOf a v ++ bitsOf b (v / 2 ^ a) := by
  induction b with
  | zero => simp [bitsOf]
  | succ b ih => rw [← Nat.add_assoc, bitsOf_succ, ih, bitsOf_succ, ibit_div, List.append_assoc]

theorem bitsOf_cons (n : Nat) (v : Int) : bitsOf (n + 1) v = ibit v 0 :: bitsOf n (v / 2) := by
  have := bitsOf_add 1 n v
  rw [Nat.add_comm 1 n] at this
  rw [this]; rfl

theorem num_append (a b : List Bool) : num (a ++ b) = num a + 2 ^ a.length * num b := by
  induction a with
  | nil => simp [num]
  | cons x a ih =>
    simp only [List.cons_append, num, ih, List.length_cons, Nat.pow_succ, Nat.mul_add]
    rw [Nat.mul_comm (2 ^ a.length) 2, Nat.mul_assoc]
    omega

theorem num_lt (l : List Bool) : num l < 2 ^ l.length := by
  induction l with
  | nil => simp [num]
  | cons x a ih =>
    have : x.toNat ≤ 1 := by cases x <;> simp
    simp only [num, List.length_cons, Nat.pow_succ]
    omega

theorem num_snoc (a : List Bool) (b : Bool) : num (a ++ [b]) = num a + 2 ^ a.length * b.toNat := by rw [num_append]; simp [num]

theorem num_zeros (n : Nat) : num (List.replicate n false) = 0 := by
  induction n with
  | zero => rfl
  | succ n ih => simp [List.replicate_succ, num, ih]

theorem num_pad (a : List Bool) (n : Nat) : num (a ++ List.replicate n false) = num a := by rw [num_append, num_zeros]; simp

theorem num_bitsOf (n : Nat) (v : Int) : (num (bitsOf n v) : Int) = v % 2 ^ n := by
  induction n with
  | zero => simp [bitsOf, num]
  | succ n ih =>
    rw [bitsOf_succ, num_snoc, bitsOf_length, Int.natCast_add, Int.natCast_mul, ih, ibit_int]
    have hp : (0 : Int) < 2 ^ n := Int.pow_pos (by decide)
    have h1 := Int.emod_add_mul_ediv v (2 ^ n)
    have h2 := Int.emod_add_mul_ediv (v / 2 ^ n) 2
    have h3 := Int.emod_add_mul_ediv v (2 ^ (n + 1))
    rw [← div_pow v n 1] at h3
    rw [show (2 : Int) ^ 1 = 2 from rfl] at h3
    have e : (2 : Int) ^ (n + 1) = 2 ^ n * 2 := Int.pow_succ 2 n
    rw [e] at h3 ⊢
    generalize v / 2 ^ n = q at *
    generalize v % 2 ^ n = r at *
    have e2 : (((2 ^ n : Nat) : Int)) = 2 ^ n := by simp
    rw [e2]
    have hq : (2 : Int) ^ n * q = 2 ^ n * (q % 2) + 2 ^ n * (2 * (q / 2)) := by rw [← Int.mul_add]; congr 1; omega
    rw [Int.mul_assoc] at h3
    omega

theorem num_inj : ∀ (a b : List Bool), a.length = b.length → num a = num b → a = b := by
  intro a
  induction a with
  | nil => intro b h _; cases b with | nil => rfl | cons _ _ => simp at h
  | cons x a ih =>
    intro b h hn
    cases b with
    | nil => simp at h
    | cons y b =>
      simp only [num] at hn
      have hx : x.toNat ≤ 1 := by cases x <;> simp
      have hy : y.toNat ≤ 1 := by cases y <;> simp
      have h1 : x.toNat = y.toNat := by omega
      have h2 : num a = num b := by omega
      have : x = y := by cases x <;> cases y <;> simp_all
      rw [this, ih b (by simpa using h) h2]

theorem bitsOf_num (l : List Bool) : bitsOf l.length (num l) = l := by
  apply num_inj
  · rw [bitsOf_length]
  · have := num_bitsOf l.length (num l)
    have hl := num_lt l
    rw [Int.emod_eq_of_lt (by omega) (by exact_mod_cast hl)] at this
    exact_mod_cast this

/-- How many bits of the last byte are not there yet. -/
def fre (l : List Bool) : Nat := (8 - l.length % 8) % 8
/-- Till a byte is whole. -/
def pad (l : List Bool) : List Bool := l ++ List.replicate (fre l) false
/-- The bytes of a row of bits. -/
def pack (l : List Bool) : List UInt8 := (List.range ((l.length + 7) / 8)).map fun i => UInt8.ofNat (num ((l.drop (8 * i)).take 8))

theorem pack_length (l : List Bool) : (pack l).length = (l.length + 7) / 8 := by simp [pack]
theorem pad_length (l : List Bool) : (pad l).length = l.length + fre l := by simp [pad]
theorem pad_mod (l : List Bool) : (pad l).length % 8 = 0 := by rw [pad_length]; unfold fre; omega

theorem pack_get (l : List Bool) (i : Nat) (h : i < (l.length + 7) / 8) : (pack l)[i]? = some (UInt8.ofNat (num ((l.drop (8 * i)).take 8))) := by simp [pack, h]

theorem pack_none (l : List Bool) (i : Nat) (h : (l.length + 7) / 8 ≤ i) : (pack l)[i]? = none := by
  rw [List.getElem?_eq_none]; rw [pack_length]; exact h

theorem take8_append (l m : List Bool) (i : Nat) (h : 8 * i + 8 ≤ l.length) : ((l ++ m).drop (8 * i)).take 8 = (l.drop (8 * i)).take 8 := by
  rw [List.drop_append_of_le_length (by omega), List.take_append_of_le_length (by rw [List.length_drop]; omega)]

/-- A bit behind whole bytes: a byte more. -/
theorem pack_new (l : List Bool) (b : Bool) (h : l.length % 8 = 0) : pack (l ++ [b]) = pack l ++ [UInt8.ofNat b.toNat] := by
  apply List.ext_getElem?
  intro i
  rcases Nat.lt_trichotomy i (l.length / 8) with hi | hi | hi
  · rw [pack_get _ _ (by rw [List.length_append]; simp; omega), List.getElem?_append_left (by rw [pack_length]; omega), pack_get _ _ (by omega), take8_append _ _ _ (by omega)]
  · rw [pack_get _ _ (by rw [List.length_append]; simp; omega), List.getElem?_append_right (by rw [pack_length]; omega), pack_length]
    have e : i - (l.length + 7) / 8 = 0 := by omega
    have e2 : 8 * i = l.length := by omega
    rw [e, e2, List.drop_left]
    simp [num]
  · rw [pack_none _ _ (by rw [List.length_append]; simp; omega), List.getElem?_eq_none (by rw [List.length_append, pack_length]; simp; omega)]

/-- A bit behind bits of a byte that is not whole. -/
theorem pack_more (l : List Bool) (b : Bool) (h : l.length % 8 ≠ 0) :
    pack (l ++ [b]) = (pack l).set (l.length / 8) (UInt8.ofNat (num (l.drop (8 * (l.length / 8))) + 2 ^ (l.length % 8) * b.toNat)) := by
  apply List.ext_getElem?
  intro i
  rw [List.getElem?_set]
  rcases Nat.lt_trichotomy i (l.length / 8) with hi | hi | hi
  · rw [if_neg (by omega), pack_get _ _ (by rw [List.length_append]; simp; omega), pack_get _ _ (by omega), take8_append _ _ _ (by omega)]
  · subst hi
    rw [if_pos rfl, if_pos (by rw [pack_length]; omega), pack_get _ _ (by rw [List.length_append]; simp; omega)]
    rw [List.drop_append_of_le_length (by omega), List.take_of_length_le (by simp; omega), num_snoc, List.length_drop]
    rw [show l.length - 8 * (l.length / 8) = l.length % 8 by omega]
  · rw [if_neg (by omega), pack_none _ _ (by rw [List.length_append]; simp; omega), pack_none _ _ (by omega)]

theorem pack_last (l : List Bool) (h : l.length % 8 ≠ 0) : (pack l)[l.length / 8]? = some (UInt8.ofNat (num (l.drop (8 * (l.length / 8))))) := by
  rw [pack_get _ _ (by omega), List.take_of_length_le (by simp; omega)]

theorem last_lt (l : List Bool) : num (l.drop (8 * (l.length / 8))) < 2 ^ (l.length % 8) := by
  have := num_lt (l.drop (8 * (l.length / 8)))
  rw [List.length_drop, show l.length - 8 * (l.length / 8) = l.length % 8 by omega] at this
  exact this

theorem pack_pad (l : List Bool) : pack (pad l) = pack l := by
  apply List.ext_getElem?
  intro i
  have hf : fre l = (8 - l.length % 8) % 8 := rfl
  by_cases hi : i < (l.length + 7) / 8
  · rw [pack_get _ _ (by rw [pad_length]; omega), pack_get _ _ hi]
    by_cases h8 : 8 * i + 8 ≤ l.length
    · unfold pad; rw [take8_append _ _ _ h8]
    · unfold pad
      rw [List.drop_append_of_le_length (by omega), List.take_of_length_le (by simp; omega), List.take_of_length_le (by simp; omega), num_pad]
  · rw [pack_none _ _ (by rw [pad_length]; omega), pack_none _ _ (by omega)]

/-- A text's bits. -/
def tbits (s : List UInt8) : List Bool := s.flatMap fun b => bitsOf 8 b.toNat

theorem tbits_length (s : List UInt8) : (tbits s).length = 8 * s.length := by
  induction s with
  | nil => rfl
  | cons b s ih => simp only [tbits, List.flatMap_cons, List.length_append, bitsOf_length, List.length_cons] at *; omega

theorem tbits_append (s t : List UInt8) : tbits (s ++ t) = tbits s ++ tbits t := by simp [tbits]

theorem ofNat_num (l : List Bool) (h : l.length ≤ 8) : (UInt8.ofNat (num l)).toNat = num l := by
  have h1 := num_lt l
  have h2 : 2 ^ l.length ≤ 2 ^ 8 := Nat.pow_le_pow_right (by decide) h
  rw [UInt8.toNat_ofNat']
  exact Nat.mod_eq_of_lt (by omega)

theorem pack_cons (l m : List Bool) (h : l.length = 8) : pack (l ++ m) = UInt8.ofNat (num l) :: pack m := by
  apply List.ext_getElem?
  intro i
  cases i with
  | zero =>
    rw [pack_get _ _ (by rw [List.length_append]; omega)]
    simp [h]
  | succ i =>
    rw [List.getElem?_cons_succ]
    by_cases hi : i < (m.length + 7) / 8
    · rw [pack_get _ _ (by rw [List.length_append]; omega), pack_get _ _ hi]
      have e : (l ++ m).drop (8 * (i + 1)) = m.drop (8 * i) := by rw [show 8 * (i + 1) = l.length + 8 * i by omega, ← List.drop_drop, List.drop_left]
      rw [e]
    · rw [pack_none _ _ (by rw [List.length_append]; omega), pack_none _ _ (by omega)]

theorem num_byte (b : UInt8) : num (bitsOf 8 (b.toNat : Int)) = b.toNat := by
  have h := num_bitsOf 8 (b.toNat : Int)
  have hb := b.toNat_lt
  rw [Int.emod_eq_of_lt (Int.natCast_nonneg _) (by rw [show (2 : Int) ^ 8 = 256 from rfl]; omega)] at h
  exact Int.ofNat.inj h

theorem pack_tbits (s : List UInt8) : pack (tbits s) = s := by
  induction s with
  | nil => rfl
  | cons b s ih =>
    have : tbits (b :: s) = bitsOf 8 b.toNat ++ tbits s := by simp [tbits]
    rw [this, pack_cons _ _ (bitsOf_length _ _), ih, num_byte, UInt8.ofNat_toNat]

/-- Whole bytes behind whole bytes. -/
theorem pack_append : ∀ (k : Nat) (l m : List Bool), l.length = 8 * k → pack (l ++ m) = pack l ++ pack m := by
  intro k
  induction k with
  | zero => intro l m h; have : l = [] := List.eq_nil_of_length_eq_zero (by omega); subst this; rfl
  | succ k ih =>
    intro l m h
    have e : l = l.take 8 ++ l.drop 8 := (List.take_append_drop 8 l).symm
    have h8 : (l.take 8).length = 8 := by simp; omega
    rw [e, List.append_assoc, pack_cons _ _ h8, pack_cons _ _ h8, ih _ _ (by simp; omega)]
    rfl

theorem tbits_pack : ∀ (k : Nat) (l : List Bool), l.length = 8 * k → tbits (pack l) = l := by
  intro k
  induction k with
  | zero => intro l h; have : l = [] := List.eq_nil_of_length_eq_zero (by omega); subst this; rfl
  | succ k ih =>
    intro l h
    have e : l = l.take 8 ++ l.drop 8 := (List.take_append_drop 8 l).symm
    have h8 : (l.take 8).length = 8 := by simp; omega
    rw [e, pack_cons _ _ h8]
    have : ∀ b s, tbits (b :: s) = bitsOf 8 b.toNat ++ tbits s := fun b s => by simp [tbits]
    rw [this, ih _ (by simp; omega), ofNat_num _ (by omega)]
    congr 1
    have := bitsOf_num (l.take 8)
    rw [h8] at this
    exact this

/-- What is written is what is read: the bits of the bytes. -/
theorem tbits_packed (l : List Bool) : tbits (pack l) = pad l := by
  rw [← pack_pad, tbits_pack ((pad l).length / 8)]
  have := pad_mod l
  omega

theorem tbits_get (s : List UInt8) (i : Nat) : (tbits s)[i]? = (s[i / 8]?).map fun b => ibit b.toNat (i % 8) := by
  induction s generalizing i with
  | nil => simp [tbits]
  | cons b s ih =>
    have : tbits (b :: s) = bitsOf 8 b.toNat ++ tbits s := by simp [tbits]
    rw [this]
    by_cases hi : i < 8
    · rw [List.getElem?_append_left (by rw [bitsOf_length]; exact hi), show i / 8 = 0 by omega, show i % 8 = i by omega]
      simp [bitsOf, hi]
    · rw [List.getElem?_append_right (by rw [bitsOf_length]; omega), bitsOf_length, ih, show i / 8 = (i - 8) / 8 + 1 by omega, show i % 8 = (i - 8) % 8 by omega]
      simp

/-! Go's operations on int. -/

theorem i64_mask (x : Int) (n : Nat) (hn : n ≤ 62) : bits .and .i64 x (2 ^ n - 1) = x % 2 ^ n := by
  show IntKind.i64.wrap ((BitVec.ofInt 64 x &&& BitVec.ofInt 64 (2 ^ n - 1)).toNat : Int) = _
  have hp : (2 : Nat) ^ n ≤ 2 ^ 62 := Nat.pow_le_pow_right (by decide) hn
  have hp0 : 0 < (2 : Nat) ^ n := Nat.pow_pos (by decide)
  have e : ((2 : Int) ^ n - 1) = (((2 ^ n - 1 : Nat)) : Int) := by
    have : ((2 ^ n : Nat) : Int) = 2 ^ n := by simp
    omega
  rw [BitVec.toNat_and, e, ofInt_u64 _ (by omega), Nat.and_two_pow_sub_one_eq_mod, BitVec.toNat_ofInt]
  have h1 : ((x % ((2 ^ 64 : Nat) : Int)).toNat : Int) = x % ((2 ^ 64 : Nat) : Int) := Int.toNat_of_nonneg (Int.emod_nonneg _ (by decide))
  have h2 : (((x % ((2 ^ 64 : Nat) : Int)).toNat % 2 ^ n : Nat) : Int) = x % 2 ^ n := by
    rw [Int.natCast_emod, h1, Int.natCast_pow]
    refine Int.emod_emod_of_dvd x ?_
    refine ⟨2 ^ (64 - n), ?_⟩
    have : (2 : Nat) ^ 64 = 2 ^ n * 2 ^ (64 - n) := by rw [← Nat.pow_add]; congr 1; omega
    exact_mod_cast this
  rw [h2]
  have h3 : 0 ≤ x % 2 ^ n := Int.emod_nonneg _ (Int.ne_of_gt (Int.pow_pos (by decide)))
  have h4 : x % 2 ^ n < 2 ^ n := Int.emod_lt_of_pos _ (Int.pow_pos (by decide))
  have h5 : ((2 : Int) ^ n) ≤ 2 ^ 62 := by exact_mod_cast hp
  exact IntWalk.i64_in _ (by omega)

theorem i64_and1 (x : Int) : bits .and .i64 x 1 = x % 2 := i64_mask x 1 (by decide)

theorem i64_or (a b n : Nat) (ha : a < 2 ^ n) (hb : b % 2 ^ n = 0) (hb2 : b < 2 ^ 62) (hn : n ≤ 62) : bits .or .i64 (a : Int) (b : Int) = ((a + b : Nat) : Int) := by
  show IntKind.i64.wrap ((BitVec.ofInt 64 (a : Int) ||| BitVec.ofInt 64 (b : Int)).toNat : Int) = _
  have hp : (2 : Nat) ^ n ≤ 2 ^ 62 := Nat.pow_le_pow_right (by decide) hn
  rw [BitVec.toNat_or, ofInt_u64 _ (by omega), ofInt_u64 _ (by omega), Nat.or_comm, nat_join n b a hb ha]
  rw [Nat.add_comm b a]
  exact IntWalk.i64_in _ (by omega)

theorem u8_or_more (a b n : Nat) (ha : a < 2 ^ n) (hb : b ≤ 1) (hn : n < 8) : bits .or .u8 (a : Int) ((2 ^ n * b : Nat) : Int) = ((a + 2 ^ n * b : Nat) : Int) := by
  have h1 : (2 : Nat) ^ n ≤ 2 ^ 7 := Nat.pow_le_pow_right (by decide) (by omega)
  have h2 : 2 ^ n * b ≤ 2 ^ n * 1 := Nat.mul_le_mul_left _ hb
  rw [u8_or_nat _ _ (by omega) (by omega), Nat.or_comm, nat_join n _ a (by simp) ha, Nat.add_comm]

end Go.Proofs.Ytbdlmcpdplmdnaa.Bit
