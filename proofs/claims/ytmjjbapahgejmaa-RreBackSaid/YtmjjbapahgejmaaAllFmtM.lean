/-
  Texts in one: BitMath, FmtMath, FmtVal, FmtRef, FmtRefV, FmtRefQ, FmtRefB, FmtRefP, FmtView, FmtBack, FmtSays.
-/
import Derived.WalkKit
import Derived.ProofKit
import Derived.Laws.BitsAllLaws
import Derived.Laws.Cells
import Derived.IntWalk
import Derived.Below
import Derived.Test.YtmjjbapahgejmaaAllOct17
import Derived.Test.YtmjjbapahgejmaaRows
import Derived.OpenShut
import Derived.ShutString
import Derived.ChangeOld
import Derived.WalkSpells
import Derived.WalkLawsBesides
import Derived.Deep.QuietTactic
import Derived.BigQuiet
import Derived.BigGuardPart
import Derived.StillTailTactics
import Derived.Deep.RegionHeld3
import Derived.Deep.RegionWith
import Derived.Outline
import Derived.Lib.Hide
import Derived.Deep.DeepCutAuto
import Derived.Test.YtmjjbapahgejmaaAllRow17
import Derived.Laws.MakeOwn
import Derived.Lib.SmallJoins
import Derived.Deep.Slices
namespace Go.Proofs.Ytmjjbapahgejmaa.Bit

/-- Bit i of a number, also of one below 0. -/
def ibit (v : Int) (i : Nat) : Bool := v / 2 ^ i % 2 == 1
/-- The n lowest bits, the lowest one first. -/
def bitsOf (n : Nat) (v : Int) : List Bool := (List.range n).map (ibit v)
/-- A row of bits as a number, the first one the lowest. -/
def num : List Bool → Nat
  | [] => 0
  | b :: l => b.toNat + 2 * num l
/-- A count as the calls take it. -/
def cnt (n : Int) : Nat := (min (max n 0) 32).toNat

theorem cnt_le (n : Int) : cnt n ≤ 32 := by unfold cnt; omega

theorem ibit_int (v : Int) (i : Nat) : ((ibit v i).toNat : Int) = v / 2 ^ i % 2 := by
  unfold ibit
  have : v / 2 ^ i % 2 = 0 ∨ v / 2 ^ i % 2 = 1 := by omega
  rcases this with h | h <;> rw [h] <;> rfl

theorem div_pow (v : Int) (a b : Nat) : v / 2 ^ a / 2 ^ b = v / 2 ^ (a + b) := by
  rw [Int.ediv_ediv_of_nonneg (Int.le_of_lt (Int.pow_pos (by decide))), Int.pow_add]

theorem ibit_div (v : Int) (a i : Nat) : ibit (v / 2 ^ a) i = ibit v (a + i) := by
  unfold ibit
  rw [div_pow]

theorem bitsOf_length (n : Nat) (v : Int) : (bitsOf n v).length = n := by simp [bitsOf]

theorem bitsOf_succ (n : Nat) (v : Int) : bitsOf (n + 1) v = bitsOf n v ++ [ibit v n] := by simp [bitsOf, List.range_succ]

theorem bitsOf_add (a b : Nat) (v : Int) : bitsOf (a + b) v = bitsOf a v ++ bitsOf b (v / 2 ^ a) := by
  induction b with
  | zero => simp [bitsOf]
  | succ b ih => rw [← Nat.add_assoc, bitsOf_succ, ih, bitsOf_succ, ibit_div, List.append_assoc]

theorem bitsOf_cons (n : Nat) (v : Int) : bitsOf (n + 1) v = ibit v 0 :: bitsOf n (v / 2) := by
  have := bitsOf_add 1 n v
  rw [Nat.add_comm 1 n] at this
  rw [this]; rfl

theorem num_append (a b : List Bool) : num (a ++ b) = num a + 2 ^ a.length * num b := by
  induction a with
  | nil => simp [num]
  | cons x a ih =>
    simp only [List.cons_append, num, ih, List.length_cons, Nat.pow_succ, Nat.mul_add]
    rw [Nat.mul_comm (2 ^ a.length) 2, Nat.mul_assoc]
    omega

theorem num_lt (l : List Bool) : num l < 2 ^ l.length := by
  induction l with
  | nil => simp [num]
  | cons x a ih =>
    have : x.toNat ≤ 1 := by cases x <;> simp
    simp only [num, List.length_cons, Nat.pow_succ]
    omega

theorem num_snoc (a : List Bool) (b : Bool) : num (a ++ [b]) = num a + 2 ^ a.length * b.toNat := by rw [num_append]; simp [num]

theorem num_zeros (n : Nat) : num (List.replicate n false) = 0 := by
  induction n with
  | zero => rfl
  | succ n ih => simp [List.replicate_succ, num, ih]

theorem num_pad (a : List Bool) (n : Nat) : num (a ++ List.replicate n false) = num a := by rw [num_append, num_zeros]; simp

theorem num_bitsOf (n : Nat) (v : Int) : (num (bitsOf n v) : Int) = v % 2 ^ n := by
  induction n with
  | zero => simp [bitsOf, num]
  | succ n ih =>
    rw [bitsOf_succ, num_snoc, bitsOf_length, Int.natCast_add, Int.natCast_mul, ih, ibit_int]
    have hp : (0 : Int) < 2 ^ n := Int.pow_pos (by decide)
    have h1 := Int.emod_add_mul_ediv v (2 ^ n)
    have h2 := Int.emod_add_mul_ediv (v / 2 ^ n) 2
    have h3 := Int.emod_add_mul_ediv v (2 ^ (n + 1))
    rw [← div_pow v n 1] at h3
    rw [show (2 : Int) ^ 1 = 2 from rfl] at h3
    have e : (2 : Int) ^ (n + 1) = 2 ^ n * 2 := Int.pow_succ 2 n
    rw [e] at h3 ⊢
    generalize v / 2 ^ n = q at *
    generalize v % 2 ^ n = r at *
    have e2 : (((2 ^ n : Nat) : Int)) = 2 ^ n := by simp
    rw [e2]
    have hq : (2 : Int) ^ n * q = 2 ^ n * (q % 2) + 2 ^ n * (2 * (q / 2)) := by rw [← Int.mul_add]; congr 1; omega
    rw [Int.mul_assoc] at h3
    omega

theorem num_inj : ∀ (a b : List Bool), a.length = b.length → num a = num b → a = b := by
  intro a
  induction a with
  | nil => intro b h _; cases b with | nil => rfl | cons _ _ => simp at h
  | cons x a ih =>
    intro b h hn
    cases b with
    | nil => simp at h
    | cons y b =>
      simp only [num] at hn
      have hx : x.toNat ≤ 1 := by cases x <;> simp
      have hy : y.toNat ≤ 1 := by cases y <;> simp
      have h1 : x.toNat = y.toNat := by omega
      have h2 : num a = num b := by omega
      have : x = y := by cases x <;> cases y <;> simp_all
      rw [this, ih b (by simpa using h) h2]

theorem bitsOf_num (l : List Bool) : bitsOf l.length (num l) = l := by
  apply num_inj
  · rw [bitsOf_length]
  · have := num_bitsOf l.length (num l)
    have hl := num_lt l
    rw [Int.emod_eq_of_lt (by omega) (by exact_mod_cast hl)] at this
    exact_mod_cast this

/-- How many bits of the last byte are not there yet. -/
def fre (l : List Bool) : Nat := (8 - l.length % 8) % 8
/-- Till a byte is whole. -/
def pad (l : List Bool) : List Bool := l ++ List.replicate (fre l) false
/-- The bytes of a row of bits. -/
def pack (l : List Bool) : List UInt8 := (List.range ((l.length + 7) / 8)).map fun i => UInt8.ofNat (num ((l.drop (8 * i)).take 8))

theorem pack_length (l : List Bool) : (pack l).length = (l.length + 7) / 8 := by simp [pack]
theorem pad_length (l : List Bool) : (pad l).length = l.length + fre l := by simp [pad]
theorem pad_mod (l : List Bool) : (pad l).length % 8 = 0 := by rw [pad_length]; unfold fre; omega

theorem pack_get (l : List Bool) (i : Nat) (h : i < (l.length + 7) / 8) : (pack l)[i]? = some (UInt8.ofNat (num ((l.drop (8 * i)).take 8))) := by simp [pack, h]

theorem pack_none (l : List Bool) (i : Nat) (h : (l.length + 7) / 8 ≤ i) : (pack l)[i]? = none := by
  rw [List.getElem?_eq_none]; rw [pack_length]; exact h

theorem take8_append (l m : List Bool) (i : Nat) (h : 8 * i + 8 ≤ l.length) : ((l ++ m).drop (8 * i)).take 8 = (l.drop (8 * i)).take 8 := by
  rw [List.drop_append_of_le_length (by omega), List.take_append_of_le_length (by rw [List.length_drop]; omega)]

/-- A bit behind whole bytes: a byte more. -/
theorem pack_new (l : List Bool) (b : Bool) (h : l.length % 8 = 0) : pack (l ++ [b]) = pack l ++ [UInt8.ofNat b.toNat] := by
  apply List.ext_getElem?
  intro i
  rcases Nat.lt_trichotomy i (l.length / 8) with hi | hi | hi
  · rw [pack_get _ _ (by rw [List.length_append]; simp; omega), List.getElem?_append_left (by rw [pack_length]; omega), pack_get _ _ (by omega), take8_append _ _ _ (by omega)]
  · rw [pack_get _ _ (by rw [List.length_append]; simp; omega), List.getElem?_append_right (by rw [pack_length]; omega), pack_length]
    have e : i - (l.length + 7) / 8 = 0 := by omega
    have e2 : 8 * i = l.length := by omega
    rw [e, e2, List.drop_left]
    simp [num]
  · rw [pack_none _ _ (by rw [List.length_append]; simp; omega), List.getElem?_eq_none (by rw [List.length_append, pack_length]; simp; omega)]

/-- A bit behind bits of a byte that is not whole. -/
theorem pack_more (l : List Bool) (b : Bool) (h : l.length % 8 ≠ 0) :
    pack (l ++ [b]) = (pack l).set (l.length / 8) (UInt8.ofNat (num (l.drop (8 * (l.length / 8))) + 2 ^ (l.length % 8) * b.toNat)) := by
  apply List.ext_getElem?
  intro i
  rw [List.getElem?_set]
  rcases Nat.lt_trichotomy i (l.length / 8) with hi | hi | hi
  · rw [if_neg (by omega), pack_get _ _ (by rw [List.length_append]; simp; omega), pack_get _ _ (by omega), take8_append _ _ _ (by omega)]
  · subst hi
    rw [if_pos rfl, if_pos (by rw [pack_length]; omega), pack_get _ _ (by rw [List.length_append]; simp; omega)]
    rw [List.drop_append_of_le_length (by omega), List.take_of_length_le (by simp; omega), num_snoc, List.length_drop]
    rw [show l.length - 8 * (l.length / 8) = l.length % 8 by omega]
  · rw [if_neg (by omega), pack_none _ _ (by rw [List.length_append]; simp; omega), pack_none _ _ (by omega)]

theorem pack_last (l : List Bool) (h : l.length % 8 ≠ 0) : (pack l)[l.length / 8]? = some (UInt8.ofNat (num (l.drop (8 * (l.length / 8))))) := by
  rw [pack_get _ _ (by omega), List.take_of_length_le (by simp; omega)]

theorem last_lt (l : List Bool) : num (l.drop (8 * (l.length / 8))) < 2 ^ (l.length % 8) := by
  have := num_lt (l.drop (8 * (l.length / 8)))
  rw [List.length_drop, show l.length - 8 * (l.length / 8) = l.length % 8 by omega] at this
  exact this

theorem pack_pad (l : List Bool) : pack (pad l) = pack l := by
  apply List.ext_getElem?
  intro i
  have hf : fre l = (8 - l.length % 8) % 8 := rfl
  by_cases hi : i < (l.length + 7) / 8
  · rw [pack_get _ _ (by rw [pad_length]; omega), pack_get _ _ hi]
    by_cases h8 : 8 * i + 8 ≤ l.length
    · unfold pad; rw [take8_append _ _ _ h8]
    · unfold pad
      rw [List.drop_append_of_le_length (by omega), List.take_of_length_le (by simp; omega), List.take_of_length_le (by simp; omega), num_pad]
  · rw [pack_none _ _ (by rw [pad_length]; omega), pack_none _ _ (by omega)]

/-- A text's bits. -/
def tbits (s : List UInt8) : List Bool := s.flatMap fun b => bitsOf 8 b.toNat

theorem tbits_length (s : List UInt8) : (tbits s).length = 8 * s.length := by
  induction s with
  | nil => rfl
  | cons b s ih => simp only [tbits, List.flatMap_cons, List.length_append, bitsOf_length, List.length_cons] at *; omega

theorem tbits_append (s t : List UInt8) : tbits (s ++ t) = tbits s ++ tbits t := by simp [tbits]

theorem ofNat_num (l : List Bool) (h : l.length ≤ 8) : (UInt8.ofNat (num l)).toNat = num l := by
  have h1 := num_lt l
  have h2 : 2 ^ l.length ≤ 2 ^ 8 := Nat.pow_le_pow_right (by decide) h
  rw [UInt8.toNat_ofNat']
  exact Nat.mod_eq_of_lt (by omega)

theorem pack_cons (l m : List Bool) (h : l.length = 8) : pack (l ++ m) = UInt8.ofNat (num l) :: pack m := by
  apply List.ext_getElem?
  intro i
  cases i with
  | zero =>
    rw [pack_get _ _ (by rw [List.length_append]; omega)]
    simp [h]
  | succ i =>
    rw [List.getElem?_cons_succ]
    by_cases hi : i < (m.length + 7) / 8
    · rw [pack_get _ _ (by rw [List.length_append]; omega), pack_get _ _ hi]
      have e : (l ++ m).drop (8 * (i + 1)) = m.drop (8 * i) := by rw [show 8 * (i + 1) = l.length + 8 * i by omega, ← List.drop_drop, List.drop_left]
      rw [e]
    · rw [pack_none _ _ (by rw [List.length_append]; omega), pack_none _ _ (by omega)]

theorem num_byte (b : UInt8) : num (bitsOf 8 (b.toNat : Int)) = b.toNat := by
  have h := num_bitsOf 8 (b.toNat : Int)
  have hb := b.toNat_lt
  rw [Int.emod_eq_of_lt (Int.natCast_nonneg _) (by rw [show (2 : Int) ^ 8 = 256 from rfl]; omega)] at h
  exact Int.ofNat.inj h

theorem pack_tbits (s : List UInt8) : pack (tbits s) = s := by
  induction s with
  | nil => rfl
  | cons b s ih =>
    have : tbits (b :: s) = bitsOf 8 b.toNat ++ tbits s := by simp [tbits]
    rw [this, pack_cons _ _ (bitsOf_length _ _), ih, num_byte, UInt8.ofNat_toNat]

/-- Whole bytes behind whole bytes. -/
theorem pack_append : ∀ (k : Nat) (l m : List Bool), l.length = 8 * k → pack (l ++ m) = pack l ++ pack m := by
  intro k
  induction k with
  | zero => intro l m h; have : l = [] := List.eq_nil_of_length_eq_zero (by omega); subst this; rfl
  | succ k ih =>
    intro l m h
    have e : l = l.take 8 ++ l.drop 8 := (List.take_append_drop 8 l).symm
    have h8 : (l.take 8).length = 8 := by simp; omega
    rw [e, List.append_assoc, pack_cons _ _ h8, pack_cons _ _ h8, ih _ _ (by simp; omega)]
    rfl

theorem tbits_pack : ∀ (k : Nat) (l : List Bool), l.length = 8 * k → tbits (pack l) = l := by
  intro k
  induction k with
  | zero => intro l h; have : l = [] := List.eq_nil_of_length_eq_zero (by omega); subst this; rfl
  | succ k ih =>
    intro l h
    have e : l = l.take 8 ++ l.drop 8 := (List.take_append_drop 8 l).symm
    have h8 : (l.take 8).length = 8 := by simp; omega
    rw [e, pack_cons _ _ h8]
    have : ∀ b s, tbits (b :: s) = bitsOf 8 b.toNat ++ tbits s := fun b s => by simp [tbits]
    rw [this, ih _ (by simp; omega), ofNat_num _ (by omega)]
    congr 1
    have := bitsOf_num (l.take 8)
    rw [h8] at this
    exact this

/-- What is written is what is read: the bits of the bytes. -/
theorem tbits_packed (l : List Bool) : tbits (pack l) = pad l := by
  rw [← pack_pad, tbits_pack ((pad l).length / 8)]
  have := pad_mod l
  omega

theorem tbits_get (s : List UInt8) (i : Nat) : (tbits s)[i]? = (s[i / 8]?).map fun b => ibit b.toNat (i % 8) := by
  induction s generalizing i with
  | nil => simp [tbits]
  | cons b s ih =>
    have : tbits (b :: s) = bitsOf 8 b.toNat ++ tbits s := by simp [tbits]
    rw [this]
    by_cases hi : i < 8
    · rw [List.getElem?_append_left (by rw [bitsOf_length]; exact hi), show i / 8 = 0 by omega, show i % 8 = i by omega]
      simp [bitsOf, hi]
    · rw [List.getElem?_append_right (by rw [bitsOf_length]; omega), bitsOf_length, ih, show i / 8 = (i - 8) / 8 + 1 by omega, show i % 8 = (i - 8) % 8 by omega]
      simp

/-! Go's operations on int. -/

theorem i64_mask (x : Int) (n : Nat) (hn : n ≤ 62) : bits .and .i64 x (2 ^ n - 1) = x % 2 ^ n := by
  show IntKind.i64.wrap ((BitVec.ofInt 64 x &&& BitVec.ofInt 64 (2 ^ n - 1)).toNat : Int) = _
  have hp : (2 : Nat) ^ n ≤ 2 ^ 62 := Nat.pow_le_pow_right (by decide) hn
  have hp0 : 0 < (2 : Nat) ^ n := Nat.pow_pos (by decide)
  have e : ((2 : Int) ^ n - 1) = (((2 ^ n - 1 : Nat)) : Int) := by
    have : ((2 ^ n : Nat) : Int) = 2 ^ n := by simp
    omega
  rw [BitVec.toNat_and, e, ofInt_u64 _ (by omega), Nat.and_two_pow_sub_one_eq_mod, BitVec.toNat_ofInt]
  have h1 : ((x % ((2 ^ 64 : Nat) : Int)).toNat : Int) = x % ((2 ^ 64 : Nat) : Int) := Int.toNat_of_nonneg (Int.emod_nonneg _ (by decide))
  have h2 : (((x % ((2 ^ 64 : Nat) : Int)).toNat % 2 ^ n : Nat) : Int) = x % 2 ^ n := by
    rw [Int.natCast_emod, h1, Int.natCast_pow]
    refine Int.emod_emod_of_dvd x ?_
    refine ⟨2 ^ (64 - n), ?_⟩
    have : (2 : Nat) ^ 64 = 2 ^ n * 2 ^ (64 - n) := by rw [← Nat.pow_add]; congr 1; omega
    exact_mod_cast this
  rw [h2]
  have h3 : 0 ≤ x % 2 ^ n := Int.emod_nonneg _ (Int.ne_of_gt (Int.pow_pos (by decide)))
  have h4 : x % 2 ^ n < 2 ^ n := Int.emod_lt_of_pos _ (Int.pow_pos (by decide))
  have h5 : ((2 : Int) ^ n) ≤ 2 ^ 62 := by exact_mod_cast hp
  exact IntWalk.i64_in _ (by omega)

theorem i64_and1 (x : Int) : bits .and .i64 x 1 = x % 2 := i64_mask x 1 (by decide)

theorem i64_or (a b n : Nat) (ha : a < 2 ^ n) (hb : b % 2 ^ n = 0) (hb2 : b < 2 ^ 62) (hn : n ≤ 62) : bits .or .i64 (a : Int) (b : Int) = ((a + b : Nat) : Int) := by
  show IntKind.i64.wrap ((BitVec.ofInt 64 (a : Int) ||| BitVec.ofInt 64 (b : Int)).toNat : Int) = _
  have hp : (2 : Nat) ^ n ≤ 2 ^ 62 := Nat.pow_le_pow_right (by decide) hn
  rw [BitVec.toNat_or, ofInt_u64 _ (by omega), ofInt_u64 _ (by omega), Nat.or_comm, nat_join n b a hb ha]
  rw [Nat.add_comm b a]
  exact IntWalk.i64_in _ (by omega)

theorem u8_or_more (a b n : Nat) (ha : a < 2 ^ n) (hb : b ≤ 1) (hn : n < 8) : bits .or .u8 (a : Int) ((2 ^ n * b : Nat) : Int) = ((a + 2 ^ n * b : Nat) : Int) := by
  have h1 : (2 : Nat) ^ n ≤ 2 ^ 7 := Nat.pow_le_pow_right (by decide) (by omega)
  have h2 : 2 ^ n * b ≤ 2 ^ n * 1 := Nat.mul_le_mul_left _ hb
  rw [u8_or_nat _ _ (by omega) (by omega), Nat.or_comm, nat_join n _ a (by simp) ha, Nat.add_comm]

end Go.Proofs.Ytmjjbapahgejmaa.Bit
namespace Go.Proofs.Ytmjjbapahgejmaa.Fmt
set_option linter.unusedVariables false

/-- The greatest number of so many bits. -/
def top (k : Nat) : Nat := 2 ^ k - 1
/-- How many bits a part has; 0: it may not be. -/
def width (m : Int) : Nat := ((List.range 17).find? fun k => decide (1 ≤ k) && decide (m = (top k : Nat))).getD 0
theorem top_inj {a b : Nat} (h : top a = top b) : a = b := by
  unfold top at h
  have h1 : 1 ≤ 2 ^ a := Nat.one_le_two_pow
  have h2 : 1 ≤ 2 ^ b := Nat.one_le_two_pow
  exact (Nat.pow_right_inj (by decide : 1 < 2)).1 (show 2 ^ a = 2 ^ b by omega)
theorem width_top {k : Nat} (h : 1 ≤ k ∧ k ≤ 16) : width (top k : Nat) = k := by
  obtain ⟨h1, h2⟩ := h
  have : ∀ k, k < 17 → 1 ≤ k → width (top k : Nat) = k := by decide +kernel
  exact this k (by omega) h1
theorem width_spec {m : Int} (h : 0 < width m) : 1 ≤ width m ∧ width m ≤ 16 ∧ m = (top (width m) : Nat) := by
  unfold width at h ⊢
  cases hf : (List.range 17).find? fun k => decide (1 ≤ k) && decide (m = (top k : Nat)) with
  | none => rw [hf] at h; simp at h
  | some k =>
    have h1 := List.find?_some hf
    have h2 := List.mem_of_find?_eq_some hf
    simp only [Bool.and_eq_true, decide_eq_true_eq] at h1
    simp only [List.mem_range] at h2
    simp only [Option.getD_some]
    exact ⟨h1.1, by omega, h1.2⟩
theorem width_zero {m : Int} (h : width m = 0) (k : Nat) (hk : 1 ≤ k ∧ k ≤ 16) : m ≠ (top k : Nat) := by
  intro e
  have := width_top hk
  rw [← e, h] at this
  omega

/-- A part of a colour as a part of a value, and back. -/
def downN (p m : Nat) : Nat := (p * m + 127) / 255
def upN (v m : Nat) : Nat := (v * 255 + m / 2) / m
theorem down_le {p m : Nat} (hp : p ≤ 255) : downN p m ≤ m := by
  unfold downN
  have : p * m ≤ 255 * m := Nat.mul_le_mul_right m hp
  omega
theorem up_le {v m : Nat} (hv : v ≤ m) (hm : 1 ≤ m) : upN v m ≤ 255 := by
  unfold upN
  have h : v * 255 + m / 2 < m * 256 := by
    have : v * 255 ≤ m * 255 := Nat.mul_le_mul_right 255 hv
    omega
  have := (Nat.div_lt_iff_lt_mul (show 0 < m by omega)).2 (by rw [Nat.mul_comm]; exact h)
  omega
/-- With 255 or more nothing is lost; with 255 or less a value leads back to itself. -/
theorem up_down {k : Nat} (hk : 8 ≤ k ∧ k ≤ 16) {p : Nat} (hp : p ≤ 255) : upN (downN p (top k)) (top k) = p := by
  have : ∀ k, k < 17 → 8 ≤ k → ∀ p, p < 256 → upN (downN p (top k)) (top k) = p := by decide +kernel
  exact this k (by omega) hk.1 p (by omega)
theorem down_up {k : Nat} (hk : 1 ≤ k ∧ k ≤ 8) {v : Nat} (hv : v ≤ top k) : downN (upN v (top k)) (top k) = v := by
  have : ∀ k, k < 9 → 1 ≤ k → ∀ v, v < 256 → v ≤ top k → downN (upN v (top k)) (top k) = v := by decide +kernel
  have h8 : top k ≤ 255 := by
    have : ∀ k, k < 9 → top k ≤ 255 := by decide
    exact this k (by omega)
  exact this k (by omega) hk.1 v (by omega) hv
/-- What is left of a part. -/
def leftN (p m : Nat) : Nat := upN (downN p m) m
theorem left_left {k : Nat} (hk : 1 ≤ k ∧ k ≤ 16) {p : Nat} (hp : p ≤ 255) : leftN (leftN p (top k)) (top k) = leftN p (top k) := by
  unfold leftN
  by_cases h : k ≤ 8
  · rw [down_up ⟨hk.1, h⟩ (down_le hp)]
  · have e := up_down ⟨by omega, hk.2⟩ hp
    rw [e, e]
theorem left_same {k : Nat} (hk : 8 ≤ k ∧ k ≤ 16) {p : Nat} (hp : p ≤ 255) : leftN p (top k) = p := up_down hk hp
theorem top_pos {k : Nat} (hk : 1 ≤ k) : 1 ≤ top k := by
  unfold top
  have : 2 ^ 1 ≤ 2 ^ k := Nat.pow_le_pow_right (by decide) hk
  omega

/-- Where the bits of a part stand. -/
def apart (s k t j : Nat) : Prop := s + k ≤ t ∨ t + j ≤ s
theorem top_bit (k i : Nat) : (top k).testBit i = decide (i < k) := by unfold top; exact Nat.testBit_two_pow_sub_one k i
theorem mask_bit (k s i : Nat) : (top k * 2 ^ s).testBit i = (decide (s ≤ i) && decide (i - s < k)) := by
  rw [Nat.testBit_mul_two_pow, top_bit]
/-- Two masks have no bit in common just where the parts stand apart. -/
theorem and_zero {s k t j : Nat} (hk : 1 ≤ k) (hj : 1 ≤ j) : (top k * 2 ^ s) &&& (top j * 2 ^ t) = 0 ↔ apart s k t j := by
  constructor
  · intro h
    apply Classical.byContradiction
    intro hn
    unfold apart at hn
    have hb := congrArg (fun n => Nat.testBit n (max s t)) h
    simp only [Nat.testBit_and, mask_bit, Nat.zero_testBit] at hb
    simp at hb
    omega
  · intro h
    apply Nat.eq_of_testBit_eq
    intro i
    rw [Nat.testBit_and, mask_bit, mask_bit, Nat.zero_testBit]
    unfold apart at h
    simp only [Bool.and_eq_false_iff, decide_eq_false_iff_not]
    omega

/-- What has no bit in common is added as it is joined. -/
theorem add_or {x y : Nat} (hx : x < 2 ^ 62) (hy : y < 2 ^ 62) (h : x &&& y = 0) : x + y = x ||| y := by
  have hv : BitVec.ofNat 64 x &&& BitVec.ofNat 64 y = 0#64 := by
    apply BitVec.eq_of_toNat_eq
    rw [BitVec.toNat_and, BitVec.toNat_ofNat, BitVec.toNat_ofNat, Nat.mod_eq_of_lt (by omega), Nat.mod_eq_of_lt (by omega), h]
    rfl
  have e := congrArg BitVec.toNat (BitVec.add_eq_or_of_and_eq_zero _ _ hv)
  rw [BitVec.toNat_add, BitVec.toNat_or, BitVec.toNat_ofNat, BitVec.toNat_ofNat, Nat.mod_eq_of_lt (show x < 2 ^ 64 by omega), Nat.mod_eq_of_lt (show y < 2 ^ 64 by omega), Nat.mod_eq_of_lt (by omega)] at e
  exact e
theorem lt_top {a k : Nat} (h : a ≤ top k) : a < 2 ^ k := by
  unfold top at h
  have : 1 ≤ 2 ^ k := Nat.one_le_two_pow
  omega
theorem part_bit {a k s i : Nat} (ha : a ≤ top k) (h : (a * 2 ^ s).testBit i = true) : s ≤ i ∧ i < s + k := by
  rw [Nat.testBit_mul_two_pow, Bool.and_eq_true, decide_eq_true_eq] at h
  refine ⟨h.1, ?_⟩
  apply Classical.byContradiction
  intro hn
  have := Nat.testBit_lt_two_pow (Nat.lt_of_lt_of_le (lt_top ha) (Nat.pow_le_pow_right (by decide : 0 < 2) (show k ≤ i - s by omega)))
  rw [this] at h
  exact absurd h.2 (by decide)
theorem parts_and {a b k s j t : Nat} (ha : a ≤ top k) (hb : b ≤ top j) (h : apart s k t j) : a * 2 ^ s &&& b * 2 ^ t = 0 := by
  apply Nat.eq_of_testBit_eq
  intro i
  rw [Nat.testBit_and, Nat.zero_testBit]
  cases h1 : (a * 2 ^ s).testBit i with
  | false => rfl
  | true =>
    cases h2 : (b * 2 ^ t).testBit i with
    | false => rfl
    | true =>
      have := part_bit ha h1
      have := part_bit hb h2
      unfold apart at h
      omega
theorem part_lt {a k s : Nat} (ha : a ≤ top k) (h : s + k ≤ 32) : a * 2 ^ s < 2 ^ 32 := by
  have h1 := lt_top ha
  have h2 : a * 2 ^ s < 2 ^ k * 2 ^ s := Nat.mul_lt_mul_of_pos_right h1 (Nat.two_pow_pos s)
  have h3 : 2 ^ k * 2 ^ s ≤ 2 ^ 32 := by rw [← Nat.pow_add]; exact Nat.pow_le_pow_right (by decide) (by omega)
  omega
/-- Three parts side by side. -/
def sumN (a b c s t u : Nat) : Nat := a * 2 ^ s + b * 2 ^ t + c * 2 ^ u
structure Three (k j l s t u n : Nat) : Prop where
  st : apart s k t j
  su : apart s k u l
  tu : apart t j u l
  hs : s + k ≤ n
  ht : t + j ≤ n
  hu : u + l ≤ n
  hn : n ≤ 32
theorem sum_or {a b c k j l s t u n : Nat} (H : Three k j l s t u n) (ha : a ≤ top k) (hb : b ≤ top j) (hc : c ≤ top l) : sumN a b c s t u = a * 2 ^ s ||| b * 2 ^ t ||| c * 2 ^ u := by
  have n1 := H.hn
  have l1 := part_lt (s := s) ha (by have := H.hs; omega)
  have l2 := part_lt (s := t) hb (by have := H.ht; omega)
  have l3 := part_lt (s := u) hc (by have := H.hu; omega)
  have e1 := add_or (show a * 2 ^ s < 2 ^ 62 by omega) (show b * 2 ^ t < 2 ^ 62 by omega) (parts_and ha hb H.st)
  unfold sumN
  rw [e1]
  refine add_or (by rw [← e1]; omega) (by omega) ?_
  rw [Nat.and_or_distrib_right, parts_and ha hc H.su, parts_and hb hc H.tu]
  rfl
theorem sum_lt {a b c k j l s t u n : Nat} (H : Three k j l s t u n) (ha : a ≤ top k) (hb : b ≤ top j) (hc : c ≤ top l) : sumN a b c s t u < 2 ^ n := by
  rw [sum_or H ha hb hc]
  have f : ∀ {a k s : Nat}, a ≤ top k → s + k ≤ n → a * 2 ^ s < 2 ^ n := fun {a k s} ha h => by
    have h1 := lt_top ha
    have h2 : a * 2 ^ s < 2 ^ k * 2 ^ s := Nat.mul_lt_mul_of_pos_right h1 (Nat.two_pow_pos s)
    have h3 : 2 ^ k * 2 ^ s ≤ 2 ^ n := by rw [← Nat.pow_add]; exact Nat.pow_le_pow_right (by decide) (by omega)
    omega
  exact Nat.or_lt_two_pow (Nat.or_lt_two_pow (f ha H.hs) (f hb H.ht)) (f hc H.hu)
/-- A part of a value. -/
def getN (v k s : Nat) : Nat := v / 2 ^ s % 2 ^ k
theorem get_bit (v k s i : Nat) : (getN v k s).testBit i = (decide (i < k) && v.testBit (s + i)) := by
  unfold getN
  rw [Nat.testBit_mod_two_pow, Nat.testBit_div_two_pow, Nat.add_comm]
theorem get_le (v k s : Nat) : getN v k s ≤ top k := by
  unfold getN top
  have := Nat.mod_lt (v / 2 ^ s) (Nat.two_pow_pos k)
  omega
theorem get_own {a k s : Nat} (ha : a ≤ top k) : getN (a * 2 ^ s) k s = a := by
  unfold getN
  rw [Nat.mul_div_cancel _ (Nat.two_pow_pos s), Nat.mod_eq_of_lt (lt_top ha)]
theorem get_other {b k s j t : Nat} (hb : b ≤ top j) (h : apart s k t j) : getN (b * 2 ^ t) k s = 0 := by
  apply Nat.eq_of_testBit_eq
  intro i
  rw [get_bit, Nat.zero_testBit]
  cases h1 : (b * 2 ^ t).testBit (s + i) with
  | false => simp
  | true =>
    have := part_bit hb h1
    unfold apart at h
    simp
    omega
theorem get_or (v w k s : Nat) : getN (v ||| w) k s = getN v k s ||| getN w k s := by
  apply Nat.eq_of_testBit_eq
  intro i
  rw [get_bit, Nat.testBit_or, Nat.testBit_or, get_bit, get_bit]
  cases decide (i < k) <;> simp
theorem apart_comm {s k t j : Nat} (h : apart s k t j) : apart t j s k := by unfold apart at *; omega
theorem sum_get {a b c k j l s t u n : Nat} (H : Three k j l s t u n) (ha : a ≤ top k) (hb : b ≤ top j) (hc : c ≤ top l) : getN (sumN a b c s t u) k s = a ∧ getN (sumN a b c s t u) j t = b ∧ getN (sumN a b c s t u) l u = c := by
  rw [sum_or H ha hb hc]
  refine ⟨?_, ?_, ?_⟩
  · rw [get_or, get_or, get_own ha, get_other hb H.st, get_other hc H.su]; simp
  · rw [get_or, get_or, get_own hb, get_other ha (apart_comm H.st), get_other hc H.tu]; simp
  · rw [get_or, get_or, get_own hc, get_other ha (apart_comm H.su), get_other hb (apart_comm H.tu)]; simp

/-- The bits of three parts. -/
def maskN (k j l s t u : Nat) : Nat := top k * 2 ^ s ||| top j * 2 ^ t ||| top l * 2 ^ u
theorem mask_sum {k j l s t u n : Nat} (H : Three k j l s t u n) : maskN k j l s t u = sumN (top k) (top j) (top l) s t u :=
  (sum_or H (Nat.le_refl _) (Nat.le_refl _) (Nat.le_refl _)).symm
theorem part_in {a k s : Nat} (ha : a ≤ top k) : a * 2 ^ s &&& top k * 2 ^ s = a * 2 ^ s := by
  apply Nat.eq_of_testBit_eq
  intro i
  rw [Nat.testBit_and, mask_bit]
  cases h1 : (a * 2 ^ s).testBit i with
  | false => rfl
  | true =>
    have := part_bit ha h1
    simp
    omega
theorem sum_in {a b c k j l s t u n : Nat} (H : Three k j l s t u n) (ha : a ≤ top k) (hb : b ≤ top j) (hc : c ≤ top l) : sumN a b c s t u &&& maskN k j l s t u = sumN a b c s t u := by
  rw [sum_or H ha hb hc]
  unfold maskN
  apply Nat.eq_of_testBit_eq
  intro i
  have e1 := congrArg (fun x => Nat.testBit x i) (part_in (s := s) ha)
  have e2 := congrArg (fun x => Nat.testBit x i) (part_in (s := t) hb)
  have e3 := congrArg (fun x => Nat.testBit x i) (part_in (s := u) hc)
  simp only [Nat.testBit_and, Nat.testBit_or] at *
  generalize (a * 2 ^ s).testBit i = x1 at *
  generalize (b * 2 ^ t).testBit i = x2 at *
  generalize (c * 2 ^ u).testBit i = x3 at *
  generalize (top k * 2 ^ s).testBit i = y1 at *
  generalize (top j * 2 ^ t).testBit i = y2 at *
  generalize (top l * 2 ^ u).testBit i = y3 at *
  cases x1 <;> cases x2 <;> cases x3 <;> cases y1 <;> cases y2 <;> cases y3 <;> simp_all
theorem sum_le_mask {a b c k j l s t u n : Nat} (H : Three k j l s t u n) (ha : a ≤ top k) (hb : b ≤ top j) (hc : c ≤ top l) : sumN a b c s t u ≤ maskN k j l s t u := by
  rw [← sum_in H ha hb hc]; exact Nat.and_le_right
theorem sum_low {a b c k j l s t u n : Nat} (H : Three k j l s t u n) (ha : a ≤ top k) (hb : b ≤ top j) (hc : c ≤ top l) (h : maskN k j l s t u % 2 ^ 8 = 0) : sumN a b c s t u % 2 ^ 8 = 0 := by
  rw [← sum_in H ha hb hc, Nat.and_mod_two_pow, h, Nat.and_zero]
/-- What is within the bits of three parts is their sum. -/
theorem of_mask {V k j l s t u n : Nat} (H : Three k j l s t u n) (h : V &&& maskN k j l s t u = V) : V = sumN (getN V k s) (getN V j t) (getN V l u) s t u := by
  rw [sum_or H (get_le _ _ _) (get_le _ _ _) (get_le _ _ _)]
  apply Nat.eq_of_testBit_eq
  intro i
  have e := congrArg (fun x => Nat.testBit x i) h
  unfold maskN at e
  have g : ∀ k s, (getN V k s * 2 ^ s).testBit i = (decide (s ≤ i) && decide (i - s < k) && V.testBit i) := fun k s => by
    rw [Nat.testBit_mul_two_pow, get_bit]
    by_cases hs : s ≤ i
    · rw [show s + (i - s) = i by omega]; simp [hs]
    · simp [hs]
  simp only [Nat.testBit_and, Nat.testBit_or, mask_bit] at e
  rw [Nat.testBit_or, Nat.testBit_or, g, g, g]
  generalize (decide (s ≤ i) && decide (i - s < k)) = y1 at *
  generalize (decide (t ≤ i) && decide (i - t < j)) = y2 at *
  generalize (decide (u ≤ i) && decide (i - u < l)) = y3 at *
  clear g h
  generalize V.testBit i = x at *
  cases x <;> cases y1 <;> cases y2 <;> cases y3 <;> simp_all
/-- A colour of three parts. -/
def colN (a b c : Nat) : Nat := a * 65536 + b * 256 + c
theorem col_parts {a b c : Nat} (ha : a ≤ 255) (hb : b ≤ 255) (hc : c ≤ 255) : colN a b c / 65536 % 256 = a ∧ colN a b c / 256 % 256 = b ∧ colN a b c % 256 = c ∧ colN a b c ≤ 16777215 := by unfold colN; omega
theorem col_own {x : Nat} (h : x ≤ 16777215) : colN (x / 65536 % 256) (x / 256 % 256) (x % 256) = x := by unfold colN; omega

/-- The value of a colour, the colour of a value. -/
def valueN (k j l s t u c : Nat) : Nat := sumN (downN (c / 65536 % 256) (top k)) (downN (c / 256 % 256) (top j)) (downN (c % 256) (top l)) s t u
def colourN (k j l s t u v : Nat) : Nat := colN (upN (getN v k s) (top k)) (upN (getN v j t) (top j)) (upN (getN v l u) (top l))
theorem colour_le {k j l s t u v : Nat} (hk : 1 ≤ k) (hj : 1 ≤ j) (hl : 1 ≤ l) : colourN k j l s t u v ≤ 16777215 :=
  (col_parts (up_le (get_le v k s) (top_pos hk)) (up_le (get_le v j t) (top_pos hj)) (up_le (get_le v l u) (top_pos hl))).2.2.2
theorem quant_eq {k j l s t u n : Nat} (H : Three k j l s t u n) (c : Nat) : colourN k j l s t u (valueN k j l s t u c) = colN (leftN (c / 65536 % 256) (top k)) (leftN (c / 256 % 256) (top j)) (leftN (c % 256) (top l)) := by
  obtain ⟨g1, g2, g3⟩ := sum_get H (a := downN (c / 65536 % 256) (top k)) (b := downN (c / 256 % 256) (top j)) (c := downN (c % 256) (top l)) (down_le (by omega)) (down_le (by omega)) (down_le (by omega))
  unfold colourN valueN
  rw [g1, g2, g3]; rfl
/-- What is left, twice, is as once. -/
theorem quant_quant {k j l s t u n : Nat} (H : Three k j l s t u n) (hk : 1 ≤ k ∧ k ≤ 16) (hj : 1 ≤ j ∧ j ≤ 16) (hl : 1 ≤ l ∧ l ≤ 16) (c : Nat) :
    colourN k j l s t u (valueN k j l s t u (colourN k j l s t u (valueN k j l s t u c))) = colourN k j l s t u (valueN k j l s t u c) := by
  rw [quant_eq H, quant_eq H]
  have up : ∀ {k x}, 1 ≤ k → leftN (x % 256) (top k) ≤ 255 := fun {k x} h => up_le (down_le (by omega)) (top_pos h)
  obtain ⟨p1, p2, p3, _⟩ := col_parts (a := leftN (c / 65536 % 256) (top k)) (b := leftN (c / 256 % 256) (top j)) (c := leftN (c % 256) (top l)) (up hk.1) (up hj.1) (up hl.1)
  rw [p1, p2, p3, left_left hk (by omega), left_left hj (by omega), left_left hl (by omega)]
theorem quant_same {k j l s t u n : Nat} (H : Three k j l s t u n) (hk : 8 ≤ k ∧ k ≤ 16) (hj : 8 ≤ j ∧ j ≤ 16) (hl : 8 ≤ l ∧ l ≤ 16) {c : Nat} (hc : c ≤ 16777215) : colourN k j l s t u (valueN k j l s t u c) = c := by
  rw [quant_eq H, left_same hk (by omega), left_same hj (by omega), left_same hl (by omega), col_own hc]
/-- A value of parts up to 255 leads back to itself. -/
theorem value_colour {k j l s t u n : Nat} (H : Three k j l s t u n) (hk : 1 ≤ k ∧ k ≤ 8) (hj : 1 ≤ j ∧ j ≤ 8) (hl : 1 ≤ l ∧ l ≤ 8) {v : Nat} (hv : v &&& maskN k j l s t u = v) : valueN k j l s t u (colourN k j l s t u v) = v := by
  obtain ⟨p1, p2, p3, _⟩ := col_parts (up_le (get_le v k s) (top_pos hk.1)) (up_le (get_le v j t) (top_pos hj.1)) (up_le (get_le v l u) (top_pos hl.1))
  unfold valueN
  show sumN (downN (colN _ _ _ / 65536 % 256) _) (downN (colN _ _ _ / 256 % 256) _) (downN (colN _ _ _ % 256) _) s t u = v
  rw [p1, p2, p3, down_up hk (get_le _ _ _), down_up hj (get_le _ _ _), down_up hl (get_le _ _ _)]
  exact (of_mask H hv).symm
end Go.Proofs.Ytmjjbapahgejmaa.Fmt
namespace Go.Proofs.Ytmjjbapahgejmaa.Fmt
set_option linter.unusedVariables false

/-- May a part be? -/
def partB (bits m s : Int) : Bool := decide (0 < width m ∧ 0 ≤ s ∧ s ≤ 32 ∧ s + width m ≤ bits)
/-- A format. -/
structure Fm where
  B : Int
  D : Int
  big : Bool
  tr : Bool
  rm : Int
  gm : Int
  bm : Int
  rs : Int
  gs : Int
  bs : Int
def Fm.v (f : Fm) : Value := .agg #[.int .i64 f.B, .int .i64 f.D, .bool f.big, .bool f.tr, .int .i64 f.rm, .int .i64 f.gm, .int .i64 f.bm, .int .i64 f.rs, .int .i64 f.gs, .int .i64 f.bs]
def Fm.zero : Fm := ⟨0, 0, false, false, 0, 0, 0, 0, 0, 0⟩
/-- All numbers are an int's. -/
structure Fm.Wf (f : Fm) : Prop where
  B : (Lit.int .i64 f.B).wf = true
  D : (Lit.int .i64 f.D).wf = true
  rm : (Lit.int .i64 f.rm).wf = true
  gm : (Lit.int .i64 f.gm).wf = true
  bm : (Lit.int .i64 f.bm).wf = true
  rs : (Lit.int .i64 f.rs).wf = true
  gs : (Lit.int .i64 f.gs).wf = true
  bs : (Lit.int .i64 f.bs).wf = true
instance (s k t j : Nat) : Decidable (apart s k t j) := inferInstanceAs (Decidable (s + k ≤ t ∨ t + j ≤ s))
def Fm.side (f : Fm) : Bool := decide (apart f.rs.toNat (width f.rm) f.gs.toNat (width f.gm) ∧ apart f.rs.toNat (width f.rm) f.bs.toNat (width f.bm) ∧ apart f.gs.toNat (width f.gm) f.bs.toNat (width f.bm))
def Fm.head (f : Fm) : Bool := decide ((f.B = 8 ∨ f.B = 16 ∨ f.B = 32) ∧ 1 ≤ f.D ∧ f.D ≤ f.B ∧ f.tr = true)
/-- May it be? -/
def Fm.ok (f : Fm) : Bool := f.head && (partB f.B f.rm f.rs && partB f.B f.gm f.gs && partB f.B f.bm f.bs) && f.side
theorem part_spec {b m s : Int} (h : partB b m s = true) : ∃ k j : Nat, (1 ≤ k ∧ k ≤ 16) ∧ m = (top k : Nat) ∧ s = (j : Nat) ∧ width m = k ∧ j ≤ 32 ∧ (j + k : Nat) ≤ b := by
  unfold partB at h
  obtain ⟨h1, h2, h3, h4⟩ := of_decide_eq_true h
  obtain ⟨w1, w2, w3⟩ := width_spec h1
  exact ⟨width m, s.toNat, ⟨w1, w2⟩, w3, by omega, rfl, by omega, by omega⟩
/-- What is known of a format that may be. -/
structure Fm.Is (f : Fm) (k j l s t u n : Nat) : Prop where
  hk : 1 ≤ k ∧ k ≤ 16
  hj : 1 ≤ j ∧ j ≤ 16
  hl : 1 ≤ l ∧ l ≤ 16
  rm : f.rm = (top k : Nat)
  gm : f.gm = (top j : Nat)
  bm : f.bm = (top l : Nat)
  rs : f.rs = (s : Nat)
  gs : f.gs = (t : Nat)
  bs : f.bs = (u : Nat)
  B : f.B = (n : Nat)
  hn : n = 8 ∨ n = 16 ∨ n = 32
  D : 1 ≤ f.D ∧ f.D ≤ f.B
  tr : f.tr = true
  three : Three k j l s t u n
theorem Fm.is {f : Fm} (h : f.ok = true) : ∃ k j l s t u n, f.Is k j l s t u n := by
  unfold Fm.ok at h
  simp only [Bool.and_eq_true] at h
  obtain ⟨⟨h0, ⟨h1, h2⟩, h3⟩, h4⟩ := h
  unfold Fm.head at h0
  unfold Fm.side at h4
  have h0 := of_decide_eq_true h0
  have h4 := of_decide_eq_true h4
  obtain ⟨k, s, hk, rm, rs, wk, _, ks⟩ := part_spec h1
  obtain ⟨j, t, hj, gm, gs, wj, _, jt⟩ := part_spec h2
  obtain ⟨l, u, hl, bm, bs, wl, _, lu⟩ := part_spec h3
  rw [wk, wj, wl, rs, gs, bs] at h4
  simp only [Int.toNat_natCast] at h4
  refine ⟨k, j, l, s, t, u, f.B.toNat, hk, hj, hl, rm, gm, bm, rs, gs, bs, by omega, by omega, h0.2.1 |> fun a => ⟨a, h0.2.2.1⟩, h0.2.2.2, ?_⟩
  exact ⟨h4.1, h4.2.1, h4.2.2, by omega, by omega, by omega, by omega⟩
end Go.Proofs.Ytmjjbapahgejmaa.Fmt
namespace Go.Proofs.Ytmjjbapahgejmaa.Fmt
open Go.ChangeShapes Go.WideShapes Go.ChangeAt Go.RowKit
set_option linter.unusedVariables false
set_option maxRecDepth 100000

theorem retI {k : IntKind} {a b : Int} (h : a = b) : Ending.returned (Value.int k a) = Ending.returned (.int k b) := by rw [h]
theorem retB {a b : Bool} (h : a = b) : Ending.returned (Value.bool a) = Ending.returned (.bool b) := by rw [h]

theorem width_not {m : Int} (h : ∀ k, 1 ≤ k → k ≤ 16 → m ≠ (top k : Nat)) : width m = 0 := by
  apply Classical.byContradiction
  intro hn
  obtain ⟨h1, h2, h3⟩ := width_spec (m := m) (by omega)
  exact h _ h1 h2 h3
set_option maxHeartbeats 1000000 in
theorem refWidth_any (m : Int) (hm : (Lit.int .i64 m).wf = true) (w : World) :
    Calls Try.prog 90 #[.int .i64 m] w fun e w' => e = .returned (.int .i64 (width m)) ∧ w = w' := by
  clear hm
  go_enter Try.func90, Try.ntmps90
  go_wp2_with fail
  go_loop [3, 4] (fun p k => ∃ j : Nat, 1 ≤ j ∧ j ≤ 17 ∧ k = .int .i64 j ∧ p = .int .i64 (2 ^ (j - 1) : Nat) ∧ ∀ i, 1 ≤ i → i < j → m ≠ (top i : Nat)) (fun _ k => 17 - (intOf k).toNat)
  case atStart => exact ⟨1, by omega, by omega, rfl, rfl, fun i h1 h2 => by omega⟩
  case round =>
    obtain ⟨j, j1, j2, rfl, rfl, hn⟩ := hrel
    have HN := Lib.hid hn
    clear hn
    by_cases hj : j ≤ 16
    · have hp : 2 ^ (j - 1) ≤ 32768 := Nat.le_trans (Nat.pow_le_pow_right (by decide) (show j - 1 ≤ 15 by omega)) (by decide)
      have hq : 2 ^ (j - 1) * 2 = 2 ^ j := by rw [← Nat.pow_succ]; congr 1; omega
      have ht : (top j : Nat) = 2 ^ (j - 1) * 2 - 1 := by unfold top; rw [hq]
      have HQ := Lib.hid hq
      have HTP := Lib.hid ht
      have hp0 : 1 ≤ 2 ^ (j - 1) := Nat.one_le_two_pow
      clear hq ht
      have dj : decide ((j : Int) ≤ 16) = true := decide_eq_true (by omega)
      have dj' : decide (j ≤ 16) = true := decide_eq_true hj
      generalize 2 ^ (j - 1) = P at *
      by_cases he : m = (P : Int) * 2 - 1
      · have hw : width m = j := by
          have : m = (top j : Nat) := by rw [HTP.out]; omega
          rw [this]; exact width_top ⟨j1, hj⟩
        have de : (m == (P : Int) * 2 - 1) = true := by simpa using he
        have HW := Lib.hid hw
        clear hw he
        go_wp2_with fail
        go_ret
        exact ⟨retI (by rw [HW.out]), rfl⟩
      · have de : (m == (P : Int) * 2 - 1) = false := by simpa using he
        have hne : m ≠ (top j : Nat) := by rw [HTP.out]; omega
        have HE := Lib.hid hne
        clear he hne
        go_wp2_with fail
        refine ⟨⟨j + 1, by omega, by omega, by go_num, ?_, fun i h1 h2 => ?_⟩, by simp [intOf]; omega⟩
        · rw [Nat.add_sub_cancel, ← HQ.out]; go_num
        · by_cases hij : i = j
          · subst hij; exact HE.out
          · exact HN.out i h1 (by omega)
    · obtain rfl : j = 17 := by omega
      have hw : width m = 0 := width_not fun k h1 h2 => HN.out k h1 (by omega)
      have HW := Lib.hid hw
      clear hw
      go_wp2_with fail
      go_ret
      exact ⟨retI (by rw [HW.out]; rfl), rfl⟩

theorem pow_int {s : Nat} (hs : s ≤ 32) : ∃ P : Nat, (2 : Int) ^ s = P ∧ P = 2 ^ s ∧ 1 ≤ P ∧ P ≤ 4294967296 := by
  have h1 : 2 ^ s ≤ 2 ^ 32 := Nat.pow_le_pow_right (by decide) hs
  have h2 : (2 : Nat) ^ 32 = 4294967296 := by decide
  rw [h2] at h1
  exact ⟨2 ^ s, by simp, rfl, Nat.one_le_two_pow, h1⟩
theorem mul_small {a P : Nat} (ha : a ≤ 65535) (hP : P ≤ 4294967296) : a * P ≤ 281474976710656 := Nat.le_trans (Nat.mul_le_mul ha hP) (by decide)
theorem refMask_any (a s : Nat) (ha : a ≤ 65535) (hs : s ≤ 32) (w : World) :
    Calls Try.prog 67 #[.int .i64 a, .int .i64 s] w fun e w' => e = .returned (.int .i64 (a * 2 ^ s : Nat)) ∧ w = w' := by
  obtain ⟨P, hP, hP2, hP3, hP4⟩ := pow_int hs
  rw [← hP2]
  have hm := mul_small ha hP4
  have HW2 := Lib.hid hm
  clear hP2 hm
  go_enter Try.func67, Try.ntmps67
  go_wp2_with fail
  go_ret
  exact ⟨retI ((IntWalk.wrap64_in _ (by rw [← Int.natCast_mul]; have := HW2.out; omega)).trans (by rw [← Int.natCast_mul])), rfl⟩

theorem refPart_any (bits m s : Int) (hb : (Lit.int .i64 bits).wf = true) (hm : (Lit.int .i64 m).wf = true) (hs : (Lit.int .i64 s).wf = true) (w : World) :
    Calls Try.prog 66 #[.int .i64 bits, .int .i64 m, .int .i64 s] w fun e w' => e = .returned (.bool (partB bits m s)) ∧ w = w' := by
  have W := Lib.hid (refWidth_any m hm w)
  have hw : width m ≤ 16 := by
    by_cases h : 0 < width m
    · exact (width_spec h).2.1
    · omega
  unfold partB
  clear hb hm hs
  generalize width m = k at *
  by_cases h1 : 0 < k
  · have d1 : decide ((0 : Int) < k) = true := decide_eq_true (by omega)
    have d1' : decide (0 < k) = true := decide_eq_true h1
    by_cases h2 : 0 ≤ s
    · have d2 : decide (0 ≤ s) = true := decide_eq_true h2
      by_cases h3 : s ≤ 32
      · have d3 : decide (s ≤ 32) = true := decide_eq_true h3
        go_enter Try.func66, Try.ntmps66
        go_wp2_with fail
        refine W.out.mono ?_
        rintro r w' ⟨rfl, rfl⟩
        go_wp2_with fail
        go_ret
        exact ⟨retB (decide_eq_decide.2 (by omega)), rfl⟩
      · have d3 : decide (s ≤ 32) = false := decide_eq_false h3
        go_enter Try.func66, Try.ntmps66
        go_wp2_with fail
        refine W.out.mono ?_
        rintro r w' ⟨rfl, rfl⟩
        go_wp2_with fail
        go_ret
        exact ⟨retB (decide_eq_false (by omega)).symm, rfl⟩
    · have d2 : decide (0 ≤ s) = false := decide_eq_false h2
      go_enter Try.func66, Try.ntmps66
      go_wp2_with fail
      refine W.out.mono ?_
      rintro r w' ⟨rfl, rfl⟩
      go_wp2_with fail
      go_ret
      exact ⟨retB (decide_eq_false (by omega)).symm, rfl⟩
  · have d1 : decide ((0 : Int) < k) = false := decide_eq_false (by omega)
    have d1' : decide (0 < k) = false := decide_eq_false h1
    go_enter Try.func66, Try.ntmps66
    go_wp2_with fail
    refine W.out.mono ?_
    rintro r w' ⟨rfl, rfl⟩
    go_wp2_with fail
    go_ret
    exact ⟨retB (decide_eq_false (by omega)).symm, rfl⟩

theorem refDown_any (p a s : Nat) (hp : p ≤ 255) (ha : a ≤ 65535) (hs : s ≤ 32) (w : World) :
    Calls Try.prog 86 #[.int .i64 p, .int .i64 a, .int .i64 s] w fun e w' => e = .returned (.int .i64 (downN p a * 2 ^ s : Nat)) ∧ w = w' := by
  obtain ⟨P, hP, hP2, hP3, hP4⟩ := pow_int hs
  rw [← hP2]
  have hd := down_le (m := a) hp
  have hm := mul_small (show downN p a ≤ 65535 by omega) hP4
  have hpa : p * a ≤ 255 * 65535 := Nat.mul_le_mul hp ha
  obtain ⟨X, hX⟩ : ∃ X, p * a = X := ⟨_, rfl⟩
  have hXi : (p : Int) * a = X := by rw [← hX]; simp
  have hdn : downN p a = (X + 127) / 255 := by unfold downN; rw [hX]
  rw [hX] at hpa
  clear hX hP2
  go_enter Try.func86, Try.ntmps86
  go_wp2_with fail
  go_ret
  refine ⟨retI ?_, rfl⟩
  rw [show ((X : Int) + 127) / 255 = (downN p a : Nat) by rw [hdn]; simp, ← Int.natCast_mul]
  exact IntWalk.wrap64_in _ (by omega)

/-- A part of any number. -/
def getZ (v : Int) (k s : Nat) : Nat := (v / 2 ^ s % 2 ^ k).toNat
theorem getZ_nat (v k s : Nat) : getZ (v : Int) k s = getN v k s := by
  unfold getZ getN
  have e : (v : Int) / 2 ^ s % 2 ^ k = ((v / 2 ^ s % 2 ^ k : Nat) : Int) := by simp
  rw [e, Int.toNat_natCast]
theorem getZ_le (v : Int) (k s : Nat) : getZ v k s ≤ top k := by
  unfold getZ top
  have h1 : v / 2 ^ s % 2 ^ k < 2 ^ k := Int.emod_lt_of_pos _ (Int.pow_pos (by decide))
  have h2 : 0 ≤ v / 2 ^ s % 2 ^ k := Int.emod_nonneg _ (Int.ne_of_gt (Int.pow_pos (by decide)))
  have e : ((2 ^ k : Nat) : Int) = 2 ^ k := by simp
  have := Nat.one_le_two_pow (n := k)
  omega
theorem refUp_any (v : Int) (k s : Nat) (hk : 1 ≤ k ∧ k ≤ 16) (hs : s ≤ 32) (w : World) :
    Calls Try.prog 98 #[.int .i64 v, .int .i64 (top k : Nat), .int .i64 s] w fun e w' => e = .returned (.int .i64 (upN (getZ v k s) (top k) : Nat)) ∧ w = w' := by
  obtain ⟨P, hP, hP2, hP3, hP4⟩ := pow_int hs
  have hg := getZ_le v k s
  have ht : top k ≤ 65535 := by
    have : ∀ k, k < 17 → top k ≤ 65535 := by decide
    exact this k (by omega)
  have ht1 := top_pos hk.1
  have hm : bits .and .i64 (v / P) (top k : Nat) = (getZ v k s : Nat) := by
    have h1 : ((top k : Nat) : Int) = 2 ^ k - 1 := by
      unfold top
      have := Nat.one_le_two_pow (n := k)
      have e : ((2 ^ k : Nat) : Int) = 2 ^ k := by simp
      omega
    rw [h1, Bit.i64_mask _ k (by omega)]
    unfold getZ
    rw [← hP]
    have : 0 ≤ v / 2 ^ s % 2 ^ k := Int.emod_nonneg _ (Int.ne_of_gt (Int.pow_pos (by decide)))
    omega
  have hu : upN (getZ v k s) (top k) = (getZ v k s * 255 + top k / 2) / top k := rfl
  clear hP2
  generalize getZ v k s = g at *
  generalize top k = T at *
  obtain ⟨h2, hh⟩ : ∃ h2, T / 2 = h2 := ⟨_, rfl⟩
  rw [hh] at hu
  have hh2 : (T : Int) / 2 = h2 := by omega
  have HU := Lib.hid hu
  clear hu hh
  go_enter Try.func98, Try.ntmps98
  go_wp2_with fail
  go_ret
  exact ⟨retI (by rw [HU.out]; simp), rfl⟩

/-- A format as a value. -/
def fmtV (B D : Int) (big tr : Bool) (rm gm bm rs gs bs : Int) : Value := .agg #[.int .i64 B, .int .i64 D, .bool big, .bool tr, .int .i64 rm, .int .i64 gm, .int .i64 bm, .int .i64 rs, .int .i64 gs, .int .i64 bs]
/-- A colour's lowest 24 bits. -/
def colZ (n : Int) : Nat := (n % 16777216).toNat
theorem colZ_parts (n : Int) : bits .and .i64 (n / 65536) 255 = (colZ n / 65536 % 256 : Nat) ∧ bits .and .i64 (n / 256) 255 = (colZ n / 256 % 256 : Nat) ∧ bits .and .i64 n 255 = (colZ n % 256 : Nat) := by
  have h : ∀ x : Int, bits .and .i64 x 255 = x % 256 := fun x => Bit.i64_mask x 8 (by decide)
  rw [h, h, h]
  unfold colZ
  omega
theorem byte_le (x : Nat) : x % 256 ≤ 255 := by omega
theorem alloc_size (w : World) (o : Obj) : (w.alloc o).heap.size = w.heap.size + 1 := by simp [World.alloc, -World.alloc_eq]
theorem box1 (w : World) (x : Array Value) (T : TypeId) : Below w.heap.size w (w.alloc (.cells x T)) ∧ ∀ i v, x[i]? = some v → (w.alloc (.cells x T)).cell? ⟨w.heap.size, i, none⟩ = some v := by
  refine ⟨(Below.refl _ w).alloc (Nat.le_refl _) _, fun i v h => ?_⟩
  have := heap_alloc_new w (.cells x T)
  simp only [World.cell?, this]
  simpa using h
theorem below_q {B : Nat} {w w' : World} (h : Below B w w') (n : Nat) : Below B w (w'.drewN n) := ⟨h.os, h.tape, h.output, h.size, h.block⟩

set_option maxHeartbeats 800000 in
theorem refValue_any (B D : Int) (big tr : Bool) (k j l s t u : Nat) (n : Int) (hk : 1 ≤ k ∧ k ≤ 16) (hj : 1 ≤ j ∧ j ≤ 16) (hl : 1 ≤ l ∧ l ≤ 16) (N : Nat) (H : Three k j l s t u N) (w : World) :
    Calls Try.prog 63 #[.agg #[.int .i64 B, .int .i64 D, .bool big, .bool tr, .int .i64 (top k : Nat), .int .i64 (top j : Nat), .int .i64 (top l : Nat), .int .i64 s, .int .i64 t, .int .i64 u], .int .i64 n] w fun e w' =>
      e = .returned (.int .i64 (valueN k j l s t u (colZ n) : Nat)) ∧ Below w.heap.size w w' := by
  have htop : ∀ k, k < 17 → top k ≤ 65535 := by decide
  have t1 := htop k (by omega)
  have t2 := htop j (by omega)
  have t3 := htop l (by omega)
  have hN := H.hn
  have s1 : s ≤ 32 := by have := H.hs; omega
  have s2 : t ≤ 32 := by have := H.ht; omega
  have s3 : u ≤ 32 := by have := H.hu; omega
  obtain ⟨q1, q2, q3⟩ := colZ_parts n
  have hlt := sum_lt H (a := downN (colZ n / 65536 % 256) (top k)) (b := downN (colZ n / 256 % 256) (top j)) (c := downN (colZ n % 256) (top l)) (down_le (byte_le _)) (down_le (byte_le _)) (down_le (byte_le _))
  have hlt2 : sumN (downN (colZ n / 65536 % 256) (top k)) (downN (colZ n / 256 % 256) (top j)) (downN (colZ n % 256) (top l)) s t u < 4294967296 := by
    have h1 : 2 ^ N ≤ 2 ^ 32 := Nat.pow_le_pow_right (by decide) hN
    have h2 : (2 : Nat) ^ 32 = 4294967296 := by decide
    rw [h2] at h1
    exact Nat.lt_of_lt_of_le hlt h1
  have hval : valueN k j l s t u (colZ n) = downN (colZ n / 65536 % 256) (top k) * 2 ^ s + downN (colZ n / 256 % 256) (top j) * 2 ^ t + downN (colZ n % 256) (top l) * 2 ^ u := rfl
  obtain ⟨w1, hw1⟩ : ∃ w1, w.alloc (.cells #[.int .i64 B, .int .i64 D, .bool big, .bool tr, .int .i64 (top k : Nat), .int .i64 (top j : Nat), .int .i64 (top l : Nat), .int .i64 s, .int .i64 t, .int .i64 u] 37) = w1 := ⟨_, rfl⟩
  obtain ⟨bel, kx⟩ := box1 w #[.int .i64 B, .int .i64 D, .bool big, .bool tr, .int .i64 (top k : Nat), .int .i64 (top j : Nat), .int .i64 (top l : Nat), .int .i64 s, .int .i64 t, .int .i64 u] 37
  rw [hw1] at bel kx
  have c4 := kx 4 (.int .i64 (top k : Nat)) rfl
  have c5 := kx 5 (.int .i64 (top j : Nat)) rfl
  have c6 := kx 6 (.int .i64 (top l : Nat)) rfl
  have c7 := kx 7 (.int .i64 s) rfl
  have c8 := kx 8 (.int .i64 t) rfl
  have c9 := kx 9 (.int .i64 u) rfl
  have F : ∀ (p a s : Nat) (hp : p ≤ 255) (ha : a ≤ 65535) (hs : s ≤ 32) (r : Nat), Calls Try.prog 86 #[.int .i64 p, .int .i64 a, .int .i64 s] (w1.drewN r) fun e w' => e = .returned (.int .i64 (downN p a * 2 ^ s : Nat)) ∧ ∃ n, w' = w1.drewN n := fun p a s hp ha hs r => (refDown_any p a s hp ha hs (w1.drewN r)).mono fun _ _ ⟨he, hm⟩ => ⟨he, r, hm.symm⟩
  have F1 := Lib.hid (F (colZ n / 65536 % 256) (top k) s (byte_le _) t1 s1)
  have F2 := Lib.hid (F (colZ n / 256 % 256) (top j) t (byte_le _) t2 s2)
  have F3 := Lib.hid (F (colZ n % 256) (top l) u (byte_le _) t3 s3)
  unfold sumN at hlt2
  clear F kx hlt
  generalize downN (colZ n / 65536 % 256) (top k) * 2 ^ s = x1 at *
  generalize downN (colZ n / 256 % 256) (top j) * 2 ^ t = x2 at *
  generalize downN (colZ n % 256) (top l) * 2 ^ u = x3 at *
  generalize colZ n / 65536 % 256 = p1 at *
  generalize colZ n / 256 % 256 = p2 at *
  generalize colZ n % 256 = p3 at *
  have HV := Lib.hid hval
  have y1 : IntKind.i64.wrap ((x1 : Int) + x2) = ((x1 + x2 : Nat) : Int) := by rw [← Int.natCast_add]; exact IntWalk.i64_in _ (by omega)
  have HY := Lib.hid (And.intro y1 hlt2)
  clear hval y1 htop hk hj hl H hN
  go_enter Try.func63, Try.ntmps63
  go_wp2_with fail
  go_quiet ((go_at_call 86; first | with_reducible exact F1.out _ | with_reducible exact F2.out _ | with_reducible exact F3.out _))
  go_wp2_with fail
  go_ret
  refine ⟨retI ?_, below_q bel _⟩
  have h := HY.out.2
  rw [HV.out]
  omega

/-- The colour of any number. -/
def colourZ (k j l s t u : Nat) (v : Int) : Nat := colN (upN (getZ v k s) (top k)) (upN (getZ v j t) (top j)) (upN (getZ v l u) (top l))
theorem colourZ_nat (k j l s t u v : Nat) : colourZ k j l s t u (v : Int) = colourN k j l s t u v := by unfold colourZ colourN; rw [getZ_nat, getZ_nat, getZ_nat]
set_option maxHeartbeats 800000 in
theorem refColour_any (B D : Int) (big tr : Bool) (k j l s t u : Nat) (n : Int) (hk : 1 ≤ k ∧ k ≤ 16) (hj : 1 ≤ j ∧ j ≤ 16) (hl : 1 ≤ l ∧ l ≤ 16) (N : Nat) (H : Three k j l s t u N) (w : World) :
    Calls Try.prog 77 #[.agg #[.int .i64 B, .int .i64 D, .bool big, .bool tr, .int .i64 (top k : Nat), .int .i64 (top j : Nat), .int .i64 (top l : Nat), .int .i64 s, .int .i64 t, .int .i64 u], .int .i64 n] w fun e w' =>
      e = .returned (.int .i64 (colourZ k j l s t u n : Nat)) ∧ Below w.heap.size w w' := by
  have hN := H.hn
  have s1 : s ≤ 32 := by have := H.hs; omega
  have s2 : t ≤ 32 := by have := H.ht; omega
  have s3 : u ≤ 32 := by have := H.hu; omega
  have u1 := up_le (getZ_le n k s) (top_pos hk.1)
  have u2 := up_le (getZ_le n j t) (top_pos hj.1)
  have u3 := up_le (getZ_le n l u) (top_pos hl.1)
  have hval : colourZ k j l s t u n = upN (getZ n k s) (top k) * 65536 + upN (getZ n j t) (top j) * 256 + upN (getZ n l u) (top l) := rfl
  obtain ⟨w1, hw1⟩ : ∃ w1, w.alloc (.cells #[.int .i64 B, .int .i64 D, .bool big, .bool tr, .int .i64 (top k : Nat), .int .i64 (top j : Nat), .int .i64 (top l : Nat), .int .i64 s, .int .i64 t, .int .i64 u] 37) = w1 := ⟨_, rfl⟩
  obtain ⟨bel, kx⟩ := box1 w #[.int .i64 B, .int .i64 D, .bool big, .bool tr, .int .i64 (top k : Nat), .int .i64 (top j : Nat), .int .i64 (top l : Nat), .int .i64 s, .int .i64 t, .int .i64 u] 37
  rw [hw1] at bel kx
  have c4 := kx 4 (.int .i64 (top k : Nat)) rfl
  have c5 := kx 5 (.int .i64 (top j : Nat)) rfl
  have c6 := kx 6 (.int .i64 (top l : Nat)) rfl
  have c7 := kx 7 (.int .i64 s) rfl
  have c8 := kx 8 (.int .i64 t) rfl
  have c9 := kx 9 (.int .i64 u) rfl
  have F : ∀ (k s : Nat) (hk : 1 ≤ k ∧ k ≤ 16) (hs : s ≤ 32) (r : Nat), Calls Try.prog 98 #[.int .i64 n, .int .i64 (top k : Nat), .int .i64 s] (w1.drewN r) fun e w' => e = .returned (.int .i64 (upN (getZ n k s) (top k) : Nat)) ∧ ∃ m, w' = w1.drewN m := fun k s hk hs r => (refUp_any n k s hk hs (w1.drewN r)).mono fun _ _ ⟨he, hm⟩ => ⟨he, r, hm.symm⟩
  have F1 := Lib.hid (F k s hk s1)
  have F2 := Lib.hid (F j t hj s2)
  have F3 := Lib.hid (F l u hl s3)
  clear F kx
  generalize upN (getZ n k s) (top k) = x1 at *
  generalize upN (getZ n j t) (top j) = x2 at *
  generalize upN (getZ n l u) (top l) = x3 at *
  have HV := Lib.hid hval
  clear hval hk hj hl H hN
  go_enter Try.func77, Try.ntmps77
  go_wp2_with fail
  go_quiet ((go_at_call 98; first | with_reducible exact F1.out _ | with_reducible exact F2.out _ | with_reducible exact F3.out _))
  go_wp2_with fail
  go_ret
  refine ⟨retI ?_, below_q bel _⟩
  rw [HV.out]
  omega
end Go.Proofs.Ytmjjbapahgejmaa.Fmt
namespace Go.Proofs.Ytmjjbapahgejmaa.Fmt
open Go.ChangeShapes Go.WideShapes Go.ChangeAt Go.RowKit
set_option linter.unusedVariables false
set_option maxRecDepth 100000

theorem i64_and (a b : Nat) (ha : a < 2 ^ 62) (hb : b < 2 ^ 62) : bits .and .i64 (a : Int) (b : Int) = ((a &&& b : Nat) : Int) := by
  show IntKind.i64.wrap ((BitVec.ofInt 64 (a : Int) &&& BitVec.ofInt 64 (b : Int)).toNat : Int) = _
  rw [BitVec.toNat_and, ofInt_u64 _ (by omega), ofInt_u64 _ (by omega)]
  have : a &&& b ≤ a := Nat.and_le_left
  exact IntWalk.i64_in _ (by omega)
theorem top_small {k : Nat} (hk : k ≤ 16) : top k ≤ 65535 := by
  have : ∀ k, k < 17 → top k ≤ 65535 := by decide
  exact this k (by omega)
theorem shl_small {k s : Nat} (hk : k ≤ 16) (hs : s ≤ 32) : top k * 2 ^ s < 2 ^ 62 := by
  have h1 := top_small hk
  have h2 : 2 ^ s ≤ 2 ^ 32 := Nat.pow_le_pow_right (by decide) hs
  have := Nat.mul_le_mul h1 h2
  omega

set_option maxHeartbeats 2000000 in
theorem refValid_any (f : Fm) (hf : f.Wf) (w : World) :
    Calls Try.prog 42 #[f.v] w fun e w' => e = .returned (.bool f.ok) ∧ Below w.heap.size w w' := by
  obtain ⟨B, D, big, tr, rm, gm, bm, rs, gs, bs⟩ := f
  obtain ⟨wB, wD, wrm, wgm, wbm, wrs, wgs, wbs⟩ := hf
  simp only at wB wD wrm wgm wbm wrs wgs wbs
  have P1 := Lib.hid (fun w => refPart_any B rm rs wB wrm wrs w)
  have P2 := Lib.hid (fun w => refPart_any B gm gs wB wgm wgs w)
  have P3 := Lib.hid (fun w => refPart_any B bm bs wB wbm wbs w)
  obtain ⟨hd, hhd⟩ : ∃ hd, (Fm.mk B D big tr rm gm bm rs gs bs).head = hd := ⟨_, rfl⟩
  have HH := Lib.hid hhd
  have HK : RowKit.Hid ((Fm.mk B D big tr rm gm bm rs gs bs).ok = (hd && (partB B rm rs && partB B gm gs && partB B bm bs) && (Fm.mk B D big tr rm gm bm rs gs bs).side)) := Lib.hid (by unfold Fm.ok; rw [hhd])
  generalize (Fm.mk B D big tr rm gm bm rs gs bs).ok = OK at *
  unfold Fm.v
  obtain ⟨w1, hw1⟩ : ∃ w1, w.alloc (.cells #[.int .i64 B, .int .i64 D, .bool big, .bool tr, .int .i64 rm, .int .i64 gm, .int .i64 bm, .int .i64 rs, .int .i64 gs, .int .i64 bs] 37) = w1 := ⟨_, rfl⟩
  obtain ⟨bel, kx⟩ := box1 w #[.int .i64 B, .int .i64 D, .bool big, .bool tr, .int .i64 rm, .int .i64 gm, .int .i64 bm, .int .i64 rs, .int .i64 gs, .int .i64 bs] 37
  rw [hw1] at bel kx
  have c0 := kx 0 _ rfl
  have c1 := kx 1 _ rfl
  have c3 := kx 3 _ rfl
  have c4 := kx 4 _ rfl
  have c5 := kx 5 _ rfl
  have c6 := kx 6 _ rfl
  have c7 := kx 7 _ rfl
  have c8 := kx 8 _ rfl
  have c9 := kx 9 _ rfl
  clear kx hhd wB wD wrm wgm wbm wrs wgs wbs
  go_enter Try.func42, Try.ntmps42
  go_upto_region 1 with fail
  go_cut [35] (fun o wx => w1 = wx ∧ o = .bool (!hd))
  case first =>
    clear HK P1 P2 P3
    have val : ∀ b : Bool, ((B = 8 ∨ B = 16 ∨ B = 32) ∧ 1 ≤ D ∧ D ≤ B ∧ tr = true ↔ b = true) → hd = b := fun b h => by
      rw [← HH.out]
      unfold Fm.head
      simp only
      rw [Bool.eq_iff_iff, decide_eq_true_eq]
      exact h
    have VAL := Lib.hid val
    clear val HH
    by_cases h : (B = 8 ∨ B = 16 ∨ B = 32)
    · have hb : (B != 8 && B != 16 && B != 32) = false := by
        rcases h with rfl | rfl | rfl <;> rfl
      by_cases h1 : 1 ≤ D
      · have d1 : decide (D < 1) = false := decide_eq_false (by omega)
        by_cases h2 : D ≤ B
        · have d2 : decide (B < D) = false := decide_eq_false (by omega)
          cases tr with
          | true =>
            have VV := VAL.out true (by simp [h, h1, h2])
            subst VV
            clear VAL
            rcases h with rfl | rfl | rfl
            all_goals
              go_wp2_with fail
              go_meet
              exact ⟨rfl, rfl⟩
          | false =>
            have VV := VAL.out false (by simp)
            subst VV
            clear VAL
            rcases h with rfl | rfl | rfl
            all_goals
              go_wp2_with fail
              go_meet
              exact ⟨rfl, rfl⟩
        · have d2 : decide (B < D) = true := decide_eq_true (by omega)
          have VV := VAL.out false (by simp [h2])
          subst VV
          clear VAL
          rcases h with rfl | rfl | rfl
          all_goals
            go_wp2_with fail
            go_meet
            exact ⟨rfl, rfl⟩
      · have d1 : decide (D < 1) = true := decide_eq_true (by omega)
        have VV := VAL.out false (by simp [h1])
        subst VV
        clear VAL
        rcases h with rfl | rfl | rfl
        all_goals
          go_wp2_with fail
          go_meet
          exact ⟨rfl, rfl⟩
    · have VV := VAL.out false (by simp [h])
      subst VV
      have b1 : (B == 8) = false := by simpa using fun e => h (.inl e)
      have b2 : (B == 16) = false := by simpa using fun e => h (.inr (.inl e))
      have b3 : (B == 32) = false := by simpa using fun e => h (.inr (.inr e))
      have b4 : (B != 8) = true := by simpa using fun e => h (.inl e)
      have b5 : (B != 16) = true := by simpa using fun e => h (.inr (.inl e))
      have b6 : (B != 32) = true := by simpa using fun e => h (.inr (.inr e))
      clear VAL h
      go_wp2_with fail
      go_meet
      exact ⟨rfl, rfl⟩
  case rest =>
  obtain ⟨rfl, rfl⟩ := hcut
  cases hd with
  | false =>
    clear P1 P2 P3 HH
    go_wp2_with fail
    go_ret
    exact ⟨retB (HK.out.trans (by simp)).symm, bel⟩
  | true =>
  have HS : RowKit.Hid (partB B rm rs = true → partB B gm gs = true → partB B bm bs = true → ∃ k j l s t u : Nat, (1 ≤ k ∧ k ≤ 16) ∧ (1 ≤ j ∧ j ≤ 16) ∧ (1 ≤ l ∧ l ≤ 16) ∧ s ≤ 32 ∧ t ≤ 32 ∧ u ≤ 32 ∧ rm = (top k : Nat) ∧ gm = (top j : Nat) ∧ bm = (top l : Nat) ∧ rs = (s : Nat) ∧ gs = (t : Nat) ∧ bs = (u : Nat) ∧
      (Fm.mk B D big tr rm gm bm rs gs bs).side = decide (apart s k t j ∧ apart s k u l ∧ apart t j u l)) := Lib.hid (by
    intro h1 h2 h3
    obtain ⟨k, s, hk, rm', rs', wk, s1, ks⟩ := part_spec h1
    obtain ⟨j, t, hj, gm', gs', wj, s2, jt⟩ := part_spec h2
    obtain ⟨l, u, hl, bm', bs', wl, s3, lu⟩ := part_spec h3
    refine ⟨k, j, l, s, t, u, hk, hj, hl, s1, s2, s3, rm', gm', bm', rs', gs', bs', ?_⟩
    unfold Fm.side
    simp only
    rw [wk, wj, wl, rs', gs', bs']
    rfl)
  clear HH
  generalize partB B rm rs = p1 at *
  generalize partB B gm gs = p2 at *
  generalize partB B bm bs = p3 at *
  go_wp2_with fail
  refine (P1.out _).mono ?_
  rintro r w' ⟨rfl, rfl⟩
  clear P1
  cases p1 with
  | false =>
    go_wp2_with fail
    go_ret
    exact ⟨retB (HK.out.trans (by simp)).symm, bel⟩
  | true =>
  go_wp2_with fail
  refine (P2.out _).mono ?_
  rintro r w' ⟨rfl, rfl⟩
  clear P2
  cases p2 with
  | false =>
    go_wp2_with fail
    go_ret
    exact ⟨retB (HK.out.trans (by simp)).symm, bel⟩
  | true =>
  go_wp2_with fail
  refine (P3.out _).mono ?_
  rintro r w' ⟨rfl, rfl⟩
  clear P3
  cases p3 with
  | false =>
    go_wp2_with fail
    go_ret
    exact ⟨retB (HK.out.trans (by simp)).symm, bel⟩
  | true =>
  obtain ⟨k, j, l, s, t, u, hk, hj, hl, s1, s2, s3, rfl, rfl, rfl, rfl, rfl, rfl, hside⟩ := HS.out (by simp) (by simp) (by simp)
  have hOK := HK.out
  rw [hside] at hOK
  have M1 := Lib.hid (fun w => refMask_any (top k) s (top_small hk.2) s1 w)
  have M2 := Lib.hid (fun w => refMask_any (top j) t (top_small hj.2) s2 w)
  have M3 := Lib.hid (fun w => refMask_any (top l) u (top_small hl.2) s3 w)
  have q1 := i64_and _ _ (shl_small hk.2 s1) (shl_small hj.2 s2)
  have q2 := i64_and _ _ (shl_small hk.2 s1) (shl_small hl.2 s3)
  have q3 := i64_and _ _ (shl_small hj.2 s2) (shl_small hl.2 s3)
  have z1 := and_zero (s := s) (t := t) hk.1 hj.1
  have z2 := and_zero (s := s) (t := u) hk.1 hl.1
  have z3 := and_zero (s := t) (t := u) hj.1 hl.1
  have HO := Lib.hid (show OK = decide (top k * 2 ^ s &&& top j * 2 ^ t = 0 ∧ top k * 2 ^ s &&& top l * 2 ^ u = 0 ∧ top j * 2 ^ t &&& top l * 2 ^ u = 0) from hOK.trans (by
    show decide _ = decide _
    exact decide_eq_decide.2 (by rw [z1, z2, z3])))
  clear HS HK hside hOK z1 z2 z3 hk hj hl
  generalize top k * 2 ^ s = X at *
  generalize top j * 2 ^ t = Y at *
  generalize top l * 2 ^ u = Z at *
  generalize X &&& Y = A1 at *
  generalize X &&& Z = A2 at *
  generalize Y &&& Z = A3 at *
  go_wp2_with fail
  refine (M1.out _).mono ?_
  rintro r w' ⟨rfl, rfl⟩
  go_wp2_with fail
  refine (M2.out _).mono ?_
  rintro r w' ⟨rfl, rfl⟩
  go_wp2_with fail
  refine (M3.out _).mono ?_
  rintro r w' ⟨rfl, rfl⟩
  clear M1 M2 M3 s1 s2 s3 c0 c1 c3 c4 c5 c6 c7 c8 c9
  by_cases h1 : A1 = 0
  · subst h1
    by_cases h2 : A2 = 0
    · subst h2
      by_cases h3 : A3 = 0
      · subst h3
        go_wp2_with fail
        go_ret
        exact ⟨retB (HO.out.trans (by simp)).symm, bel⟩
      · have d3 : ((A3 : Int) == 0) = false := by simpa using h3
        go_wp2_with fail
        go_ret
        exact ⟨retB (HO.out.trans (by simp [h3])).symm, bel⟩
    · have d2 : ((A2 : Int) == 0) = false := by simpa using h2
      go_wp2_with fail
      go_ret
      exact ⟨retB (HO.out.trans (by simp [h2])).symm, bel⟩
  · have d1 : ((A1 : Int) == 0) = false := by simpa using h1
    go_wp2_with fail
    go_ret
    exact ⟨retB (HO.out.trans (by simp [h1])).symm, bel⟩
end Go.Proofs.Ytmjjbapahgejmaa.Fmt
namespace Go.Proofs.Ytmjjbapahgejmaa.Fmt
open Go.ChangeShapes Go.WideShapes Go.ChangeAt Go.RowKit RegVal
set_option linter.unusedVariables false
set_option maxRecDepth 100000

/-- The value of a colour, the colour of a value, what is left of a colour. -/
def Fm.val (f : Fm) (c : Int) : Nat := valueN (width f.rm) (width f.gm) (width f.bm) f.rs.toNat f.gs.toNat f.bs.toNat (colZ c)
def Fm.col (f : Fm) (v : Int) : Nat := colourZ (width f.rm) (width f.gm) (width f.bm) f.rs.toNat f.gs.toNat f.bs.toNat v
def Fm.left (f : Fm) (c : Int) : Nat := f.col (f.val c : Nat)
theorem Fm.Is.val_eq {f : Fm} {k j l s t u n : Nat} (H : f.Is k j l s t u n) (c : Int) : f.val c = valueN k j l s t u (colZ c) := by
  unfold Fm.val
  rw [H.rm, H.gm, H.bm, H.rs, H.gs, H.bs, width_top H.hk, width_top H.hj, width_top H.hl]
  rfl
theorem Fm.Is.col_eq {f : Fm} {k j l s t u n : Nat} (H : f.Is k j l s t u n) (v : Int) : f.col v = colourZ k j l s t u v := by
  unfold Fm.col
  rw [H.rm, H.gm, H.bm, H.rs, H.gs, H.bs, width_top H.hk, width_top H.hj, width_top H.hl]
  rfl
theorem refValue_f (f : Fm) (h : f.ok = true) (c : Int) (w : World) :
    Calls Try.prog 63 #[f.v, .int .i64 c] w fun e w' => e = .returned (.int .i64 (f.val c : Nat)) ∧ Below w.heap.size w w' := by
  obtain ⟨k, j, l, s, t, u, n, H⟩ := f.is h
  rw [H.val_eq]
  unfold Fm.v
  rw [H.rm, H.gm, H.bm, H.rs, H.gs, H.bs]
  exact refValue_any _ _ _ _ k j l s t u c H.hk H.hj H.hl n H.three w
theorem refColour_f (f : Fm) (h : f.ok = true) (v : Int) (w : World) :
    Calls Try.prog 77 #[f.v, .int .i64 v] w fun e w' => e = .returned (.int .i64 (f.col v : Nat)) ∧ Below w.heap.size w w' := by
  obtain ⟨k, j, l, s, t, u, n, H⟩ := f.is h
  rw [H.col_eq]
  unfold Fm.v
  rw [H.rm, H.gm, H.bm, H.rs, H.gs, H.bs]
  exact refColour_any _ _ _ _ k j l s t u v H.hk H.hj H.hl n H.three w
/-- A format that stands in a block. -/
def FmAt (w : World) (b : Nat) (f : Fm) : Prop :=
  w.cell? ⟨b, 0, none⟩ = some (.int .i64 f.B) ∧ w.cell? ⟨b, 1, none⟩ = some (.int .i64 f.D) ∧ w.cell? ⟨b, 2, none⟩ = some (.bool f.big) ∧ w.cell? ⟨b, 3, none⟩ = some (.bool f.tr) ∧
  w.cell? ⟨b, 4, none⟩ = some (.int .i64 f.rm) ∧ w.cell? ⟨b, 5, none⟩ = some (.int .i64 f.gm) ∧ w.cell? ⟨b, 6, none⟩ = some (.int .i64 f.bm) ∧
  w.cell? ⟨b, 7, none⟩ = some (.int .i64 f.rs) ∧ w.cell? ⟨b, 8, none⟩ = some (.int .i64 f.gs) ∧ w.cell? ⟨b, 9, none⟩ = some (.int .i64 f.bs)
theorem FmAt.box (f : Fm) (w : World) (T : TypeId) : FmAt (w.alloc (.cells #[.int .i64 f.B, .int .i64 f.D, .bool f.big, .bool f.tr, .int .i64 f.rm, .int .i64 f.gm, .int .i64 f.bm, .int .i64 f.rs, .int .i64 f.gs, .int .i64 f.bs] T)) w.heap.size f := by
  obtain ⟨_, kx⟩ := box1 w #[.int .i64 f.B, .int .i64 f.D, .bool f.big, .bool f.tr, .int .i64 f.rm, .int .i64 f.gm, .int .i64 f.bm, .int .i64 f.rs, .int .i64 f.gs, .int .i64 f.bs] T
  exact ⟨kx 0 _ rfl, kx 1 _ rfl, kx 2 _ rfl, kx 3 _ rfl, kx 4 _ rfl, kx 5 _ rfl, kx 6 _ rfl, kx 7 _ rfl, kx 8 _ rfl, kx 9 _ rfl⟩
theorem FmAt.below {w w' : World} {b n : Nat} {f : Fm} (h : FmAt w b f) (k : Below n w w') (hb : b < n) : FmAt w' b f := by
  obtain ⟨h0, h1, h2, h3, h4, h5, h6, h7, h8, h9⟩ := h
  exact ⟨(k.cell hb).trans h0, (k.cell hb).trans h1, (k.cell hb).trans h2, (k.cell hb).trans h3, (k.cell hb).trans h4, (k.cell hb).trans h5, (k.cell hb).trans h6, (k.cell hb).trans h7, (k.cell hb).trans h8, (k.cell hb).trans h9⟩

def quV (F a b : Value) (c : Int) : Nat → Value
  | 0 => F
  | 1 => F
  | 2 => .int .i64 c
  | 3 => a
  | 4 => b
  | 5 => b
  | _ => undef
end Go.Proofs.Ytmjjbapahgejmaa.Fmt
namespace Go.Proofs.Ytmjjbapahgejmaa.Fmt
open Go.ChangeShapes Go.WideShapes Go.ChangeAt Go.RowKit RegVal Oct
set_option linter.unusedVariables false
set_option maxRecDepth 100000

def flagI (b : Bool) : Int := if b then 1 else 0
/-- A format's numbers in their order, and how many bytes each has. -/
def sizeI (i : Nat) : Int := if 4 ≤ i ∧ i ≤ 6 then 2 else 1
def Fm.nums (f : Fm) : List Int := [f.B, f.D, flagI f.big, flagI f.tr, f.rm, f.gm, f.bm, f.rs, f.gs, f.bs]
def Fm.num (f : Fm) (i : Nat) : Int := f.nums.getD i 0
def Fm.cat (f : Fm) : Nat → ByteArray
  | 0 => ⟨#[]⟩
  | n + 1 => f.cat n ++ putS (sizeI n) (f.num n)
def Fm.fits (f : Fm) : Nat → Bool
  | 0 => true
  | n + 1 => f.fits n && okB (sizeI n) (f.num n)
/-- Sixteen bytes. -/
def Fm.bytes (f : Fm) : ByteArray := if f.fits 10 then f.cat 10 ++ ⟨#[0, 0, 0]⟩ else ⟨#[]⟩
theorem fits_less {f : Fm} {n m : Nat} (h : f.fits m = true) (hn : n ≤ m) : f.fits n = true := by
  induction m with
  | zero =>
    have : n = 0 := by omega
    rw [this]; rfl
  | succ m ih =>
    unfold Fm.fits at h
    rw [Bool.and_eq_true] at h
    rcases Nat.lt_or_ge n (m + 1) with h1 | h1
    · exact ih h.1 (by omega)
    · rw [show n = m + 1 by omega]
      unfold Fm.fits
      rw [Bool.and_eq_true]
      exact h
theorem putS_size4 (s n : Int) : (putS s n).size ≤ 4 := by
  show (if okB s n then beL s.toNat n else []).toArray.size ≤ 4
  by_cases h : okB s n = true
  · have := sizeB_cases (okB_parts h).1
    rw [if_pos h, List.size_toArray, beL_length]; omega
  · rw [if_neg h]; simp
theorem cat_size (f : Fm) (n : Nat) : (f.cat n).size ≤ 4 * n := by
  induction n with
  | zero => exact Nat.le_refl _
  | succ n ih =>
    have := putS_size4 (sizeI n) (f.num n)
    unfold Fm.cat
    rw [ByteArray.size_append]
    omega

/-- What the operations of the first region leave. -/
def byV (f : Fm) (b s : Nat) : Nat → Value
  | 0 => .pointer (some ⟨b, 0, none⟩)
  | 1 => .int .i64 f.B
  | 2 => .pointer (some ⟨b, 1, none⟩)
  | 3 => .int .i64 f.D
  | 4 => .pointer (some ⟨b, 2, none⟩)
  | 5 => .bool f.big
  | 6 => .int .i64 (flagI f.big)
  | 7 => .pointer (some ⟨b, 3, none⟩)
  | 8 => .bool f.tr
  | 9 => .int .i64 (flagI f.tr)
  | 10 => .pointer (some ⟨b, 4, none⟩)
  | 11 => .int .i64 f.rm
  | 12 => .pointer (some ⟨b, 5, none⟩)
  | 13 => .int .i64 f.gm
  | 14 => .pointer (some ⟨b, 6, none⟩)
  | 15 => .int .i64 f.bm
  | 16 => .pointer (some ⟨b, 7, none⟩)
  | 17 => .int .i64 f.rs
  | 18 => .pointer (some ⟨b, 8, none⟩)
  | 19 => .int .i64 f.gs
  | 20 => .pointer (some ⟨b, 9, none⟩)
  | 21 => .int .i64 f.bs
  | 22 => .slice (some ⟨s, 0, none⟩) 10 10
  | 23 => .slice (some ⟨s, 0, none⟩) 10 10
  | _ => undef
end Go.Proofs.Ytmjjbapahgejmaa.Fmt
namespace Go.Proofs.Ytmjjbapahgejmaa.Fmt
open Go.ChangeShapes Go.WideShapes Go.ChangeAt Go.RowKit RegVal Oct
set_option linter.unusedVariables false
set_option maxRecDepth 100000

def Fm.std : Fm := ⟨32, 24, false, true, 255, 255, 255, 16, 8, 0⟩
/-- A byte of a text as a number. -/
def byA (t : ByteArray) (i : Nat) : Int := ((t.data.toList.getD i 0).toNat : Nat)
def two (t : ByteArray) (i : Nat) : Int := byA t i * 256 + byA t (i + 1)
/-- The format of sixteen bytes. -/
def fmtX (x y : Nat → Int) : Fm := ⟨x 0, x 1, x 2 != 0, x 3 != 0, y 4, y 6, y 8, x 10, x 11, x 12⟩
def fmtOf (t : ByteArray) : Fm := fmtX (byA t) (two t)
theorem byA_bd (t : ByteArray) (i : Nat) : 0 ≤ byA t i ∧ byA t i < 256 := by
  unfold byA
  have := (t.data.toList.getD i 0).toNat_lt
  omega
theorem wf_small {n : Int} (h0 : 0 ≤ n) (h1 : n < 65536) : (Lit.int .i64 n).wf = true := by
  simp only [Lit.wf, IntKind.min, IntKind.max, IntKind.signed, IntKind.bits, Bool.and_eq_true, decide_eq_true_eq, if_true]
  omega
theorem fmtOf_wf (t : ByteArray) : (fmtOf t).Wf := by
  have h := byA_bd t
  have h2 : ∀ i, 0 ≤ two t i ∧ two t i < 65536 := fun i => by
    have := h i
    have := h (i + 1)
    unfold two
    omega
  exact ⟨wf_small (h 0).1 (by have := h 0; show byA t 0 < _; omega), wf_small (h 1).1 (by have := h 1; show byA t 1 < _; omega), wf_small (h2 4).1 (h2 4).2, wf_small (h2 6).1 (h2 6).2, wf_small (h2 8).1 (h2 8).2, wf_small (h 10).1 (by have := h 10; show byA t 10 < _; omega), wf_small (h 11).1 (by have := h 11; show byA t 11 < _; omega), wf_small (h 12).1 (by have := h 12; show byA t 12 < _; omega)⟩
theorem two_val (t : ByteArray) (i : Nat) (h : i + 2 ≤ t.size) : valL (t.extract i (i + 2)).data.toList.reverse = two t i := by
  have e : (t.extract i (i + 2)).data.toList = [t.data.toList.getD i 0, t.data.toList.getD (i + 1) 0] := by
    have hl : t.data.toList.length = t.size := by simp
    have e1 : (t.extract i (i + 2)).data.toList = (t.data.toList.drop i).take 2 := by simp [ByteArray.data_extract]
    rw [e1]
    apply List.ext_getElem?
    intro k
    rw [List.getElem?_take]
    by_cases h0 : k = 0
    · subst h0
      rw [if_pos (by omega), List.getElem?_drop, List.getElem?_eq_getElem (show i + 0 < t.data.toList.length by omega), List.getD_eq_getElem?_getD, List.getElem?_eq_getElem (show i < t.data.toList.length by omega)]
      rfl
    by_cases h1 : k = 1
    · subst h1
      rw [if_pos (by omega), List.getElem?_drop, List.getElem?_eq_getElem (show i + 1 < t.data.toList.length by omega), List.getD_eq_getElem?_getD, List.getD_eq_getElem?_getD, List.getElem?_eq_getElem (show i + 1 < t.data.toList.length by omega)]
      rfl
    · rw [if_neg (by omega), List.getElem?_eq_none (by simp; omega)]
  rw [e]
  simp [valL, two, byA]
  omega
def paV (t : ByteArray) (x y : Nat → Int) (F : Value) (g : Nat) : Nat → Value
  | 0 => .string t
  | 1 => .int .u8 (x 0)
  | 2 => .int .i64 (x 0)
  | 3 => .string t
  | 4 => .int .u8 (x 1)
  | 5 => .int .i64 (x 1)
  | 6 => .string t
  | 7 => .int .u8 (x 2)
  | 8 => .bool (x 2 != 0)
  | 9 => .string t
  | 10 => .int .u8 (x 3)
  | 11 => .bool (x 3 != 0)
  | 12 => .string t
  | 13 => .string (t.extract 4 6)
  | 14 => .int .i64 (y 4)
  | 15 => .string t
  | 16 => .string (t.extract 6 8)
  | 17 => .int .i64 (y 6)
  | 18 => .string t
  | 19 => .string (t.extract 8 10)
  | 20 => .int .i64 (y 8)
  | 21 => .string t
  | 22 => .int .u8 (x 10)
  | 23 => .int .i64 (x 10)
  | 24 => .string t
  | 25 => .int .u8 (x 11)
  | 26 => .int .i64 (x 11)
  | 27 => .string t
  | 28 => .int .u8 (x 12)
  | 29 => .int .i64 (x 12)
  | 30 => F
  | 31 => .pointer (some ⟨g, 0, none⟩)
  | _ => undef
def Fm.cs (f : Fm) : Array Value := #[.int .i64 f.B, .int .i64 f.D, .bool f.big, .bool f.tr, .int .i64 f.rm, .int .i64 f.gm, .int .i64 f.bm, .int .i64 f.rs, .int .i64 f.gs, .int .i64 f.bs]
/-- What becomes of bytes: a format, or why there is none. -/
def parF (t : ByteArray) : Fm := if t.size < 16 then Fm.zero else if (fmtOf t).ok then fmtOf t else Fm.zero
def parE (t : ByteArray) : Int := if t.size < 16 then 2 else if (fmtOf t).ok then 0 else 130
/-- What is so on the way: the variable is there, and holds the format, when it was stored. -/
def paS (w1 : World) (f : Fm) (ℓ : Nat → Bool) (W : World) : Prop :=
  Below w1.heap.size w1 W ∧ (ℓ 31 = false → W.heap.size = w1.heap.size ∧ ℓ 32 = false) ∧ (ℓ 31 = true → ∃ cs : Array Value, cs.size = 10 ∧ W.heap[w1.heap.size]? = some (.cells cs 37 (0, 0)) ∧ (ℓ 32 = true → cs = f.cs))
theorem paS_keep {w1 W : World} {f : Fm} {ℓ : Nat → Bool} {i : Nat} (h1 : i ≠ 31) (h2 : i ≠ 32) (h : paS w1 f ℓ W) : paS w1 f (fun j => if j = i then true else ℓ j) W := by
  unfold paS at h ⊢
  simp only [if_neg (Ne.symm h1), if_neg (Ne.symm h2)]
  exact h
theorem below_set {w w' : World} {n : Nat} (h : Below n w w') {g : Nat} (hg : n ≤ g) (o : Nat) (v : Value) : Below n w (w'.setCell ⟨g, o, none⟩ v) :=
  ⟨h.os, h.tape, h.output, by simpa using h.size, fun i hi => (heap_setCell_other w' ⟨g, o, none⟩ i v (fun e => by have : g = i := e.symm; omega)).trans (h.block i hi)⟩
theorem setAt {w : World} {R i : Nat} {cs cs' : Array Value} {T : TypeId} {v : Value} (h : w.heap[R]? = some (.cells cs T (0, 0))) (e : cs.setIfInBounds i v = cs') : (w.setCell ⟨R, i, none⟩ v).heap[R]? = some (.cells cs' T (0, 0)) := by
  rw [heap_setCell_same _ R i _ _ v h, e]
theorem store10 {w : World} {R : Nat} {z0 z1 z2 z3 z4 z5 z6 z7 z8 z9 : Value} {T : TypeId} (h : w.heap[R]? = some (.cells #[z0, z1, z2, z3, z4, z5, z6, z7, z8, z9] T (0, 0))) (a b c d e f g i j k : Value) :
    ((((((((((w.setCell ⟨R, 0, none⟩ a).setCell ⟨R, 1, none⟩ b).setCell ⟨R, 2, none⟩ c).setCell ⟨R, 3, none⟩ d).setCell ⟨R, 4, none⟩ e).setCell ⟨R, 5, none⟩ f).setCell ⟨R, 6, none⟩ g).setCell ⟨R, 7, none⟩ i).setCell ⟨R, 8, none⟩ j).setCell ⟨R, 9, none⟩ k).heap[R]? = some (.cells #[a, b, c, d, e, f, g, i, j, k] T (0, 0)) := by
  have h0 := setAt (cs' := #[a, z1, z2, z3, z4, z5, z6, z7, z8, z9]) (i := 0) (v := a) h rfl
  have h1 := setAt (cs' := #[a, b, z2, z3, z4, z5, z6, z7, z8, z9]) (i := 1) (v := b) h0 rfl
  have h2 := setAt (cs' := #[a, b, c, z3, z4, z5, z6, z7, z8, z9]) (i := 2) (v := c) h1 rfl
  have h3 := setAt (cs' := #[a, b, c, d, z4, z5, z6, z7, z8, z9]) (i := 3) (v := d) h2 rfl
  have h4 := setAt (cs' := #[a, b, c, d, e, z5, z6, z7, z8, z9]) (i := 4) (v := e) h3 rfl
  have h5 := setAt (cs' := #[a, b, c, d, e, f, z6, z7, z8, z9]) (i := 5) (v := f) h4 rfl
  have h6 := setAt (cs' := #[a, b, c, d, e, f, g, z7, z8, z9]) (i := 6) (v := g) h5 rfl
  have h7 := setAt (cs' := #[a, b, c, d, e, f, g, i, z8, z9]) (i := 7) (v := i) h6 rfl
  have h8 := setAt (cs' := #[a, b, c, d, e, f, g, i, j, z9]) (i := 8) (v := j) h7 rfl
  have h9 := setAt (cs' := #[a, b, c, d, e, f, g, i, j, k]) (i := 9) (v := k) h8 rfl
  exact h9
theorem arr10 {cs : Array Value} (h : cs.size = 10) : ∃ z0 z1 z2 z3 z4 z5 z6 z7 z8 z9, cs = #[z0, z1, z2, z3, z4, z5, z6, z7, z8, z9] := by
  obtain ⟨l⟩ := cs
  match l, h with
  | [z0, z1, z2, z3, z4, z5, z6, z7, z8, z9], _ => exact ⟨z0, z1, z2, z3, z4, z5, z6, z7, z8, z9, rfl⟩
end Go.Proofs.Ytmjjbapahgejmaa.Fmt
namespace Go.Proofs.Ytmjjbapahgejmaa.Fmt
open Go.ChangeShapes Go.WideShapes Go.ChangeAt Go.RowKit
set_option linter.unusedVariables false
set_option maxRecDepth 100000

theorem list10 {α : Type} {xs : List α} (h : xs.length = 10) : ∃ z0 z1 z2 z3 z4 z5 z6 z7 z8 z9, xs = [z0, z1, z2, z3, z4, z5, z6, z7, z8, z9] := by
  match xs, h with
  | [z0, z1, z2, z3, z4, z5, z6, z7, z8, z9], _ => exact ⟨z0, z1, z2, z3, z4, z5, z6, z7, z8, z9, rfl⟩
theorem fmt_see {H : Type} {enc : TypeId × Value → H} {W : World} {r : Reach} {b0 : Nat} {v : Value} {d : DataW H} {p : List MemPlace} (hv : Value.okWide Try.prog W r b0 37 v)
    (h : DataW.Trod enc Try.prog W 0 (fun _ => true) true 37 v d p) : ∃ f : Fm, v = f.v ∧ f.Wf := by
  obtain ⟨cs, rfl, hsz⟩ := okWide_struct Try.underlying37 hv
  have h10 : Try.prog.cellsOf 37 = 10 := by kernel_rfl
  obtain ⟨c0, c1, c2, c3, c4, c5, c6, c7, c8, c9, rfl⟩ := arr10 (hsz.trans h10)
  obtain ⟨fuel, hf⟩ := h
  obtain ⟨xs, n, _, _, _, hlen, hg⟩ := DataW.trod_struct Try.underlying37 hf
  obtain ⟨y0, y1, y2, y3, y4, y5, y6, y7, y8, y9, rfl⟩ := list10 hlen
  have ci : Try.prog.cellsOf 3 = 1 := by kernel_rfl
  have cb : Try.prog.cellsOf 4 = 1 := by kernel_rfl
  have g0 := hg 0 _ rfl
  have g1 := hg 1 _ rfl
  have g2 := hg 2 _ rfl
  have g3 := hg 3 _ rfl
  have g4 := hg 4 _ rfl
  have g5 := hg 5 _ rfl
  have g6 := hg 6 _ rfl
  have g7 := hg 7 _ rfl
  have g8 := hg 8 _ rfl
  have g9 := hg 9 _ rfl
  simp [Value.cells, ci, cb] at g0 g1 g2 g3 g4 g5 g6 g7 g8 g9
  obtain ⟨k0, e0, _, w0⟩ := DataW.trod_int Try.underlying3 g0
  obtain ⟨k1, e1, _, w1⟩ := DataW.trod_int Try.underlying3 g1
  obtain ⟨k2, e2, _⟩ := DataW.trod_bool Try.underlying4 g2
  obtain ⟨k3, e3, _⟩ := DataW.trod_bool Try.underlying4 g3
  obtain ⟨k4, e4, _, w4⟩ := DataW.trod_int Try.underlying3 g4
  obtain ⟨k5, e5, _, w5⟩ := DataW.trod_int Try.underlying3 g5
  obtain ⟨k6, e6, _, w6⟩ := DataW.trod_int Try.underlying3 g6
  obtain ⟨k7, e7, _, w7⟩ := DataW.trod_int Try.underlying3 g7
  obtain ⟨k8, e8, _, w8⟩ := DataW.trod_int Try.underlying3 g8
  obtain ⟨k9, e9, _, w9⟩ := DataW.trod_int Try.underlying3 g9
  simp at e0 e1 e2 e3 e4 e5 e6 e7 e8 e9
  subst e0 e1 e2 e3 e4 e5 e6 e7 e8 e9
  exact ⟨⟨k0, k1, k2, k3, k4, k5, k6, k7, k8, k9⟩, rfl, w0, w1, w4, w5, w6, w7, w8, w9⟩
end Go.Proofs.Ytmjjbapahgejmaa.Fmt
namespace Go.Proofs.Ytmjjbapahgejmaa.Fmt
open Oct
set_option linter.unusedVariables false

theorem ok1 {n : Int} (h0 : 0 ≤ n) (h1 : n < 256) : okB 1 n = true := by
  unfold okB sizeB fitsB
  simp
  omega
theorem ok2 {n : Int} (h0 : 0 ≤ n) (h1 : n < 65536) : okB 2 n = true := by
  unfold okB sizeB fitsB
  simp
  omega
theorem put1 {n : Int} (h0 : 0 ≤ n) (h1 : n < 256) : putS 1 n = ⟨#[byt n 0]⟩ := by
  unfold putS
  rw [if_pos (ok1 h0 h1)]
  rfl
theorem put2 {n : Int} (h0 : 0 ≤ n) (h1 : n < 65536) : putS 2 n = ⟨#[byt n 1, byt n 0]⟩ := by
  unfold putS
  rw [if_pos (ok2 h0 h1)]
  rfl
theorem flag_bd (b : Bool) : 0 ≤ flagI b ∧ flagI b < 256 := by cases b <;> decide
/-- All numbers are bytes. -/
theorem Fm.Is.small {f : Fm} {k j l s t u n : Nat} (H : f.Is k j l s t u n) :
    (0 ≤ f.B ∧ f.B < 256) ∧ (0 ≤ f.D ∧ f.D < 256) ∧ (0 ≤ f.rm ∧ f.rm < 65536) ∧ (0 ≤ f.gm ∧ f.gm < 65536) ∧ (0 ≤ f.bm ∧ f.bm < 65536) ∧ (0 ≤ f.rs ∧ f.rs < 256) ∧ (0 ≤ f.gs ∧ f.gs < 256) ∧ (0 ≤ f.bs ∧ f.bs < 256) := by
  have h1 := top_small H.hk.2
  have h2 := top_small H.hj.2
  have h3 := top_small H.hl.2
  have hB := H.B
  have hn := H.hn
  have hD := H.D
  have r1 := H.rm
  have r2 := H.gm
  have r3 := H.bm
  have t1 := H.rs
  have t2 := H.gs
  have t3 := H.bs
  have e1 := H.three.hs
  have e2 := H.three.ht
  have e3 := H.three.hu
  omega
theorem Fm.Is.bytes_eq {f : Fm} {k j l s t u n : Nat} (H : f.Is k j l s t u n) :
    f.bytes = ⟨#[byt f.B 0, byt f.D 0, byt (flagI f.big) 0, byt (flagI f.tr) 0, byt f.rm 1, byt f.rm 0, byt f.gm 1, byt f.gm 0, byt f.bm 1, byt f.bm 0, byt f.rs 0, byt f.gs 0, byt f.bs 0, 0, 0, 0]⟩ := by
  obtain ⟨b1, b2, b3, b4, b5, b6, b7, b8⟩ := H.small
  have g1 := flag_bd f.big
  have g2 := flag_bd f.tr
  have hf : f.fits 10 = true := by
    simp [Fm.fits, sizeI, Fm.num, Fm.nums, ok1 b1.1 b1.2, ok1 b2.1 b2.2, ok1 g1.1 g1.2, ok1 g2.1 g2.2, ok2 b3.1 b3.2, ok2 b4.1 b4.2, ok2 b5.1 b5.2, ok1 b6.1 b6.2, ok1 b7.1 b7.2, ok1 b8.1 b8.2]
  unfold Fm.bytes
  rw [if_pos hf]
  simp [Fm.cat, sizeI, Fm.num, Fm.nums, put1 b1.1 b1.2, put1 b2.1 b2.2, put1 g1.1 g1.2, put1 g2.1 g2.2, put2 b3.1 b3.2, put2 b4.1 b4.2, put2 b5.1 b5.2, put1 b6.1 b6.2, put1 b7.1 b7.2, put1 b8.1 b8.2]
  rfl
theorem byt0 {n : Int} (h0 : 0 ≤ n) (h1 : n < 256) : ((byt n 0).toNat : Int) = n := by
  rw [byt_toNat]; simp; omega
theorem byt10 {n : Int} (h0 : 0 ≤ n) (h1 : n < 65536) : ((byt n 1).toNat : Int) * 256 + ((byt n 0).toNat : Int) = n := by
  rw [byt_toNat, byt_toNat]; simp; omega
theorem flag_not (b : Bool) : (((byt (flagI b) 0).toNat : Int) != 0) = b := by cases b <;> decide
theorem parse_bytes {f : Fm} (h : f.ok = true) (tail : ByteArray) : parF (f.bytes ++ tail) = f ∧ parE (f.bytes ++ tail) = 0 ∧ f.bytes.size = 16 := by
  obtain ⟨k, j, l, s, t, u, n, H⟩ := f.is h
  obtain ⟨b1, b2, b3, b4, b5, b6, b7, b8⟩ := H.small
  rw [H.bytes_eq]
  have hsz : ¬ (((⟨#[byt f.B 0, byt f.D 0, byt (flagI f.big) 0, byt (flagI f.tr) 0, byt f.rm 1, byt f.rm 0, byt f.gm 1, byt f.gm 0, byt f.bm 1, byt f.bm 0, byt f.rs 0, byt f.gs 0, byt f.bs 0, 0, 0, 0]⟩ : ByteArray) ++ tail).size < 16) := by
    rw [ByteArray.size_append]
    show ¬ (16 + tail.size < 16)
    omega
  have hF : fmtOf ((⟨#[byt f.B 0, byt f.D 0, byt (flagI f.big) 0, byt (flagI f.tr) 0, byt f.rm 1, byt f.rm 0, byt f.gm 1, byt f.gm 0, byt f.bm 1, byt f.bm 0, byt f.rs 0, byt f.gs 0, byt f.bs 0, 0, 0, 0]⟩ : ByteArray) ++ tail) = f := by
    unfold fmtOf fmtX two byA
    simp only [ByteArray.data_append, Array.toList_append, List.cons_append, List.getD_cons_zero, List.getD_cons_succ]
    rw [byt0 b1.1 b1.2, byt0 b2.1 b2.2, flag_not, flag_not, byt10 b3.1 b3.2, byt10 b4.1 b4.2, byt10 b5.1 b5.2, byt0 b6.1 b6.2, byt0 b7.1 b7.2, byt0 b8.1 b8.2]
  unfold parF parE
  rw [if_neg hsz, if_neg hsz, hF, if_pos h, if_pos h]
  exact ⟨rfl, rfl, rfl⟩

/-- A number's bytes, and the number of bytes. -/
def putL (big : Bool) (n : Nat) (v : Int) : List UInt8 := if big then beL n v else leL n v
def getL (big : Bool) (l : List UInt8) : Int := valL (if big then l.reverse else l)
theorem putL_length (big : Bool) (n : Nat) (v : Int) : (putL big n v).length = n := by
  unfold putL
  cases big
  · exact leL_length n v
  · exact beL_length n v
theorem emod_two (n P : Int) (hP : 0 < P) : n % (P * 256) = n % P + n / P % 256 * P := by
  have e1 := Int.mul_ediv_add_emod n P
  have e2 := Int.mul_ediv_add_emod (n / P) 256
  have r0 := Int.emod_nonneg n (Int.ne_of_gt hP)
  have r1 := Int.emod_lt_of_pos n hP
  have s0 := Int.emod_nonneg (n / P) (show (256 : Int) ≠ 0 by decide)
  have s1 := Int.emod_lt_of_pos (n / P) (show (0 : Int) < 256 by decide)
  generalize n % P = r at *
  generalize n / P % 256 = d at *
  generalize n / P / 256 = k at *
  generalize n / P = q at *
  have hd : 0 ≤ d * P := Int.mul_nonneg s0 (Int.le_of_lt hP)
  have hd2 : d * P ≤ 255 * P := Int.mul_le_mul_of_nonneg_right (by omega) (Int.le_of_lt hP)
  have en : n = P * 256 * k + (r + d * P) := by
    rw [← e1, ← e2, Int.mul_add, Int.mul_assoc, Int.mul_comm P d]
    omega
  rw [en, Int.mul_add_emod_self_left]
  exact Int.emod_eq_of_lt (by omega) (by omega)
theorem valL_leLZ (s : Nat) (n : Int) : valL (leL s n) = n % 2 ^ (8 * s) := by
  induction s with
  | zero => simp [leL, valL]
  | succ s ih =>
    have hb := byt_toNat n s
    rw [leL_succ, valL_snoc, ih, leL_length, hb, show 8 * (s + 1) = 8 * s + 8 by omega, Int.pow_add]
    exact (emod_two n _ (Int.pow_pos (by decide))).symm
/-- WHAT IS PUT IS GOT AGAIN. -/
theorem get_put (big : Bool) (n : Nat) (v : Int) : getL big (putL big n v) = v % 2 ^ (8 * n) := by
  unfold getL putL
  cases big
  · exact valL_leLZ n v
  · simp only [if_true]
    unfold beL
    rw [List.reverse_reverse]
    exact valL_leLZ n v
/-- How many bytes a value has; its bytes; the value of bytes. -/
def Fm.size (f : Fm) : Nat := if f.ok then (f.B / 8).toNat else 0
def Fm.put (f : Fm) (v : Int) : ByteArray := if f.ok then ⟨(putL f.big (f.B / 8).toNat v).toArray⟩ else ⟨#[]⟩
def Fm.get (f : Fm) (t : ByteArray) : Int := if f.ok then if t.size < f.size then 0 else getL f.big (t.data.toList.take f.size) else 0
def Fm.getE (f : Fm) (t : ByteArray) : Int := if f.ok then if t.size < f.size then 2 else 0 else 130
/-- All bits of parts; as few bytes as they need, and from where on. -/
def Fm.mask (f : Fm) : Nat := maskN (width f.rm) (width f.gm) (width f.bm) f.rs.toNat f.gs.toNat f.bs.toNat
def Fm.few (f : Fm) : Nat × Nat := if f.ok then if f.B = 32 ∧ f.D ≤ 24 then if f.mask < 16777216 then (3, 0) else if f.mask % 256 = 0 then (3, 8) else (f.size, 0) else (f.size, 0) else (0, 0)
def Fm.cput (f : Fm) (v : Int) : ByteArray := if f.ok then ⟨(putL f.big f.few.1 (v % 2 ^ f.B.toNat / 2 ^ f.few.2)).toArray⟩ else ⟨#[]⟩
def Fm.cget (f : Fm) (t : ByteArray) : Int := if f.ok then if t.size < f.few.1 then 0 else getL f.big (t.data.toList.take f.few.1) * 2 ^ f.few.2 else 0
def Fm.cgetE (f : Fm) (t : ByteArray) : Int := if f.ok then if t.size < f.few.1 then 2 else 0 else 130
theorem list_take {l : List UInt8} {n : Nat} (h : l.length = n) (tail : ByteArray) : (((⟨l.toArray⟩ : ByteArray) ++ tail).data.toList.take n) = l ∧ ¬ ((⟨l.toArray⟩ : ByteArray) ++ tail).size < n := by
  constructor
  · rw [ByteArray.data_append, Array.toList_append]
    exact List.take_left' h
  · rw [ByteArray.size_append]
    show ¬ (l.toArray.size + tail.size < n)
    rw [List.size_toArray]
    omega
theorem size_bits {f : Fm} {k j l s t u n : Nat} (H : f.Is k j l s t u n) : 8 * (f.B / 8).toNat = f.B.toNat ∧ f.B.toNat = n ∧ (f.B / 8).toNat ≤ 4 := by
  have := H.B
  have := H.hn
  omega
theorem put_back {f : Fm} (h : f.ok = true) (v : Int) (tail : ByteArray) : f.get (f.put v ++ tail) = v % 2 ^ f.B.toNat ∧ f.getE (f.put v ++ tail) = 0 ∧ (f.put v).size = f.size := by
  obtain ⟨k, j, l, s, t, u, n, H⟩ := f.is h
  obtain ⟨e1, _, _⟩ := size_bits H
  have hs : f.size = (f.B / 8).toNat := if_pos h
  have hl := putL_length f.big (f.B / 8).toNat v
  obtain ⟨t1, t2⟩ := list_take hl tail
  unfold Fm.get Fm.getE Fm.put
  rw [if_pos h, if_pos h, if_pos h, hs, if_neg t2, if_neg t2, t1, get_put, e1]
  exact ⟨rfl, rfl, by show Array.size _ = _; rw [List.size_toArray]; exact hl⟩
theorem Fm.Is.mask_eq {f : Fm} {k j l s t u n : Nat} (H : f.Is k j l s t u n) : f.mask = maskN k j l s t u := by
  unfold Fm.mask
  rw [H.rm, H.gm, H.bm, H.rs, H.gs, H.bs, width_top H.hk, width_top H.hj, width_top H.hl]
  rfl
/-- A colour's value is within the bits of its parts. -/
theorem val_le {f : Fm} {k j l s t u n : Nat} (H : f.Is k j l s t u n) (c : Int) : f.val c ≤ f.mask ∧ (f.mask % 256 = 0 → f.val c % 256 = 0) ∧ f.val c < 2 ^ n := by
  rw [H.val_eq, H.mask_eq]
  unfold valueN
  have d1 := down_le (m := top k) (byte_le (colZ c / 65536))
  have d2 := down_le (m := top j) (byte_le (colZ c / 256))
  have d3 := down_le (m := top l) (byte_le (colZ c))
  exact ⟨sum_le_mask H.three d1 d2 d3, fun h => sum_low H.three d1 d2 d3 h, sum_lt H.three d1 d2 d3⟩
theorem few_cases {f : Fm} (h : f.ok = true) : (f.few = (3, 0) ∧ f.B = 32 ∧ f.mask < 16777216) ∨ (f.few = (3, 8) ∧ f.B = 32 ∧ f.mask % 256 = 0) ∨ f.few = (f.size, 0) := by
  unfold Fm.few
  rw [if_pos h]
  by_cases h1 : f.B = 32 ∧ f.D ≤ 24
  · rw [if_pos h1]
    by_cases h2 : f.mask < 16777216
    · rw [if_pos h2]; exact .inl ⟨rfl, h1.1, h2⟩
    · rw [if_neg h2]
      by_cases h3 : f.mask % 256 = 0
      · rw [if_pos h3]; exact .inr (.inl ⟨rfl, h1.1, h3⟩)
      · rw [if_neg h3]; exact .inr (.inr rfl)
  · rw [if_neg h1]; exact .inr (.inr rfl)
theorem cput_back {f : Fm} (h : f.ok = true) (c : Int) (tail : ByteArray) : f.cget (f.cput (f.val c : Nat) ++ tail) = (f.val c : Nat) ∧ f.cgetE (f.cput (f.val c : Nat) ++ tail) = 0 ∧ (f.cput (f.val c : Nat)).size = f.few.1 := by
  obtain ⟨k, j, l, s, t, u, n, H⟩ := f.is h
  obtain ⟨e1, e2, _⟩ := size_bits H
  obtain ⟨v1, v2, v3⟩ := val_le H c
  have hs : f.size = (f.B / 8).toNat := if_pos h
  have hl := putL_length f.big f.few.1 ((f.val c : Nat) % 2 ^ f.B.toNat / 2 ^ f.few.2)
  obtain ⟨t1, t2⟩ := list_take hl tail
  unfold Fm.cget Fm.cgetE Fm.cput
  rw [if_pos h, if_pos h, if_pos h, if_neg t2, if_neg t2, t1, get_put]
  refine ⟨?_, rfl, by show Array.size _ = _; rw [List.size_toArray]; exact hl⟩
  have hm : ((f.val c : Nat) : Int) % 2 ^ f.B.toNat = (f.val c : Nat) := by
    rw [e2]
    refine Int.emod_eq_of_lt (by omega) ?_
    have : ((2 ^ n : Nat) : Int) = 2 ^ n := by simp
    omega
  rw [hm]
  rcases few_cases h with ⟨hf, hB, hlt⟩ | ⟨hf, hB, h0⟩ | hf
  · rw [hf]
    simp only
    rw [show (2 : Int) ^ (8 * 3) = 16777216 from rfl, show (2 : Int) ^ 0 = 1 from rfl]
    omega
  · have := v2 h0
    have h32 : n = 32 := by have := H.B; omega
    rw [h32] at v3
    rw [hf]
    simp only
    rw [show (2 : Int) ^ (8 * 3) = 16777216 from rfl, show (2 : Int) ^ 8 = 256 from rfl]
    have : (2 : Nat) ^ 32 = 4294967296 := by decide
    omega
  · rw [hf]
    simp only
    rw [hs, e1, show (2 : Int) ^ 0 = 1 from rfl, Int.ediv_one, hm, Int.mul_one]

/-- Big or not. -/
def Fm.flip (f : Fm) : Fm := { f with big := !f.big }
theorem flip_ok (f : Fm) : f.flip.ok = f.ok := rfl
theorem flip_val (f : Fm) (c : Int) : f.flip.val c = f.val c := rfl
theorem flip_col (f : Fm) (c : Int) : f.flip.col c = f.col c := rfl
theorem flip_few (f : Fm) : f.flip.few = f.few := rfl
theorem put_flip (big : Bool) (n : Nat) (v : Int) : (putL (!big) n v).reverse = putL big n v := by
  unfold putL beL
  cases big <;> simp
theorem put_other (f : Fm) (v : Int) : revS (f.flip.put v) = f.put v := by
  have hb : f.flip.big = !f.big := rfl
  have hB : f.flip.B = f.B := rfl
  unfold Fm.put revS
  rw [flip_ok, hb, hB]
  cases f.ok with
  | true =>
    rw [if_pos rfl, if_pos rfl, ← put_flip f.big]
  | false => rfl
theorem cput_other (f : Fm) (v : Int) : revS (f.flip.cput v) = f.cput v := by
  have hb : f.flip.big = !f.big := rfl
  have hB : f.flip.B = f.B := rfl
  unfold Fm.cput revS
  rw [flip_ok, flip_few, hb, hB]
  cases f.ok with
  | true =>
    rw [if_pos rfl, if_pos rfl, ← put_flip f.big]
  | false => rfl
theorem put_size_le (f : Fm) (v : Int) : (f.put v).size ≤ 4 ∧ (f.cput v).size ≤ 4 := by
  cases h : f.ok with
  | false =>
    unfold Fm.put Fm.cput
    rw [h]
    exact ⟨Nat.zero_le _, Nat.zero_le _⟩
  | true =>
    obtain ⟨k, j, l, s, t, u, n, H⟩ := f.is h
    obtain ⟨_, _, e3⟩ := size_bits H
    have hs : f.size = (f.B / 8).toNat := if_pos h
    constructor
    · unfold Fm.put
      rw [if_pos h]
      show Array.size _ ≤ 4
      rw [List.size_toArray, putL_length]
      exact e3
    · unfold Fm.cput
      rw [if_pos h]
      show Array.size _ ≤ 4
      rw [List.size_toArray, putL_length]
      rcases few_cases h with ⟨hf, _⟩ | ⟨hf, _⟩ | hf
      · rw [hf]; decide
      · rw [hf]; decide
      · rw [hf, hs]; exact e3

/-- WHAT IS LEFT OF A COLOUR. -/
theorem colZ_own {c : Nat} (h : c ≤ 16777215) : colZ (c : Int) = c := by unfold colZ; omega
theorem colZ_le (c : Int) : colZ c ≤ 16777215 := by unfold colZ; omega
theorem left_eq {f : Fm} {k j l s t u n : Nat} (H : f.Is k j l s t u n) (c : Int) : f.left c = colourN k j l s t u (valueN k j l s t u (colZ c)) := by
  unfold Fm.left
  rw [H.col_eq, H.val_eq, colourZ_nat]
theorem left_le {f : Fm} (h : f.ok = true) (c : Int) : f.left c ≤ 16777215 := by
  obtain ⟨k, j, l, s, t, u, n, H⟩ := f.is h
  rw [left_eq H]
  exact colour_le H.hk.1 H.hj.1 H.hl.1
theorem left_twice {f : Fm} (h : f.ok = true) (c : Int) : f.left (f.left c : Nat) = f.left c := by
  obtain ⟨k, j, l, s, t, u, n, H⟩ := f.is h
  rw [left_eq H (f.left c : Nat), colZ_own (left_le h c), left_eq H c]
  exact quant_quant H.three H.hk H.hj H.hl _
theorem left_low (f : Fm) (c : Int) : f.left (colZ c : Nat) = f.left c := by
  unfold Fm.left Fm.val
  rw [colZ_own (colZ_le c)]
theorem top_255 {k : Nat} (hk : 1 ≤ k ∧ k ≤ 16) : (255 ≤ top k ↔ 8 ≤ k) ∧ (top k ≤ 255 ↔ k ≤ 8) := by
  have : ∀ k, k < 17 → 1 ≤ k → (255 ≤ top k ↔ 8 ≤ k) ∧ (top k ≤ 255 ↔ k ≤ 8) := by decide
  exact this k (by omega) hk.1
theorem left_all {f : Fm} (h : f.ok = true) (h1 : 255 ≤ f.rm) (h2 : 255 ≤ f.gm) (h3 : 255 ≤ f.bm) (c : Int) : f.left c = colZ c := by
  obtain ⟨k, j, l, s, t, u, n, H⟩ := f.is h
  have e1 := (top_255 H.hk).1.1 (by have := H.rm; omega)
  have e2 := (top_255 H.hj).1.1 (by have := H.gm; omega)
  have e3 := (top_255 H.hl).1.1 (by have := H.bm; omega)
  rw [left_eq H]
  exact quant_same H.three ⟨e1, H.hk.2⟩ ⟨e2, H.hj.2⟩ ⟨e3, H.hl.2⟩ (colZ_le c)
theorem val_col {f : Fm} (h : f.ok = true) (h1 : f.rm ≤ 255) (h2 : f.gm ≤ 255) (h3 : f.bm ≤ 255) {v : Nat} (hv : v &&& f.mask = v) : f.val (f.col v : Nat) = v := by
  obtain ⟨k, j, l, s, t, u, n, H⟩ := f.is h
  have e1 := (top_255 H.hk).2.1 (by have := H.rm; omega)
  have e2 := (top_255 H.hj).2.1 (by have := H.gm; omega)
  have e3 := (top_255 H.hl).2.1 (by have := H.bm; omega)
  rw [H.mask_eq] at hv
  rw [H.val_eq, H.col_eq, colourZ_nat, colZ_own (colour_le H.hk.1 H.hj.1 H.hl.1)]
  exact value_colour H.three ⟨H.hk.1, e1⟩ ⟨H.hj.1, e2⟩ ⟨H.hl.1, e3⟩ hv
end Go.Proofs.Ytmjjbapahgejmaa.Fmt
namespace Go.Proofs.Ytmjjbapahgejmaa.Fmt
open Go.ChangeShapes Go.WideShapes Go.ChangeAt Go.RowKit RegVal Oct
set_option linter.unusedVariables false
set_option maxRecDepth 100000

def Fm.valI (f : Fm) (c : Int) : Int := if f.ok then (f.val c : Nat) else 0
def Fm.colI (f : Fm) (c : Int) : Int := if f.ok then (f.col c : Nat) else 0
def Fm.leftI (f : Fm) (c : Int) : Int := if f.ok then (f.left c : Nat) else 0
def high : Fm := ⟨16, 16, false, true, 31, 63, 31, 11, 5, 0⟩
theorem high_wf : high.Wf := ⟨by decide, by decide, by decide, by decide, by decide, by decide, by decide, by decide⟩
theorem std_wf : Fm.std.Wf := ⟨by decide, by decide, by decide, by decide, by decide, by decide, by decide, by decide⟩
theorem high_ok : high.ok = true := by decide +kernel
theorem std_ok : Fm.std.ok = true := by decide +kernel
theorem high_val : high.valI 16744448 = 64512 := by decide +kernel
theorem high_left : high.leftI 16744448 = 16744960 := by decide +kernel
theorem std_left : Fm.std.leftI 1193046 = 1193046 := by decide +kernel
theorem high_back : parF high.bytes = high ∧ parE high.bytes = 0 ∧ high.bytes.size = 16 := by
  have := parse_bytes high_ok ⟨#[]⟩
  rwa [show high.bytes ++ (⟨#[]⟩ : ByteArray) = high.bytes from by apply ByteArray.ext; simp] at this
theorem below_n {w a b : World} (h : Below w.heap.size w a) (k : Below a.heap.size a b) : Below w.heap.size w b := h.trans (k.mono h.size)
end Go.Proofs.Ytmjjbapahgejmaa.Fmt
