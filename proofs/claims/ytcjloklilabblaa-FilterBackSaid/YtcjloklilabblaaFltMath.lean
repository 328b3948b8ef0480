/-
  Plain facts of layer 11 (filter): what a byte is guessed to be, rows filtered and unfiltered byte by byte, weights. Nothing of the program is named here.
-/
import Derived.Below
namespace Go.Proofs.Ytcjloklilabblaa.Flt
set_option linter.unusedVariables false

/-- How far two numbers are apart. -/
def farI (a b : Int) : Int := if a - b < b - a then b - a else a - b
/-- What a byte is guessed to be. -/
def guessI (k a b c : Int) : Int :=
  if k = 1 then a else if k = 2 then b else if k = 3 then (a + b) / 2 else if k ≠ 4 then 0
  else if farI (a + b - c) a ≤ farI (a + b - c) b ∧ farI (a + b - c) a ≤ farI (a + b - c) c then a
  else if farI (a + b - c) b ≤ farI (a + b - c) c then b else c
theorem guess_byte {k a b c : Int} (ha : 0 ≤ a ∧ a < 256) (hb : 0 ≤ b ∧ b < 256) (hc : 0 ≤ c ∧ c < 256) : 0 ≤ guessI k a b c ∧ guessI k a b c < 256 := by
  unfold guessI
  repeat' split
  all_goals omega
theorem guess_none (a b c : Int) : guessI 0 a b c = 0 := by unfold guessI; simp
theorem guess_sub (a b c : Int) : guessI 1 a b c = a := by unfold guessI; simp
theorem guess_up (a b c : Int) : guessI 2 a b c = b := by unfold guessI; simp
theorem guess_paeth0 {a : Int} (ha : 0 ≤ a) : guessI 4 a 0 0 = a := by
  unfold guessI farI
  repeat' split
  all_goals omega
theorem guess_zero (k : Int) : guessI k 0 0 0 = 0 := by
  unfold guessI farI
  repeat' split
  all_goals omega

/-- A byte, or 0. -/
def atB (s : List UInt8) (i : Int) : Int := if 0 ≤ i then ((s.getD i.toNat 0).toNat : Int) else 0
theorem atB_byte (s : List UInt8) (i : Int) : 0 ≤ atB s i ∧ atB s i < 256 := by
  unfold atB
  split
  · have := (s.getD i.toNat 0).toNat_lt
    omega
  · omega
theorem atB_nil (i : Int) : atB [] i = 0 := by
  unfold atB
  split
  · simp
  · rfl
theorem atB_low (s : List UInt8) {i : Int} (h : i < 0) : atB s i = 0 := by unfold atB; rw [if_neg (by omega)]
theorem atB_past {s : List UInt8} {i : Int} (h : (s.length : Int) ≤ i) : atB s i = 0 := by
  unfold atB
  rw [if_pos (by omega), List.getD_eq_getElem?_getD, List.getElem?_eq_none (by omega)]; rfl
theorem atB_in {s : List UInt8} {i : Nat} (h : i < s.length) : atB s i = (s[i].toNat : Int) := by
  unfold atB
  rw [if_pos (by omega), Int.toNat_natCast, List.getD_eq_getElem?_getD, List.getElem?_eq_getElem h]; rfl
theorem atB_take {s : List UInt8} {n : Nat} {i : Int} (h : i < n) : atB (s.take n) i = atB s i := by
  unfold atB
  split
  · rw [List.getD_eq_getElem?_getD, List.getD_eq_getElem?_getD, List.getElem?_take_of_lt (by omega)]
  · rfl
theorem atB_ahead {s r : List UInt8} {i : Int} (h : i < s.length) : atB (s ++ r) i = atB s i := by
  unfold atB
  split
  · rw [List.getD_eq_getElem?_getD, List.getD_eq_getElem?_getD, List.getElem?_append_left (by omega)]
  · rfl

/-- A number as a byte. -/
def byteI (x : Int) : UInt8 := UInt8.ofNat (x % 256).toNat
theorem byteI_val (x : Int) : ((byteI x).toNat : Int) = x % 256 := by
  unfold byteI
  have h1 : 0 ≤ x % 256 := Int.emod_nonneg _ (by decide)
  have h2 : x % 256 < 256 := Int.emod_lt_of_pos _ (by decide)
  rw [UInt8.toNat_ofNat']
  omega
theorem byteI_of (b : UInt8) {x : Int} (h : x % 256 = (b.toNat : Int)) : byteI x = b := by
  apply UInt8.toNat_inj.1
  have := byteI_val x
  omega

/-- The byte n of a row filtered. -/
def filB (k st : Int) (prev row : List UInt8) (n : Nat) : UInt8 := byteI (atB row n - guessI k (atB row (n - st)) (atB prev n) (atB prev (n - st)) + 256)
/-- So many bytes of a row filtered. -/
def filL (k st : Int) (prev row : List UInt8) : Nat → List UInt8
  | 0 => []
  | n + 1 => filL k st prev row n ++ [filB k st prev row n]
/-- So many bytes of a row unfiltered. -/
def unfL (k st : Int) (prev row : List UInt8) : Nat → List UInt8
  | 0 => []
  | n + 1 => unfL k st prev row n ++ [byteI (atB row n + guessI k (atB (unfL k st prev row n) (n - st)) (atB prev n) (atB prev (n - st)))]
theorem unfL_succ (k st : Int) (prev row : List UInt8) (n : Nat) : unfL k st prev row (n + 1) = unfL k st prev row n ++ [byteI (atB row n + guessI k (atB (unfL k st prev row n) (n - st)) (atB prev n) (atB prev (n - st)))] := rfl
theorem filL_length (k st : Int) (prev row : List UInt8) (n : Nat) : (filL k st prev row n).length = n := by
  induction n with
  | zero => rfl
  | succ n ih => unfold filL; rw [List.length_append, ih]; rfl
theorem unfL_length (k st : Int) (prev row : List UInt8) (n : Nat) : (unfL k st prev row n).length = n := by
  induction n with
  | zero => rfl
  | succ n ih => unfold unfL; rw [List.length_append, ih]; rfl
theorem filL_get (k st : Int) (prev row : List UInt8) {i n : Nat} (h : i < n) : atB (filL k st prev row n) i = ((filB k st prev row i).toNat : Int) := by
  induction n with
  | zero => omega
  | succ n ih =>
    unfold filL
    by_cases hi : i < n
    · rw [atB_ahead (by rw [filL_length]; omega), ih hi]
    · obtain rfl : i = n := by omega
      rw [atB_in (by rw [List.length_append, filL_length]; simp), List.getElem_append_right (by rw [filL_length]; exact Nat.le_refl _)]
      simp [filL_length]
/-- What comes first of what is unfiltered. -/
theorem unfL_part (k st : Int) (prev row : List UInt8) {m n : Nat} (h : m ≤ n) : ∃ r, unfL k st prev row n = unfL k st prev row m ++ r := by
  induction n with
  | zero => obtain rfl : m = 0 := by omega
            exact ⟨[], by simp⟩
  | succ n ih =>
    by_cases hm : m ≤ n
    · obtain ⟨r, hr⟩ := ih hm
      refine ⟨r ++ [byteI (atB row n + guessI k (atB (unfL k st prev row n) (n - st)) (atB prev n) (atB prev (n - st)))], ?_⟩
      rw [← List.append_assoc, ← hr]; rfl
    · obtain rfl : m = n + 1 := by omega
      exact ⟨[], by simp⟩
theorem unfL_at (k st : Int) (prev row : List UInt8) {m n : Nat} {i : Int} (h : m ≤ n) (hi : i < m) : atB (unfL k st prev row n) i = atB (unfL k st prev row m) i := by
  obtain ⟨r, hr⟩ := unfL_part k st prev row h
  rw [hr, atB_ahead (by rw [unfL_length]; exact hi)]
theorem take_snoc (row : List UInt8) {n : Nat} (h : n < row.length) : row.take (n + 1) = row.take n ++ [row[n]] := by
  rw [List.take_succ_eq_append_getElem h]

/-- What is filtered is unfiltered again. -/
theorem unf_fil {k st : Int} (hst : 1 ≤ st) (prev row : List UInt8) : ∀ n, n ≤ row.length → unfL k st prev (filL k st prev row row.length) n = row.take n := by
  intro n
  induction n with
  | zero => intro _; simp [unfL]
  | succ n ih =>
    intro hn
    unfold unfL
    rw [ih (by omega), take_snoc row (by omega), filL_get _ _ _ _ (show n < row.length by omega), atB_take (show (n : Int) - st < n by omega)]
    congr 2
    apply byteI_of
    unfold filB
    rw [byteI_val, ← atB_in (show n < row.length by omega)]
    have h1 := guess_byte (k := k) (atB_byte row (n - st)) (atB_byte prev n) (atB_byte prev (n - st))
    have h2 := atB_byte row n
    omega
/-- What is unfiltered is filtered again. -/
theorem fil_unf {k st : Int} (hst : 1 ≤ st) (prev row : List UInt8) : ∀ n, n ≤ row.length → filL k st prev (unfL k st prev row row.length) n = row.take n := by
  intro n
  induction n with
  | zero => intro _; simp [filL]
  | succ n ih =>
    intro hn
    unfold filL
    rw [ih (by omega), take_snoc row (by omega)]
    congr 2
    apply byteI_of
    rw [unfL_at k st prev row (show n + 1 ≤ row.length by omega) (show (n : Int) < ((n + 1 : Nat) : Int) by omega), unfL_at k st prev row (show n ≤ row.length by omega) (show (n : Int) - st < n by omega)]
    have e : atB (unfL k st prev row (n + 1)) n = (atB row n + guessI k (atB (unfL k st prev row n) (n - st)) (atB prev n) (atB prev (n - st))) % 256 := by
      rw [unfL_succ, atB_in (by rw [List.length_append, unfL_length]; simp), List.getElem_append_right (by rw [unfL_length]; exact Nat.le_refl _)]
      simp only [unfL_length, Nat.sub_self, List.getElem_cons_zero]
      exact byteI_val _
    rw [e, ← atB_in (show n < row.length by omega)]
    have h1 := guess_byte (k := k) (atB_byte (unfL k st prev row n) (n - st)) (atB_byte prev n) (atB_byte prev (n - st))
    have h2 := atB_byte row n
    omega

/-- Filtering changes nothing where nothing is guessed. -/
theorem fil_still {k st : Int} {prev row : List UInt8} (h : ∀ n, n < row.length → guessI k (atB row (n - st)) (atB prev n) (atB prev (n - st)) = 0) : ∀ n, n ≤ row.length → filL k st prev row n = row.take n := by
  intro n
  induction n with
  | zero => intro _; simp [filL]
  | succ n ih =>
    intro hn
    unfold filL
    rw [ih (by omega), take_snoc row (by omega)]
    congr 2
    unfold filB
    apply byteI_of
    rw [h n (by omega), ← atB_in (show n < row.length by omega)]
    have h2 := atB_byte row n
    omega
theorem fil_same {k j st : Int} {prev prev' row : List UInt8} (h : ∀ n, n < row.length → guessI k (atB row (n - st)) (atB prev n) (atB prev (n - st)) = guessI j (atB row (n - st)) (atB prev' n) (atB prev' (n - st))) : ∀ n, n ≤ row.length → filL k st prev row n = filL j st prev' row n := by
  intro n
  induction n with
  | zero => intro _; rfl
  | succ n ih =>
    intro hn
    unfold filL filB
    rw [ih (by omega), h n (by omega)]
theorem atB_zeros (m : Nat) (i : Int) : atB (List.replicate m 0) i = 0 := by
  unfold atB
  split
  · rw [List.getD_eq_getElem?_getD, List.getElem?_replicate]
    split <;> rfl
  · rfl
theorem unf_zeros (k st : Int) (m : Nat) : ∀ n, unfL k st (List.replicate m 0) (List.replicate m 0) n = List.replicate n 0 := by
  intro n
  induction n with
  | zero => rfl
  | succ n ih =>
    unfold unfL
    rw [ih, List.replicate_succ']
    simp only [atB_zeros, guess_zero]
    rfl

/-- The weight of a byte, of bytes. -/
def wtB (b : UInt8) : Nat := if b.toNat < 256 - b.toNat then b.toNat else 256 - b.toNat
def wtL : List UInt8 → Nat
  | [] => 0
  | b :: r => wtB b + wtL r
theorem wtL_append (a b : List UInt8) : wtL (a ++ b) = wtL a + wtL b := by
  induction a with
  | nil => simp [wtL]
  | cons x r ih => simp only [List.cons_append, wtL, ih]; omega
theorem wtL_le (l : List UInt8) : wtL l ≤ l.length * 128 := by
  induction l with
  | nil => simp [wtL]
  | cons x r ih =>
    have : wtB x ≤ 128 := by unfold wtB; split <;> omega
    simp only [wtL, List.length_cons]; omega
theorem wtL_zeros (n : Nat) : wtL (List.replicate n 0) = 0 := by
  induction n with
  | zero => rfl
  | succ n ih => rw [List.replicate_succ]; simp only [wtL, ih]; rfl
/-- The first one of the least of so many. -/
def pick (f : Nat → Nat) : Nat → Nat
  | 0 => 0
  | n + 1 => if f (n + 1) < f (pick f n) then n + 1 else pick f n
theorem pick_spec (f : Nat → Nat) : ∀ n, pick f n ≤ n ∧ ∀ k, k ≤ n → f (pick f n) ≤ f k ∧ (k < pick f n → f (pick f n) < f k) := by
  intro n
  induction n with
  | zero => exact ⟨Nat.le_refl _, fun k hk => by obtain rfl : k = 0 := by omega
                                                 exact ⟨Nat.le_refl _, fun h => by simp [pick] at h⟩⟩
  | succ n ih =>
    obtain ⟨i1, i2⟩ := ih
    unfold pick
    split
    · refine ⟨Nat.le_refl _, fun k hk => ?_⟩
      rcases Nat.lt_or_ge k (n + 1) with h | h
      · have := (i2 k (by omega)).1
        exact ⟨by omega, fun _ => by omega⟩
      · obtain rfl : k = n + 1 := by omega
        exact ⟨Nat.le_refl _, fun h => by omega⟩
    · refine ⟨by omega, fun k hk => ?_⟩
      rcases Nat.lt_or_ge k (n + 1) with h | h
      · exact i2 k (by omega)
      · obtain rfl : k = n + 1 := by omega
        exact ⟨by omega, fun h => by omega⟩
end Go.Proofs.Ytcjloklilabblaa.Flt
