/-
  Plain facts of layer 5: the least cost of all lengths, as the reference tries them. Nothing of the program is named here.
-/
import Derived.Test.YtildikdoimobhaaHufMath
namespace Go.Proofs.Ytildikdoimobhaa.Huf

/-- The better of two; below 0 there is none. -/
def better (best rest c : Int) : Int := if 0 ≤ rest ∧ (best < 0 ∨ rest + c < best) then rest + c else best

/-- The least of some that are tried one behind the other: 'g' tells what is left, 'c' what it costs itself. -/
def tries (g c : Nat → Int) : Nat → Int
  | 0 => -1
  | k + 1 => better (tries g c k) (g k) (c k)

theorem tries_spec (g c : Nat → Int) (hc : ∀ k, 0 ≤ c k) : ∀ k, (-1 ≤ tries g c k) ∧ (∀ j, j < k → 0 ≤ g j → 0 ≤ tries g c k ∧ tries g c k ≤ g j + c j) ∧ (0 ≤ tries g c k → ∃ j, j < k ∧ 0 ≤ g j ∧ tries g c k = g j + c j) := by
  intro k
  induction k with
  | zero => exact ⟨Int.le_refl _, fun j h => by omega, fun h => by simp [tries] at h⟩
  | succ k ih =>
    obtain ⟨i0, i1, i2⟩ := ih
    have hck := hc k
    simp only [tries]
    unfold better
    by_cases h : 0 ≤ g k ∧ (tries g c k < 0 ∨ g k + c k < tries g c k)
    · rw [if_pos h]
      refine ⟨by omega, fun j hj hg => ?_, fun _ => ⟨k, by omega, h.1, rfl⟩⟩
      by_cases e : j = k
      · subst e; omega
      · have := i1 j (by omega) hg; omega
    · rw [if_neg h]
      refine ⟨i0, fun j hj hg => ?_, fun h0 => ?_⟩
      · by_cases e : j = k
        · subst e; omega
        · exact i1 j (by omega) hg
      · obtain ⟨j, hj, r⟩ := i2 h0
        exact ⟨j, by omega, r⟩

/-- The least cost of all lengths from 1 to most that fit into a room. -/
def leastV (most : Nat) : List Nat → Int → Int
  | [], _ => 0
  | f :: r, room => tries (fun l => if room < ((2 ^ (15 - (l + 1)) : Nat) : Int) then -1 else leastV most r (room - ((2 ^ (15 - (l + 1)) : Nat) : Int))) (fun l => (f : Int) * ((l + 1 : Nat) : Int)) most

/-- Lengths that may be tried. -/
def Fits (most : Nat) (room : Int) (ls : List Nat) : Prop := (∀ l ∈ ls, 1 ≤ l ∧ l ≤ most) ∧ ((tot (fun l => 2 ^ (15 - l)) ls : Nat) : Int) ≤ room
/-- What they cost. -/
def costL : List Nat → List Nat → Nat
  | f :: r, l :: s => f * l + costL r s
  | _, _ => 0

theorem leastV_spec (most : Nat) : ∀ (fs : List Nat) (room : Int), 0 ≤ room → -1 ≤ leastV most fs room ∧
    (∀ ls : List Nat, ls.length = fs.length → Fits most room ls → 0 ≤ leastV most fs room ∧ leastV most fs room ≤ (costL fs ls : Nat)) ∧
    (0 ≤ leastV most fs room → ∃ ls : List Nat, ls.length = fs.length ∧ Fits most room ls ∧ leastV most fs room = (costL fs ls : Nat)) := by
  intro fs
  induction fs with
  | nil =>
    intro room hr
    refine ⟨by simp [leastV], fun ls hl _ => ?_, fun _ => ⟨[], rfl, ⟨fun l h => by simp at h, by simpa [tot] using hr⟩, rfl⟩⟩
    obtain rfl := List.length_eq_zero_iff.1 hl
    exact ⟨Int.le_refl _, Int.le_refl _⟩
  | cons f r ih =>
    intro room hr
    obtain ⟨t0, t1, t2⟩ := tries_spec (fun l => if room < ((2 ^ (15 - (l + 1)) : Nat) : Int) then -1 else leastV most r (room - ((2 ^ (15 - (l + 1)) : Nat) : Int))) (fun l => (f : Int) * ((l + 1 : Nat) : Int)) (fun l => Int.mul_nonneg (by omega) (by omega)) most
    refine ⟨t0, fun ls hl hfit => ?_, fun h0 => ?_⟩
    · match ls, hl, hfit with
      | l :: s, hl, ⟨h1, h2⟩ =>
        obtain ⟨l1, l2⟩ := h1 l (by simp)
        have h3 : ((2 ^ (15 - l) : Nat) : Int) + ((tot (fun l => 2 ^ (15 - l)) s : Nat) : Int) ≤ room := by
          have : tot (fun l => 2 ^ (15 - l)) (l :: s) = 2 ^ (15 - l) + tot (fun l => 2 ^ (15 - l)) s := rfl
          rw [this] at h2; omega
        have e : l - 1 + 1 = l := by omega
        have hi := ih (room - ((2 ^ (15 - l) : Nat) : Int)) (by omega)
        have hj := hi.2.1 s (by simpa using hl) ⟨fun x hx => h1 x (by simp [hx]), by omega⟩
        have hk := t1 (l - 1) (by omega)
        simp only [e] at hk
        rw [if_neg (by omega)] at hk
        have hk2 := hk hj.1
        refine ⟨hk2.1, Int.le_trans hk2.2 ?_⟩
        have ec : costL (f :: r) (l :: s) = f * l + costL r s := rfl
        have em : ((f * l : Nat) : Int) = (f : Int) * (l : Int) := Int.natCast_mul ..
        rw [ec]
        omega
    · obtain ⟨j, hj, hg, he⟩ := t2 h0
      by_cases hroom : room < ((2 ^ (15 - (j + 1)) : Nat) : Int)
      · simp only [if_pos hroom] at hg; omega
      · simp only [if_neg hroom] at hg he
        obtain ⟨s, s1, ⟨s2, s3⟩, s4⟩ := (ih (room - ((2 ^ (15 - (j + 1)) : Nat) : Int)) (by omega)).2.2 hg
        refine ⟨(j + 1) :: s, by simp [s1], ⟨fun x hx => ?_, ?_⟩, ?_⟩
        · rcases List.mem_cons.1 hx with rfl | hx
          · omega
          · exact s2 x hx
        · have : tot (fun l => 2 ^ (15 - l)) ((j + 1) :: s) = 2 ^ (15 - (j + 1)) + tot (fun l => 2 ^ (15 - l)) s := rfl
          rw [this]; omega
        · have ec : costL (f :: r) ((j + 1) :: s) = f * (j + 1) + costL r s := rfl
          have em : ((f * (j + 1) : Nat) : Int) = (f : Int) * ((j + 1 : Nat) : Int) := Int.natCast_mul ..
          have hl : leastV most (f :: r) room = tries (fun l => if room < ((2 ^ (15 - (l + 1)) : Nat) : Int) then -1 else leastV most r (room - ((2 ^ (15 - (l + 1)) : Nat) : Int))) (fun l => (f : Int) * ((l + 1 : Nat) : Int)) most := rfl
          rw [hl, he, s4, ec]
          omega

theorem as_map : ∀ (S ls : List Nat), S.Nodup → ls.length = S.length → ∃ l : Nat → Nat, S.map l = ls
  | [], ls, _, h => ⟨fun _ => 0, by rw [List.length_eq_zero_iff.1 h]; rfl⟩
  | s :: S, [], _, h => by simp at h
  | s :: S, x :: ls, hd, h => by
    obtain ⟨h1, h2⟩ := List.nodup_cons.1 hd
    obtain ⟨l, hl⟩ := as_map S ls h2 (by simpa using h)
    refine ⟨fun i => if i = s then x else l i, ?_⟩
    rw [List.map_cons, if_pos rfl, ← hl]
    congr 1
    apply List.map_congr_left
    intro i hi
    rw [if_neg]
    rintro rfl
    exact h1 hi

theorem costL_map (f l : Nat → Nat) (S : List Nat) : costL (S.map f) (S.map l) = tot (fun i => f i * l i) S := by
  induction S with
  | nil => rfl
  | cons s S ih => simp only [List.map_cons, costL, tot, ih]

theorem room_scale (S : List Nat) (L : Nat) (l : Nat → Nat) (hL : L ≤ 15) (hl : ∀ i ∈ S, l i ≤ L) : tot (fun i => 2 ^ (15 - l i)) S = 2 ^ (15 - L) * tot (fun i => 2 ^ (L - l i)) S := by
  rw [← tot_mul]
  apply tot_congr
  intro i hi
  have := hl i hi
  rw [← Nat.pow_add]
  congr 1
  omega

/-- The least cost of all lengths that may be tried is what the first packages cost. -/
theorem least_made (f : Nat → Nat) (S : List Nat) (hS : S.Nodup) (h2 : 2 ≤ S.length) (hf : ∀ i ∈ S, 0 < f i) (L : Nat) (hL : 1 ≤ L) (h15 : L ≤ 15) (hn : S.length ≤ 2 ^ L) (P : List Tr) (hP : Lv f S L P) :
    leastV L (S.map f) 32768 = ((tot (fun i => f i * often i (P.take (2 * S.length - 2))) S : Nat) : Int) := by
  obtain ⟨_, m1, m2, _, m4, m5⟩ := made f S hS h2 hf L hL hn P hP
  generalize hm : (fun i => often i (P.take (2 * S.length - 2))) = m at *
  have hm' : ∀ i, often i (P.take (2 * S.length - 2)) = m i := fun i => by rw [← hm]
  simp only [hm'] at *
  have hp : (2 : Nat) ^ (15 - L) * 2 ^ L = 32768 := by rw [← Nat.pow_add, show 15 - L + L = 15 by omega]
  obtain ⟨_, s1, s2⟩ := leastV_spec L (S.map f) 32768 (by decide)
  have hfit : Fits L 32768 (S.map m) := by
    refine ⟨fun x hx => ?_, ?_⟩
    · obtain ⟨i, hi, rfl⟩ := List.mem_map.1 hx
      exact ⟨m1 i hi, m2 i⟩
    · rw [tot_map, room_scale S L m h15 (fun i _ => m2 i), m4, hp]; decide
  obtain ⟨a, b⟩ := s1 (S.map m) (by simp) hfit
  rw [costL_map] at b
  obtain ⟨ls, l1, ⟨l2, l3⟩, l4⟩ := s2 a
  obtain ⟨l, hl⟩ := as_map S ls hS (by simpa using l1)
  have hlL : ∀ i ∈ S, l i ≤ L := fun i hi => (l2 (l i) (by rw [← hl]; exact List.mem_map_of_mem hi)).2
  rw [← hl, tot_map, room_scale S L l h15 hlL] at l3
  have hk : tot (fun i => 2 ^ (L - l i)) S ≤ 2 ^ L := by
    have h3 : 2 ^ (15 - L) * tot (fun i => 2 ^ (L - l i)) S ≤ 2 ^ (15 - L) * 2 ^ L := by rw [hp]; omega
    exact Nat.le_of_mul_le_mul_left h3 (Nat.pow_pos (by decide))
  have h6 := m5 l hlL hk
  rw [l4, ← hl, costL_map] at b ⊢
  omega

end Go.Proofs.Ytildikdoimobhaa.Huf
