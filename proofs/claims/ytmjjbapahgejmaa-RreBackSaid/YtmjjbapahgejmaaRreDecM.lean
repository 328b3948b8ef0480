/-
  Plain facts of layer 17 (rre): what is decoded, piece by piece or all pieces first. Nothing of the program is named here.
-/
import Derived.Test.YtmjjbapahgejmaaRreSays
namespace Go.Proofs.Ytmjjbapahgejmaa.Rre
open Pln
open Go.Proofs.Ytmjjbapahgejmaa.Fmt (Fm)
set_option linter.unusedVariables false

/-- Where a piece stands; the first pieces. -/
def posN (f : Fm) (k : Nat) : Nat := 4 + (f.B / 8).toNat + k * ((f.B / 8).toNat + 8)
def pcsN (f : Fm) (s : ByteArray) (k : Nat) : List Pc := (List.range k).map (fun j => pcAt f s (posN f j))
theorem pcsN_succ (f : Fm) (s : ByteArray) (k : Nat) : pcsN f s (k + 1) = pcsN f s k ++ [pcAt f s (posN f k)] := by simp [pcsN, List.range_succ]
theorem pcsN_length (f : Fm) (s : ByteArray) (k : Nat) : (pcsN f s k).length = k := by simp [pcsN]
theorem pcsN_get {f : Fm} {s : ByteArray} {n k : Nat} (h : k < n) : (pcsN f s n)[k]? = some (pcAt f s (posN f k)) := by
  simp [pcsN, h]
theorem pcsN_take {f : Fm} {s : ByteArray} {n k : Nat} (h : k ≤ n) : (pcsN f s n).take k = pcsN f s k := by
  unfold pcsN
  rw [← List.map_take, List.take_range, Nat.min_eq_left h]
theorem posN_succ (f : Fm) (k : Nat) : posN f (k + 1) = posN f k + (f.B / 8).toNat + 8 := by unfold posN; rw [Nat.add_mul]; omega
theorem posN_mono {f : Fm} {j k : Nat} (h : j ≤ k) : posN f j ≤ posN f k := by
  unfold posN
  have := Nat.mul_le_mul_right ((f.B / 8).toNat + 8) h
  omega
theorem paintL_append (w : Nat) (l : List Int) (a b : List Pc) : paintL w l (a ++ b) = paintL w (paintL w l a) b := by simp [paintL]
theorem dec_ok {f : Fm} {W H : Nat} {s : ByteArray} : ∀ k, (decN f W H s k).e = 0 → (decN f W H s k).i = posN f k ∧ (decN f W H s k).l = paintL W (gen (W * H) (fun _ => f.get (s.extract 4 s.size))) (pcsN f s k) ∧ ∀ j, j < k → posN f (j + 1) ≤ s.size ∧ insN (pcAt f s (posN f j)) W H = true
  | 0, _ => ⟨by simp [decN, posN], by simp [decN, pcsN, paintL], fun j hj => by omega⟩
  | k + 1, h => by
    have h0 : (decN f W H s k).e = 0 := by
      apply Classical.byContradiction
      intro hn
      rw [decN_bad hn 1] at h
      exact hn h
    obtain ⟨h1, h2, h3⟩ := dec_ok k h0
    show (decS f W H s (decN f W H s k)).i = _ ∧ (decS f W H s (decN f W H s k)).l = _ ∧ _
    have hS : decS f W H s (decN f W H s k) = if s.size < posN f (k + 1) then ⟨2, [], 0⟩ else if insN (pcAt f s (posN f k)) W H then ⟨0, paint1 W (decN f W H s k).l (pcAt f s (posN f k)), posN f (k + 1)⟩ else ⟨140, [], 0⟩ := by
      unfold decS
      rw [if_neg (by simpa using h0), h1, ← posN_succ]
    have h' : (decS f W H s (decN f W H s k)).e = 0 := h
    rw [hS] at h' ⊢
    by_cases c1 : s.size < posN f (k + 1)
    · rw [if_pos c1] at h'
      exact absurd h' (by decide)
    · rw [if_neg c1] at h' ⊢
      by_cases c2 : insN (pcAt f s (posN f k)) W H = true
      · rw [if_pos c2] at h' ⊢
        refine ⟨rfl, ?_, fun j hj => ?_⟩
        · rw [pcsN_succ, paintL_append, ← h2]
          rfl
        · rcases Nat.lt_or_ge j k with h4 | h4
          · exact h3 j h4
          · obtain rfl : j = k := by omega
            exact ⟨by omega, c2⟩
      · rw [if_neg c2] at h'
        exact absurd h' (by decide)
/-- One step more. -/
theorem dec_next {f : Fm} {W H : Nat} {s : ByteArray} {k : Nat} (h : (decN f W H s k).e = 0) : (decN f W H s (k + 1)).e = if s.size < posN f (k + 1) then 2 else if insN (pcAt f s (posN f k)) W H then 0 else 140 := by
  obtain ⟨h1, _, _⟩ := dec_ok k h
  show (decS f W H s (decN f W H s k)).e = _
  unfold decS
  rw [if_neg (by simpa using h), h1, ← posN_succ]
  split
  · rfl
  · split <;> rfl
theorem dec_stop {f : Fm} {W H : Nat} {s : ByteArray} {k n : Nat} (h : (decN f W H s (k + 1)).e ≠ 0) (hn : k < n) : (decN f W H s n).e = (decN f W H s (k + 1)).e := by
  rw [show n = (k + 1) + (n - (k + 1)) by omega, decN_bad h]
/-- Colours instead of values. -/
theorem paint_map (w : Nat) (F : Int → Int) (l : List Int) (p : Pc) : paint1 w (l.map F) ⟨F p.v, p.x, p.y, p.n, p.m⟩ = (paint1 w l p).map F := by
  refine row_ext ?_ (fun k hk => ?_)
  · unfold paint1
    rw [gen_length, List.length_map, List.length_map, gen_length]
  · unfold paint1 at hk ⊢
    rw [gen_length, List.length_map] at hk
    have e1 : ∀ (G : Nat → Int), px ((gen l.length G).map F) k = F (G k) := fun G => by
      rw [px_get (by rw [List.length_map, gen_length]; exact hk), List.getElem_map, ← px_get (by rw [gen_length]; exact hk), px_gen hk]
    rw [e1, List.length_map, px_gen hk]
    have e2 : px (l.map F) k = F (px l k) := by rw [px_get (by rw [List.length_map]; exact hk), List.getElem_map, ← px_get hk]
    rw [e2]
    show (if p.has _ _ = true then F p.v else F (px l k)) = _
    split <;> rfl
theorem paint_whole (w h : Nat) (c : Int) (l : List Int) (hl : l.length = w * h) : paint1 w l ⟨c, 0, 0, w, h⟩ = gen (w * h) (fun _ => c) := by
  unfold paint1
  rw [hl]
  refine gen_congr (fun k hk => ?_)
  have hw : 0 < w := by
    rcases Nat.eq_zero_or_pos w with h0 | h0
    · subst h0; simp at hk
    · exact h0
  rw [if_pos ?_]
  rw [has_iff]
  refine ⟨Nat.zero_le _, by simpa using Nat.mod_lt _ hw, Nat.zero_le _, ?_⟩
  rw [Nat.zero_add]
  exact Nat.div_lt_of_lt_mul hk
theorem gen_map (n : Nat) (c : Int) (F : Int → Int) : (gen n (fun _ => c)).map F = gen n (fun _ => F c) := by simp [gen]
end Go.Proofs.Ytmjjbapahgejmaa.Rre
