/-
  Plain facts of layer 14 (screen): what is cut into four parts and drawn part by part. Nothing of the program is named here.
-/
import Derived.Test.YtlamdgdegmjljaaScrMath
namespace Go.Proofs.Ytlamdgdegmjljaa.Scr
open Go.Proofs.Ytlamdgdegmjljaa.Reg (Rc)
set_option linter.unusedVariables false

theorem whole_in {W H : Int} {l : List Int} (h : ImOk W H l) : insB ⟨0, 0, W, H⟩ W H = true := by
  have := h.w
  have := h.h
  rw [ins_iff]
  simp only
  omega
theorem whole_blit {W H : Int} {l q : List Int} (h : ImOk W H l) (hq : rightQ ⟨0, 0, W, H⟩ q = true) : blitL W ⟨0, 0, W, H⟩ q l = q := by
  unfold rightQ at hq
  rw [Bool.and_eq_true] at hq
  have hl : (q.length : Int) = W * H := of_decide_eq_true hq.1
  have hn := h.n
  have hlen : l.length = q.length := by omega
  refine row_ext (by unfold blitL; rw [gen_length]; exact hlen) fun i hi => ?_
  unfold blitL at hi ⊢
  rw [gen_length] at hi
  rw [px_gen hi]
  obtain ⟨p0, p1, p2, p3, p4⟩ := h.place hi
  unfold blitF
  rw [if_pos (by rw [in_iff]; simp only; omega)]
  simp only
  rw [Int.sub_zero, Int.sub_zero, p4, Int.toNat_natCast]
/-- A part that is drawn at its own place. -/
theorem blit_part {W H : Int} {la lb : List Int} (ha : ImOk W H la) (hb : ImOk W H lb) {r : Rc} (hr : insB r W H = true) {i : Nat} (hi : i < la.length) :
    px (blitL W r (partL W r la) lb) i = if inB r (i % W) (i / W) then px la i else px lb i := by
  have hlen : lb.length = la.length := by have := ha.n; have := hb.n; omega
  unfold blitL
  rw [px_gen (by rw [hlen]; exact hi)]
  unfold blitF
  split
  · rename_i hin
    rw [part_at ha hr hin, (ha.place hi).2.2.2.2, Int.toNat_natCast]
  · rfl
theorem blit_own {W H : Int} {la : List Int} (ha : ImOk W H la) {r : Rc} (hr : insB r W H = true) : blitL W r (partL W r la) la = la := by
  refine row_ext (by unfold blitL; rw [gen_length]) fun i hi => ?_
  rw [blit_part ha ha hr (by unfold blitL at hi; rwa [gen_length] at hi)]
  split <;> rfl
theorem fill_at {W H : Int} {l : List Int} (h : ImOk W H l) (r : Rc) (c x y : Int) (hx : 0 ≤ x ∧ x < W) (hy : 0 ≤ y ∧ y < H) : atI W H (fillL W r c l) x y = if inB r x y then c else atI W H l x y := by
  have hs := at_spot hx hy
  have hn := h.n
  unfold atI
  have hc : 0 ≤ x ∧ 0 ≤ y ∧ x < W ∧ y < H := ⟨hx.1, hy.1, hx.2, hy.2⟩
  rw [if_pos hc, if_pos hc]
  unfold fillL
  rw [px_gen (by omega)]
  unfold fillF
  have e1 : ((y * W + x).toNat : Int) % W = x := by
    rw [Int.toNat_of_nonneg hs.1, Int.add_comm, Int.add_mul_emod_self_right]
    exact Int.emod_eq_of_lt hx.1 hx.2
  have e2 : ((y * W + x).toNat : Int) / W = y := by
    rw [Int.toNat_of_nonneg hs.1, Int.add_comm, Int.add_mul_ediv_right _ _ (by omega), Int.ediv_eq_zero_of_lt hx.1 hx.2, Int.zero_add]
  rw [e1, e2]
theorem fill_twice {W H : Int} {l : List Int} (h : ImOk W H l) (r : Rc) (c : Int) : fillL W r c (fillL W r c l) = fillL W r c l := by
  refine row_ext (by unfold fillL; rw [gen_length, gen_length]) fun i hi => ?_
  unfold fillL at hi ⊢
  rw [gen_length, gen_length] at hi
  rw [px_gen (by rw [gen_length]; exact hi), px_gen hi]
  unfold fillF
  split
  · rfl
  · rename_i hc
    rw [px_gen hi, if_neg hc]
/-- The four parts. -/
def quart (w h x y : Int) : List Rc := [⟨0, 0, x, y⟩, ⟨x, 0, w - x, y⟩, ⟨0, y, x, h - y⟩, ⟨x, y, w - x, h - y⟩]
def quartR (w h x y : Int) (k : Nat) : Rc := (quart w h x y).getD k ⟨0, 0, 0, 0⟩
theorem quart_in {w h x y : Int} (hx : 0 ≤ x ∧ x ≤ w) (hy : 0 ≤ y ∧ y ≤ h) {k : Nat} (hk : k < 4) : insB (quartR w h x y k) w h = true := by
  have : k = 0 ∨ k = 1 ∨ k = 2 ∨ k = 3 := by omega
  rcases this with rfl | rfl | rfl | rfl <;> (rw [ins_iff]; simp only [quartR, quart, List.getD_cons_zero, List.getD_cons_succ]; omega)
def Agree (w h x y : Int) (k : Nat) (la lb : List Int) : Prop := ∀ i, i < la.length → (∃ j, j < k ∧ inB (quartR w h x y j) (i % w) (i / w) = true) → px lb i = px la i
theorem Agree.none (w h x y : Int) (la lb : List Int) : Agree w h x y 0 la lb := fun i _ ⟨j, hj, _⟩ => by omega
theorem Agree.next {w h x y : Int} {k : Nat} {la lb : List Int} (ha : ImOk w h la) (hb : ImOk w h lb) (hr : insB (quartR w h x y k) w h = true) (hg : Agree w h x y k la lb) : Agree w h x y (k + 1) la (blitL w (quartR w h x y k) (partL w (quartR w h x y k) la) lb) := by
  intro i hi ⟨j, hj, hin⟩
  rw [blit_part ha hb hr hi]
  split
  · rfl
  · rename_i hn
    refine hg i hi ⟨j, ?_, hin⟩
    rcases Nat.lt_or_ge j k with h1 | h1
    · exact h1
    · obtain rfl : j = k := by omega
      exact absurd hin hn
theorem Agree.all {w h x y : Int} {la lb : List Int} (ha : ImOk w h la) (hb : ImOk w h lb) (hx : 0 ≤ x ∧ x ≤ w) (hy : 0 ≤ y ∧ y ≤ h) (hg : Agree w h x y 4 la lb) : la = lb := by
  refine row_ext (by have := ha.n; have := hb.n; omega) fun i hi => ?_
  obtain ⟨p0, p1, p2, p3, _⟩ := ha.place hi
  symm
  refine hg i hi ?_
  by_cases h1 : (i : Int) % w < x
  · by_cases h2 : (i : Int) / w < y
    · refine ⟨0, by decide, in_iff.2 ?_⟩
      simp only [quartR, quart, List.getD_cons_zero]
      omega
    · refine ⟨2, by decide, in_iff.2 ?_⟩
      simp only [quartR, quart, List.getD_cons_zero, List.getD_cons_succ]
      omega
  · by_cases h2 : (i : Int) / w < y
    · refine ⟨1, by decide, in_iff.2 ?_⟩
      simp only [quartR, quart, List.getD_cons_zero, List.getD_cons_succ]
      omega
    · refine ⟨3, by decide, in_iff.2 ?_⟩
      simp only [quartR, quart, List.getD_cons_zero, List.getD_cons_succ]
      omega
theorem alike_self (r : Rc) : alike r r = true := decide_eq_true ⟨rfl, rfl⟩
end Go.Proofs.Ytlamdgdegmjljaa.Scr
