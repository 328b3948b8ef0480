/-
  Contracts of the reference of layer 14 (screen): the colour at a place; one colour.
-/
import Derived.Test.YtlamdgdegmjljaaScrRefB
namespace Go.Proofs.Ytlamdgdegmjljaa.Scr
open Go.ChangeShapes Go.WideShapes Go.ChangeAt Go.RowKit Lz RowG RegVal Reg
set_option linter.unusedVariables false
set_option maxRecDepth 100000

theorem SI.read {w : World} {v : Value} {l : List Int} (h : SI w v l) : ∃ a n cap, v = .slice a n cap ∧ l.length = n ∧ ∀ W', Below w.heap.size w W' → 0 < n → ∃ g off, a = some ⟨g, off, none⟩ ∧ ∀ i, i < n → W'.cell? ⟨g, off + i, none⟩ = some (.int .i64 (px l i)) := by
  obtain ⟨a, cap, rfl, hc⟩ := h.cells
  refine ⟨a, l.length, cap, rfl, rfl, fun W' k h0 => ?_⟩
  obtain ⟨g, off, rfl, hg, hc⟩ := hc h0
  exact ⟨g, off, rfl, fun i hi => (k.cell (p := ⟨g, off + i, none⟩) hg).trans (hc i hi)⟩
set_option maxHeartbeats 2000000 in
theorem refAt_any (W H : Int) (l : List Int) (v : Value) (x y : Int) (w : World) (hm : ImOk W H l) (hs : SI w v l) :
    Calls Try.prog 28 #[imgV W H v, .int .i64 x, .int .i64 y] w fun e w' => e = .returned (.int .i64 (atI W H l x y)) ∧ Below w.heap.size w w' := by
  obtain ⟨a, n, cap, rfl, hln, hrd⟩ := hs.read
  have hw := hm.w
  have hh := hm.h
  have hn := hm.n
  have hb := hm.bound
  rw [hln] at hn hb
  have HLN := Lib.hid hln
  have HA : RowKit.Hid (atI W H l x y = if 0 ≤ x ∧ 0 ≤ y ∧ x < W ∧ y < H then px l (y * W + x).toNat else 0) := Lib.hid rfl
  generalize atI W H l x y = R at *
  have bel := (Below.refl w.heap.size w).alloc (Nat.le_refl _) (.cells #[.int .i64 W, .int .i64 H, .slice a n cap] 32)
  obtain ⟨⟨c0, c1, c2⟩, _⟩ := (VarAt.new w W H (.slice a n cap)).cells
  have HC := Lib.hid (hrd _ bel)
  have HB := Lib.hid bel
  clear hrd bel hs hm hln
  unfold imgV
  by_cases h0 : 0 ≤ x
  case neg =>
    have d0 : decide (x < 0) = true := decide_eq_true (by omega)
    have hR : R = 0 := by rw [HA.out, if_neg (fun h => h0 (by omega))]
    subst hR
    clear HA HC hn
    go_enter Try.func28, Try.ntmps28
    go_wp2_with fail
    go_ret
    exact ⟨rfl, HB.out⟩
  have d0 : decide (x < 0) = false := decide_eq_false (by omega)
  by_cases h1 : 0 ≤ y
  case neg =>
    have d1 : decide (y < 0) = true := decide_eq_true (by omega)
    have hR : R = 0 := by rw [HA.out, if_neg (fun h => h1 (by omega))]
    subst hR
    clear HA HC hn
    go_enter Try.func28, Try.ntmps28
    go_wp2_with fail
    go_ret
    exact ⟨rfl, HB.out⟩
  have d1 : decide (y < 0) = false := decide_eq_false (by omega)
  by_cases h2 : x < W
  case neg =>
    have d2 : decide (W ≤ x) = true := decide_eq_true (by omega)
    have hR : R = 0 := by rw [HA.out, if_neg (fun h => h2 (by omega))]
    subst hR
    clear HA HC hn
    go_enter Try.func28, Try.ntmps28
    go_wp2_with fail
    go_ret
    exact ⟨rfl, HB.out⟩
  have d2 : decide (W ≤ x) = false := decide_eq_false (by omega)
  by_cases h3 : y < H
  case neg =>
    have d3 : decide (H ≤ y) = true := decide_eq_true (by omega)
    have hR : R = 0 := by rw [HA.out, if_neg (fun h => h3 (by omega))]
    subst hR
    clear HA HC hn
    go_enter Try.func28, Try.ntmps28
    go_wp2_with fail
    go_ret
    exact ⟨rfl, HB.out⟩
  have d3 : decide (H ≤ y) = false := decide_eq_false (by omega)
  have hsp := at_spot (H := H) ⟨h0, h2⟩ ⟨h1, h3⟩
  obtain ⟨X, rfl⟩ : ∃ X : Nat, x = X := ⟨x.toNat, by omega⟩
  have hp0 : 0 ≤ y * W := Int.mul_nonneg h1 (by omega)
  obtain ⟨p, hp⟩ : ∃ p : Nat, y * W = p := ⟨(y * W).toNat, by omega⟩
  rw [hp] at hsp
  obtain ⟨i, hi⟩ : ∃ i, p + X = i := ⟨_, rfl⟩
  have hii : (p : Int) + X = i := by omega
  have hin : i < n := by omega
  obtain ⟨g, off, rfl, hc⟩ := HC.out (by omega)
  have hcell := hc i hin
  have hR : R = px l i := by rw [HA.out, if_pos ⟨h0, h1, h2, h3⟩, hp, hii, Int.toNat_natCast]
  subst hR
  have w3 : IntKind.i64.wrap (p : Nat) = (p : Nat) := IntWalk.i64_in _ (by omega)
  have w4 : wrap64 (p : Nat) = (p : Nat) := IntWalk.wrap64_in _ (by omega)
  clear HA HC hc hn hsp hi hw hh h0 h1 h2 h3 hp0
  generalize px l i = c at *
  go_enter Try.func28, Try.ntmps28
  go_wp2_with fail
  go_ret
  exact ⟨rfl, HB.out⟩
end Go.Proofs.Ytlamdgdegmjljaa.Scr
