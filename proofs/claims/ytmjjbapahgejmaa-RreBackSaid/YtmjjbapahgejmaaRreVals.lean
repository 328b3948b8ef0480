/-
  Plain facts of layer 17 (rre): what a rectangle's values are. Nothing of the program is named here.
-/
import Derived.Test.YtmjjbapahgejmaaRreSays
namespace Go.Proofs.Ytmjjbapahgejmaa.Rre
open Pln
open Go.Proofs.Ytmjjbapahgejmaa.Fmt (Fm width top sum_lt downN colZ down_le)
open Go.Proofs.Ytmjjbapahgejmaa.Oct (putS putS_ok okB sizeB)
set_option linter.unusedVariables false

theorem small_wf {v : Int} (h : Small v) : (Lit.int .i64 v).wf = true := WalkArith.wf_i64 (by unfold Small at h; omega)
theorem val_holds {f : Fm} (hf : f.ok = true) (c : Int) : Holds f ((f.val c : Nat) : Int) := by
  obtain ⟨k, j, l, s, t, u, n, H⟩ := f.is hf
  have h1 := sum_lt H.three (a := downN (colZ c / 65536 % 256) (top k)) (b := downN (colZ c / 256 % 256) (top j)) (c := downN (colZ c % 256) (top l)) (down_le (by omega)) (down_le (by omega)) (down_le (by omega))
  unfold Holds
  rw [H.val_eq, H.B, Int.toNat_natCast]
  exact Int.emod_eq_of_lt (by omega) (by exact_mod_cast h1)
theorem holds_zero (f : Fm) : Holds f 0 := Int.zero_emod _
theorem vals_holds {f : Fm} (hf : f.ok = true) (pix : List Int) (k : Nat) : Holds f (px (valsL f pix) k) := by
  unfold px valsL
  rw [List.getD_eq_getElem?_getD, List.getElem?_map]
  cases pix[k]? with
  | none => exact holds_zero f
  | some c => exact val_holds hf c
theorem pred_ground {P : Int → Prop} {vals : List Int} (h0 : P 0) (h : ∀ k, P (px vals k)) : P (groundL vals) := by
  have : ∀ k, P (grd vals k).1 := by
    intro k
    induction k with
    | zero => exact h0
    | succ k ih =>
      simp only [grd, gstep]
      split
      · exact h k
      · exact ih
  exact this _
theorem pieces_fit {f : Fm} {w h : Nat} {vals : List Int} {g : Int} (hs : ∀ k, Holds f (px vals k)) : ∀ p ∈ piecesN w h vals g, Fit f w h p := by
  intro p hp
  have I := pieces_inv w h vals g
  obtain ⟨n1, m1, h1, h2⟩ := I.inside p hp
  refine ⟨?_, h1, h2⟩
  rw [← I.value p hp p.x p.y (has_iff.2 ⟨Nat.le_refl _, by omega, Nat.le_refl _, by omega⟩)]
  exact hs _
theorem four_size {n : Nat} (h : n < 4294967296) : (putS 4 (n : Int)).size = 4 := by
  have hk : okB 4 (n : Int) = true := by
    simp [Oct.okB, Oct.sizeB, Oct.fitsB]
    omega
  have := (putS_ok hk).1
  omega
/-- How long all of it is. -/
theorem enc_size {f : Fm} (hf : f.ok = true) {W H : Nat} (hW : W ≤ 4096) (hH : H ≤ 4096) (pix : List Int) :
    (encB f W H pix).size = 4 + (f.B / 8).toNat + (piecesN W H (valsL f pix) (groundL (valsL f pix))).length * ((f.B / 8).toNat + 8) := by
  have hl := pieces_length W H (valsL f pix) (groundL (valsL f pix))
  have hWH : W * H ≤ 4096 * 4096 := Nat.mul_le_mul hW hH
  exact encN_len hf hW hH (pred_ground (holds_zero f) (vals_holds hf pix)) (pieces_fit (vals_holds hf pix)) (four_size (by omega)) _ (Nat.le_refl _)
end Go.Proofs.Ytmjjbapahgejmaa.Rre
