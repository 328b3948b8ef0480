/-
  Plain facts of layer 17 (rre): what is encoded is decoded again, whatever stands behind; with a byte less more is needed. Nothing of the program is named here.
-/
import Derived.Test.YtmjjbapahgejmaaRrePrgI
import Derived.Test.YtmjjbapahgejmaaRreVals
namespace Go.Proofs.Ytmjjbapahgejmaa.Rre
open Pln
open Go.Proofs.Ytmjjbapahgejmaa.Fmt (Fm)
open Go.Proofs.Ytmjjbapahgejmaa.Oct (putS putS_ok okB valL ext_mid)
set_option linter.unusedVariables false

theorem four_ok {n : Nat} (h : n < 4294967296) : okB 4 (n : Int) = true := by
  simp [Oct.okB, Oct.sizeB, Oct.fitsB]
  omega
theorem head_at {n : Nat} (h : n < 4294967296) {s r : ByteArray} (hs : s = putS 4 (n : Int) ++ r) : headN s = n ∧ 4 ≤ s.size := by
  have z := four_size h
  have e := ext_mid ⟨#[]⟩ (putS 4 (n : Int)) r
  have e0 : (⟨#[]⟩ : ByteArray) ++ putS 4 (n : Int) ++ r = s := by
    rw [hs]
    apply ByteArray.ext
    simp
  rw [e0, show (⟨#[]⟩ : ByteArray).size = 0 from rfl, z] at e
  refine ⟨?_, by rw [hs, ByteArray.size_append]; omega⟩
  unfold headN
  rw [e, (putS_ok (four_ok h)).2.1]
  rfl
/-- What is decoded of what was encoded. -/
theorem back_all {f : Fm} (hok : f.ok = true) {W H : Nat} (hW : W ≤ 4096) (hH : H ≤ 4096) {pix : List Int} (hl : pix.length = W * H) (tail : ByteArray) :
    decOut f W H (encB f W H pix ++ tail) = ⟨pix.map (fun c => ((f.left c : Nat) : Int)), (encB f W H pix).size, 0⟩ := by
  have hvl : (valsL f pix).length = W * H := by unfold valsL; rw [List.length_map, hl]
  have hWH : W * H ≤ 4096 * 4096 := Nat.mul_le_mul hW hH
  have hpl := pieces_length W H (valsL f pix) (groundL (valsL f pix))
  have hg := pred_ground (holds_zero f) (vals_holds hok pix)
  have hf := pieces_fit (w := W) (h := H) (g := groundL (valsL f pix)) (vals_holds hok pix)
  have hpb := paint_back (w := W) (h := H) (g := groundL (valsL f pix)) hvl
  have hsz := enc_size hok hW hH pix
  have hfit : fitsB f W H = true := by
    unfold fitsB
    simp only [Bool.and_eq_true, decide_eq_true_eq]
    exact ⟨⟨⟨⟨hok, by omega⟩, by omega⟩, by omega⟩, by omega⟩
  have hcol : (valsL f pix).map (fun c => ((f.col c : Nat) : Int)) = pix.map (fun c => ((f.left c : Nat) : Int)) := by unfold valsL; rw [List.map_map]; rfl
  have hB : encB f W H pix = encN f (groundL (valsL f pix)) (piecesN W H (valsL f pix) (groundL (valsL f pix))) (piecesN W H (valsL f pix) (groundL (valsL f pix))).length := rfl
  generalize groundL (valsL f pix) = g at *
  generalize piecesN W H (valsL f pix) g = PS at *
  have h4 := four_size (n := PS.length) (by omega)
  have hs : encB f W H pix ++ tail = encN f g PS PS.length ++ tail := by rw [hB]
  generalize hS : encB f W H pix ++ tail = S at *
  have hD := decN_enc hok hW hH hg hf h4 hs PS.length (Nat.le_refl _)
  obtain ⟨r, e⟩ := encN_pre (f := f) (g := g) (l := PS) (tail := tail) PS.length (Nat.le_refl _)
  rw [Nat.sub_self] at e
  have hs2 : S = putS 4 (PS.length : Nat) ++ (valS f g ++ r) := by rw [hs, e]; simp only [encN, ByteArray.append_assoc]
  obtain ⟨hh, h4s⟩ := head_at (by omega) hs2
  have hS1 : S.size = (encB f W H pix).size + tail.size := by rw [← hS, ByteArray.size_append]
  have hdl : decL f W H S = ⟨0, valsL f pix, (encN f g PS PS.length).size⟩ := by
    unfold decL
    rw [if_neg (by omega), hh, if_neg (by omega), if_neg (by omega), hD, List.take_length, hpb]
  unfold decOut
  rw [if_pos hfit, Int.toNat_natCast, Int.toNat_natCast, hdl, if_pos rfl, hcol, ← hB]
theorem ext_ext {s : ByteArray} {m i j : Nat} (h : j ≤ m) : (s.extract 0 m).extract i j = s.extract i j := by
  apply ByteArray.ext
  simp only [ByteArray.data_extract, Array.extract_extract]
  congr 1
  · omega
  · omega
/-- With a byte less more is needed. -/
theorem back_less {f : Fm} (hok : f.ok = true) {W H : Nat} (hW : W ≤ 4096) (hH : H ≤ 4096) {pix : List Int} (hl : pix.length = W * H) {n : Nat} (hn : n + 1 = (encB f W H pix).size) :
    decOut f W H ((encB f W H pix).extract 0 n) = ⟨[], 0, 2⟩ := by
  have hvl : (valsL f pix).length = W * H := by unfold valsL; rw [List.length_map, hl]
  have hWH : W * H ≤ 4096 * 4096 := Nat.mul_le_mul hW hH
  have hpl := pieces_length W H (valsL f pix) (groundL (valsL f pix))
  have hg := pred_ground (holds_zero f) (vals_holds hok pix)
  have hf := pieces_fit (w := W) (h := H) (g := groundL (valsL f pix)) (vals_holds hok pix)
  have hsz := enc_size hok hW hH pix
  obtain ⟨s1, s2, s3⟩ := fm_sz hok
  have hz : (f.B / 8).toNat = Fm.sz f := by rw [s1]; exact Int.toNat_natCast _
  have hfit : fitsB f W H = true := by
    unfold fitsB
    simp only [Bool.and_eq_true, decide_eq_true_eq]
    exact ⟨⟨⟨⟨hok, by omega⟩, by omega⟩, by omega⟩, by omega⟩
  have hB : encB f W H pix = encN f (groundL (valsL f pix)) (piecesN W H (valsL f pix) (groundL (valsL f pix))) (piecesN W H (valsL f pix) (groundL (valsL f pix))).length := rfl
  generalize groundL (valsL f pix) = g at *
  generalize piecesN W H (valsL f pix) g = PS at *
  have h4 := four_size (n := PS.length) (by omega)
  generalize encB f W H pix = S at *
  have hemp : S = encN f g PS PS.length ++ (⟨#[]⟩ : ByteArray) := by
    rw [hB]
    apply ByteArray.ext
    simp
  have hD := decN_enc hok hW hH hg hf h4 hemp PS.length (Nat.le_refl _)
  obtain ⟨r, e⟩ := encN_pre (f := f) (g := g) (l := PS) (tail := ⟨#[]⟩) PS.length (Nat.le_refl _)
  rw [Nat.sub_self] at e
  have hs2 : S = putS 4 (PS.length : Nat) ++ (valS f g ++ r) := by rw [hemp, e]; simp only [encN, ByteArray.append_assoc]
  obtain ⟨hh, h4s⟩ := head_at (by omega) hs2
  have hTs : (S.extract 0 n).size = n := by rw [ByteArray.size_extract]; omega
  have hpos : posN f PS.length = S.size := by unfold posN; omega
  have hh2 : headN (S.extract 0 n) = PS.length := by
    rw [← hh]
    unfold headN
    rw [ext_ext (by omega)]
  have hsf : f.size = (f.B / 8).toNat := if_pos hok
  have hpc : ∀ i, i + f.size + 8 ≤ n → pcAt f (S.extract 0 n) i = pcAt f S i := fun i hi => by
    have q : ∀ j, j + 2 ≤ n → twoN (S.extract 0 n) j = twoN S j := fun j hj => by
      unfold twoN
      rw [ext_ext hj]
    have e1 : f.get ((S.extract 0 n).extract i (S.extract 0 n).size) = f.get (S.extract i S.size) := by
      rw [← get_cut (by omega), ext_ext (by omega), get_cut (by omega)]
    unfold pcAt
    rw [e1, q _ (by omega), q _ (by omega), q _ (by omega), q _ (by omega)]
  have hin : ∀ j, j < PS.length → insN (pcAt f S (posN f j)) W H = true := fun j hj => ((dec_ok PS.length (by rw [hD])).2.2 j hj).2
  have hgood : ∀ k, k < PS.length → (decN f W H (S.extract 0 n) k).e = 0 := by
    intro k
    induction k with
    | zero => intro _; rfl
    | succ k ih =>
      intro hk
      have hm := posN_mono (f := f) (show k + 1 + 1 ≤ PS.length by omega)
      have hp1 := posN_succ f (k + 1)
      have hp2 := posN_succ f k
      rw [dec_next (ih (by omega)), hTs, if_neg (by omega), hpc _ (by omega), hin k (by omega)]
      rfl
  have hdl : (decL f W H (S.extract 0 n)).e = 2 := by
    unfold decL
    rw [hTs, if_neg (by omega), hh2, if_neg (by omega)]
    by_cases h0 : PS.length = 0
    · rw [if_pos (by rw [h0] at hsz; omega)]
    · rw [if_neg (by have := posN_mono (f := f) (show 1 ≤ PS.length by omega); have := posN_succ f 0; unfold posN at *; omega)]
      obtain ⟨k, hk⟩ : ∃ k, PS.length = k + 1 := ⟨PS.length - 1, by omega⟩
      rw [hk, dec_next (hgood k (by omega)), hTs, if_pos (by rw [← hk]; omega)]
  unfold decOut
  rw [if_pos hfit, Int.toNat_natCast, Int.toNat_natCast, hdl, if_neg (by decide)]
end Go.Proofs.Ytmjjbapahgejmaa.Rre
