/-
  Plain facts of layer 17 (rre): what is encoded is decoded again.
-/
import Derived.Test.YtmjjbapahgejmaaRreRefD
import Derived.Test.YtmjjbapahgejmaaRreRefE
namespace Go.Proofs.Ytmjjbapahgejmaa.Rre
open Pln
open Go.Proofs.Ytmjjbapahgejmaa.Fmt (Fm put_back)
open Go.Proofs.Ytmjjbapahgejmaa.Oct (valL putS okB putS_ok ext_mid)
set_option linter.unusedVariables false

theorem ok_two {x : Nat} (h : x < 65536) : okB 2 (x : Int) = true := by
  simp [Oct.okB, Oct.sizeB, Oct.fitsB]
  omega
theorem two_size {x : Nat} (h : x < 65536) : (putS 2 (x : Int)).size = 2 := by
  have := (putS_ok (ok_two h)).1
  omega
theorem twoN_at {s a r : ByteArray} {x i : Nat} (hs : s = a ++ putS 2 (x : Int) ++ r) (hi : a.size = i) (hx : x < 65536) : twoN s i = x := by
  unfold twoN
  have h := ext_mid a (putS 2 (x : Int)) r
  rw [two_size hx, hi] at h
  rw [hs, h, (putS_ok (ok_two hx)).2.1]
  rfl
theorem ext_end (a b : ByteArray) : (a ++ b).extract a.size (a ++ b).size = b := by
  have h := ext_mid a b ⟨#[]⟩
  have e : a ++ b ++ (⟨#[]⟩ : ByteArray) = a ++ b := by
    apply ByteArray.ext
    simp
  rw [e] at h
  rw [ByteArray.size_append]
  exact h
/-- A value that its bytes hold. -/
def Holds (f : Fm) (v : Int) : Prop := v % 2 ^ f.B.toNat = v
theorem valS_put {f : Fm} (hf : f.ok = true) (v : Int) : valS f v = f.put v := by
  unfold Fm.put
  rw [if_pos hf]
  rfl
theorem valS_back {f : Fm} (hf : f.ok = true) {v : Int} (hv : Holds f v) (r : ByteArray) : f.get (valS f v ++ r) = v ∧ (valS f v).size = (f.B / 8).toNat := by
  rw [valS_put hf]
  obtain ⟨h1, _, h2⟩ := put_back hf v r
  refine ⟨h1.trans hv, h2.trans ?_⟩
  unfold Fm.size
  rw [if_pos hf]
/-- A piece that its bytes hold, within the sides. -/
structure Fit (f : Fm) (W H : Nat) (p : Pc) : Prop where
  v : Holds f p.v
  w : p.x + p.n ≤ W
  h : p.y + p.m ≤ H
theorem pcAt_at {f : Fm} (hf : f.ok = true) {W H : Nat} (hW : W ≤ 4096) (hH : H ≤ 4096) {p : Pc} (hp : Fit f W H p) {s a r : ByteArray} {i : Nat} (hi : a.size = i)
    (hs : s = a ++ valS f p.v ++ putS 2 p.x ++ putS 2 p.y ++ putS 2 p.n ++ putS 2 p.m ++ r) : pcAt f s i = p ∧ insN p W H = true ∧ i + (f.B / 8).toNat + 8 ≤ s.size := by
  have hx := hp.w
  have hy := hp.h
  have z := (valS_back hf hp.v ⟨#[]⟩).2
  have zx := two_size (show p.x < 65536 by omega)
  have zy := two_size (show p.y < 65536 by omega)
  have zn := two_size (show p.n < 65536 by omega)
  have zm := two_size (show p.m < 65536 by omega)
  have e0 : f.get (s.extract i s.size) = p.v := by
    have h1 : s = a ++ (valS f p.v ++ (putS 2 p.x ++ putS 2 p.y ++ putS 2 p.n ++ putS 2 p.m ++ r)) := by rw [hs]; simp only [ByteArray.append_assoc]
    have h2 := ext_end a (valS f p.v ++ (putS 2 p.x ++ putS 2 p.y ++ putS 2 p.n ++ putS 2 p.m ++ r))
    rw [← h1, hi] at h2
    rw [h2]
    exact (valS_back hf hp.v _).1
  have e1 : twoN s (i + (f.B / 8).toNat) = p.x := twoN_at (a := a ++ valS f p.v) (r := putS 2 p.y ++ putS 2 p.n ++ putS 2 p.m ++ r) (by rw [hs]; simp only [ByteArray.append_assoc]) (by rw [ByteArray.size_append]; omega) (by omega)
  have e2 : twoN s (i + (f.B / 8).toNat + 2) = p.y := twoN_at (a := a ++ valS f p.v ++ putS 2 p.x) (r := putS 2 p.n ++ putS 2 p.m ++ r) (by rw [hs]; simp only [ByteArray.append_assoc]) (by simp only [ByteArray.size_append]; omega) (by omega)
  have e3 : twoN s (i + (f.B / 8).toNat + 4) = p.n := twoN_at (a := a ++ valS f p.v ++ putS 2 p.x ++ putS 2 p.y) (r := putS 2 p.m ++ r) (by rw [hs]; simp only [ByteArray.append_assoc]) (by simp only [ByteArray.size_append]; omega) (by omega)
  have e4 : twoN s (i + (f.B / 8).toNat + 6) = p.m := twoN_at (a := a ++ valS f p.v ++ putS 2 p.x ++ putS 2 p.y ++ putS 2 p.n) (r := r) (by rw [hs]) (by simp only [ByteArray.size_append]; omega) (by omega)
  refine ⟨?_, ?_, ?_⟩
  · unfold pcAt
    rw [e0, e1, e2, e3, e4]
  · unfold insN
    exact decide_eq_true (by omega)
  · rw [hs]
    simp only [ByteArray.size_append]
    omega
theorem encN_len {f : Fm} (hf : f.ok = true) {W H : Nat} (hW : W ≤ 4096) (hH : H ≤ 4096) {g : Int} (hg : Holds f g) {l : List Pc} (hl : ∀ p ∈ l, Fit f W H p) (h4 : (putS 4 (l.length : Nat)).size = 4) : ∀ k, k ≤ l.length → (encN f g l k).size = 4 + (f.B / 8).toNat + k * ((f.B / 8).toNat + 8)
  | 0, _ => by
    simp only [encN, ByteArray.size_append]
    rw [h4, (valS_back hf hg ⟨#[]⟩).2]
    omega
  | k + 1, hk => by
    have hp := hl l[k] (List.getElem_mem (by omega))
    have hx := hp.w
    have hy := hp.h
    rw [encN_step (p := l[k]) (List.getElem?_eq_getElem (by omega))]
    simp only [ByteArray.size_append]
    rw [encN_len hf hW hH hg hl h4 k (by omega), (valS_back hf hp.v ⟨#[]⟩).2, two_size (show l[k].x < 65536 by omega), two_size (show l[k].y < 65536 by omega), two_size (show l[k].n < 65536 by omega), two_size (show l[k].m < 65536 by omega), Nat.succ_mul]
    omega
/-- What has been encoded so far stands ahead. -/
theorem encN_pre {f : Fm} {g : Int} {l : List Pc} {tail : ByteArray} : ∀ j, j ≤ l.length → ∃ r, encN f g l l.length ++ tail = encN f g l (l.length - j) ++ r
  | 0, _ => ⟨tail, rfl⟩
  | j + 1, hj => by
    obtain ⟨r, e⟩ := encN_pre (f := f) (g := g) (l := l) (tail := tail) j (by omega)
    have hk : l.length - (j + 1) < l.length := by omega
    rw [show l.length - j = l.length - (j + 1) + 1 by omega, encN_step (List.getElem?_eq_getElem hk)] at e
    rw [e]
    simp only [ByteArray.append_assoc]
    exact ⟨_, rfl⟩
theorem decN_enc {f : Fm} (hf : f.ok = true) {W H : Nat} (hW : W ≤ 4096) (hH : H ≤ 4096) {g : Int} (hg : Holds f g) {l : List Pc} (hl : ∀ p ∈ l, Fit f W H p) (h4 : (putS 4 (l.length : Nat)).size = 4) {s tail : ByteArray} (hs : s = encN f g l l.length ++ tail) :
    ∀ k, k ≤ l.length → decN f W H s k = ⟨0, paintL W (gen (W * H) (fun _ => g)) (l.take k), (encN f g l k).size⟩
  | 0, _ => by
    obtain ⟨r, e⟩ := encN_pre (f := f) (g := g) (l := l) (tail := tail) l.length (Nat.le_refl _)
    rw [Nat.sub_self] at e
    have e2 : s = putS 4 (l.length : Nat) ++ (valS f g ++ r) := by rw [hs, e]; simp only [encN, ByteArray.append_assoc]
    have hG : f.get (s.extract 4 s.size) = g := by
      have h2 := ext_end (putS 4 (l.length : Nat)) (valS f g ++ r)
      rw [← e2, h4] at h2
      rw [h2]
      exact (valS_back hf hg _).1
    simp only [decN, hG, List.take_zero]
    rw [encN_len hf hW hH hg hl h4 0 (Nat.zero_le _)]
    simp [paintL]
  | k + 1, hk => by
    have ih := decN_enc hf hW hH hg hl h4 hs k (by omega)
    have hp := hl l[k] (List.getElem_mem (by omega))
    obtain ⟨r, e⟩ := encN_pre (f := f) (g := g) (l := l) (tail := tail) (l.length - (k + 1)) (by omega)
    rw [show l.length - (l.length - (k + 1)) = k + 1 by omega, encN_step (List.getElem?_eq_getElem (by omega))] at e
    rw [← hs] at e
    obtain ⟨q1, q2, q3⟩ := pcAt_at hf hW hH hp (i := (encN f g l k).size) rfl e
    simp only [decN]
    rw [ih]
    unfold decS
    simp only [ne_eq, not_true_eq_false, if_false]
    rw [if_neg (by omega), q1, if_pos q2, List.take_succ_eq_append_getElem (by omega)]
    have e5 : (encN f g l k).size + (f.B / 8).toNat + 8 = (encN f g l (k + 1)).size := by
      rw [encN_len hf hW hH hg hl h4 k (by omega), encN_len hf hW hH hg hl h4 (k + 1) hk, Nat.succ_mul]
      omega
    rw [e5]
    unfold paintL
    rw [List.foldl_append]
    rfl
end Go.Proofs.Ytmjjbapahgejmaa.Rre
