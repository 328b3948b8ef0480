/-
  What acts write, and how it is read again: plain facts.
-/
import Derived.Test.YtdgoaccnjlkdcaaBitActs
namespace Go.Proofs.Ytdgoaccnjlkdcaa.Bit
set_option linter.unusedVariables false

/-- What one act writes behind l (statement BitioBack's acts). -/
def wAct (l : List Bool) (c : Act4) : List Bool :=
  if c.K.tmod 3 = 0 then l ++ bitsOf (cnt c.N) c.V
  else if c.K.tmod 3 = 1 then l ++ (bitsOf (cnt c.N) c.V).reverse
  else if c.K.tmod 3 = 2 then pad l ++ tbits c.S.data.toList
  else l

/-- What the first k acts write. -/
def wl (A : Nat → Act4) : Nat → List Bool
  | 0 => []
  | k + 1 => wAct (wl A k) (A k)

theorem wAct_more (l : List Bool) (c : Act4) : ∃ r, wAct l c = l ++ r := by
  unfold wAct
  split
  · exact ⟨_, rfl⟩
  split
  · exact ⟨_, rfl⟩
  split
  · unfold pad; exact ⟨_, by rw [List.append_assoc]⟩
  · exact ⟨[], by simp⟩

theorem wl_more (A : Nat → Act4) (k : Nat) : ∀ d, ∃ r, wl A (k + d) = wl A k ++ r
  | 0 => ⟨[], by simp⟩
  | d + 1 => by
    obtain ⟨r, hr⟩ := wl_more A k d
    obtain ⟨q, hq⟩ := wAct_more (wl A (k + d)) (A (k + d))
    refine ⟨r ++ q, ?_⟩
    show wAct (wl A (k + d)) (A (k + d)) = _
    rw [hq, hr, List.append_assoc]

theorem wl_to (A : Nat → Act4) {k n : Nat} (h : k ≤ n) : ∃ r, wl A n = wl A k ++ r := by
  have := wl_more A k (n - k)
  rw [show k + (n - k) = n by omega] at this
  exact this

theorem wAct_len (l : List Bool) (c : Act4) (h : c.S.size ≤ 60) : (wAct l c).length ≤ l.length + 500 := by
  have hc := cnt_le c.N
  unfold wAct
  split
  · rw [List.length_append, bitsOf_length]; omega
  split
  · rw [List.length_append, List.length_reverse, bitsOf_length]; omega
  split
  · rw [List.length_append, pad_length, tbits_length]; have : fre l ≤ 7 := by unfold fre; omega
    simp; omega
  · omega

theorem wl_len (A : Nat → Act4) (n : Nat) (h : ∀ i, i < n → (A i).S.size ≤ 60) : ∀ k, k ≤ n → (wl A k).length ≤ 500 * k
  | 0, _ => by simp [wl]
  | k + 1, hk => by
    have h1 := wl_len A n h k (by omega)
    have h2 := wAct_len (wl A k) (A k) (h k (by omega))
    show (wAct (wl A k) (A k)).length ≤ _
    omega

/-- The text that is read: what was written, and what stands behind. -/
def txt (L : List Bool) (tail : ByteArray) : ByteArray := (⟨(pack L).toArray⟩ : ByteArray) ++ tail

theorem txt_data (L : List Bool) (tail : ByteArray) : (txt L tail).data.toList = pack L ++ tail.data.toList := by
  unfold txt
  rw [ByteArray.data_append]
  simp

theorem txt_size (L : List Bool) (tail : ByteArray) : (txt L tail).size = (L.length + 7) / 8 + tail.size := by
  unfold txt
  rw [ByteArray.size_append, size_text]

theorem tb_txt (L : List Bool) (tail : ByteArray) : tb (txt L tail) = pad L ++ tb tail := by
  unfold tb
  rw [txt_data, tbits_append, tbits_packed]

/-- A part of what was written is read. -/
theorem txt_part (l y r : List Bool) (tail : ByteArray) :
    rOk (tb (txt (l ++ y ++ r) tail)) l.length false y.length = true ∧ rV (tb (txt (l ++ y ++ r) tail)) l.length false y.length = num y ∧ rI (tb (txt (l ++ y ++ r) tail)) l.length false y.length = l.length + y.length := by
  have e : tb (txt (l ++ y ++ r) tail) = l ++ (y ++ (r ++ List.replicate (fre (l ++ y ++ r)) false ++ tb tail)) := by
    rw [tb_txt]; unfold pad; simp [List.append_assoc]
  rw [e]
  exact read_part l y _

/-- Whole bytes that were written are read. -/
theorem txt_bytes (l : List Bool) (s t : ByteArray) (r0 : List UInt8) (ht : t.data.toList = pack l ++ (s.data.toList ++ r0)) :
    yOk (tb t) l.length false s.size = true ∧ yS t l.length false s.size = s ∧ yI (tb t) l.length false s.size = (pad l).length + 8 * s.size := by
  have hz : t.size = (l.length + 7) / 8 + (s.size + r0.length) := by
    have := congrArg List.length ht
    simp [pack_length] at this
    exact this
  have hl := tb_length t
  have hok : yOk (tb t) l.length false s.size = true := by
    unfold yOk
    simp only [Bool.not_false, Bool.true_and, decide_eq_true_eq]
    omega
  refine ⟨hok, ?_, ?_⟩
  · unfold yS
    rw [if_pos hok]
    apply ByteArray.ext
    rw [ByteArray.data_extract]
    apply Array.ext'
    rw [Array.toList_extract, List.extract_eq_take_drop, ht]
    have e1 : (l.length + 7) / 8 = (pack l).length := (pack_length l).symm
    have e2 : (s.size : Int).toNat = s.data.toList.length := by simp
    rw [e1, e2, List.drop_left, show (pack l).length + s.data.toList.length - (pack l).length = s.data.toList.length by omega, List.take_left]
  · unfold yI
    rw [if_pos hok, pad_length]
    have : fre l = (8 - l.length % 8) % 8 := rfl
    simp
    omega

/-- A row of bits as a number, the first one the greatest. -/
def big (l : List Bool) : Nat := num l.reverse
theorem big_snoc (l : List Bool) (b : Bool) : big (l ++ [b]) = big l * 2 + b.toNat := by
  unfold big
  rw [List.reverse_append]
  simp [num]
  omega
theorem big_lt (l : List Bool) : big l < 2 ^ l.length := by
  unfold big
  have := num_lt l.reverse
  simpa using this
end Go.Proofs.Ytdgoaccnjlkdcaa.Bit
