/-
  Rows of tokens; contract of lz.Plain.
-/
import Derived.Test.YtlafenookbdhoaaLzExp
import Derived.Laws.MakeOwn
namespace Go.Proofs.Ytlafenookbdhoaa.Lz
open Go.ChangeShapes Go.WideShapes Go.ChangeAt Go.RowKit
set_option linter.unusedVariables false

theorem info_tok : (Try.prog.info? 30).map (fun i => (i.zero, i.size, i.bytes)) = some (some (.agg #[.int .i64 0, .int .i64 0, .int .i64 0]), 3, 24) := by kernel_rfl

/-- Tokens as cells. -/
def cellsT : List Tok → List Value
  | [] => []
  | t :: l => .int .i64 t.B :: .int .i64 t.L :: .int .i64 t.D :: cellsT l

theorem cellsT_length (l : List Tok) : (cellsT l).length = l.length * 3 := by
  induction l with
  | nil => rfl
  | cons t l ih => simp [cellsT, ih]; omega
theorem cellsT_append (l m : List Tok) : cellsT (l ++ m) = cellsT l ++ cellsT m := by
  induction l with
  | nil => rfl
  | cons t l ih => simp [cellsT, ih]
theorem cellsT_one (l : List Tok) : ∀ u ∈ cellsT l, u.oneCell' = true := by
  induction l with
  | nil => intro u hu; simp [cellsT] at hu
  | cons t l ih =>
    intro u hu
    simp only [cellsT, List.mem_cons] at hu
    rcases hu with rfl | rfl | rfl | h
    · rfl
    · rfl
    · rfl
    · exact ih u h
theorem cellsT_get (l : List Tok) : ∀ i (h : i < l.length), (cellsT l)[i * 3]? = some (.int .i64 l[i].B) ∧ (cellsT l)[i * 3 + 1]? = some (.int .i64 l[i].L) ∧ (cellsT l)[i * 3 + 2]? = some (.int .i64 l[i].D) := by
  induction l with
  | nil => intro i h; simp at h
  | cons t l ih =>
    intro i h
    cases i with
    | zero => exact ⟨rfl, rfl, rfl⟩
    | succ i =>
      have := ih i (by simpa using h)
      rw [show (i + 1) * 3 = i * 3 + 3 by omega]
      simpa [cellsT] using this
theorem cellsT_set (l : List Tok) : ∀ i (h : i < l.length) (b : Int), (cellsT l).set (i * 3) (.int .i64 b) = cellsT (l.set i ⟨b, l[i].L, l[i].D⟩) := by
  induction l with
  | nil => intro i h; simp at h
  | cons t l ih =>
    intro i h b
    cases i with
    | zero => rfl
    | succ i =>
      have := ih i (by simpa using h) b
      rw [show (i + 1) * 3 = i * 3 + 3 by omega]
      simpa [cellsT] using this
theorem cellsT_made (n : Nat) : (madeCells #[.int .i64 0, .int .i64 0, .int .i64 0] (n * 3)).toList = cellsT (List.replicate n ⟨0, 0, 0⟩) := by
  apply List.ext_getElem?
  intro j
  by_cases hj : j < n * 3
  · obtain ⟨i, r, hr, rfl⟩ : ∃ i r, r < 3 ∧ j = i * 3 + r := ⟨j / 3, j % 3, Nat.mod_lt _ (by decide), by omega⟩
    obtain ⟨g0, g1, g2⟩ := cellsT_get (List.replicate n ⟨0, 0, 0⟩) i (by simp; omega)
    simp only [List.getElem_replicate] at g0 g1 g2
    have hm : (madeCells #[.int .i64 0, .int .i64 0, .int .i64 0] (n * 3)).toList[i * 3 + r]? = some (Value.int .i64 0) := by
      unfold madeCells
      simp [hj]
      obtain rfl | rfl | rfl : r = 0 ∨ r = 1 ∨ r = 2 := by omega
      · simp
      · simp
      · simp
    rw [hm]
    obtain rfl | rfl | rfl : r = 0 ∨ r = 1 ∨ r = 2 := by omega
    · exact g0.symm
    · exact g1.symm
    · exact g2.symm
  · rw [List.getElem?_eq_none (show (madeCells #[.int .i64 0, .int .i64 0, .int .i64 0] (n * 3)).toList.length ≤ j by simp [madeCells]; omega), List.getElem?_eq_none (by rw [cellsT_length]; simp; omega)]

theorem toks_of_row {w : World} {B n cap : Nat} {a : Option Addr} {l : List Tok} (hn : l.length = n) (h : w.ownsRow B 30 3 (.slice a n cap) n (cellsT l)) : IsToks w a l := by
  intro h0
  rcases h.2 with ⟨h1, h2⟩ | ⟨g, cap2, cur, h1, _⟩
  · omega
  · simp only [Value.slice.injEq] at h1
    obtain ⟨rfl, _, rfl⟩ := h1
    refine ⟨g, 0, rfl, (h.lt g rfl).2, fun i hi => ?_⟩
    obtain ⟨g0, g1, g2⟩ := cellsT_get l i hi
    refine ⟨?_, ?_, ?_⟩
    · rw [Nat.zero_add, h.cellAt (i * 3) (by omega)]; exact g0
    · rw [Nat.zero_add, h.cellAt (i * 3 + 1) (by omega)]; exact g1
    · rw [Nat.zero_add, h.cellAt (i * 3 + 2) (by omega)]; exact g2

/-- The tokens of the first k bytes, and none behind them. -/
def part (s : List UInt8) (k : Nat) : List Tok := (s.take k).map byteT ++ List.replicate (s.length - k) ⟨0, 0, 0⟩
theorem part_length (s : List UInt8) (k : Nat) (h : k ≤ s.length) : (part s k).length = s.length := by simp [part]; omega
theorem part_get (s : List UInt8) (k : Nat) (h : k < s.length) : (part s k)[k]'(by rw [part_length _ _ (by omega)]; exact h) = ⟨0, 0, 0⟩ := by
  have e : (part s k)[k]? = some ⟨0, 0, 0⟩ := by
    unfold part
    rw [List.getElem?_append_right (by simp; omega)]
    simp only [List.getElem?_replicate, List.length_map, List.length_take]
    rw [if_pos (by omega)]
  exact (List.getElem?_eq_some_iff.1 e).2
theorem part_step (s : List UInt8) (k : Nat) (h : k < s.length) : (cellsT (part s k)).set (k * 3) (.int .i64 (s[k].toNat : Nat)) = cellsT (part s (k + 1)) := by
  rw [cellsT_set _ k (by rw [part_length _ _ (by omega)]; exact h), part_get s k h]
  congr 1
  apply List.ext_getElem?
  intro j
  rw [List.getElem?_set, part_length _ _ (by omega)]
  unfold part
  by_cases hj : k = j
  · subst hj
    rw [if_pos rfl, if_pos h, List.getElem?_append_left (by simp; omega)]
    simp [byteT, h]
  · rw [if_neg hj]
    by_cases h1 : j < k
    · rw [List.getElem?_append_left (by simp; omega), List.getElem?_append_left (by simp; omega)]
      simp [h1, show j < k + 1 by omega]
    · rw [List.getElem?_append_right (by simp; omega), List.getElem?_append_right (by simp; omega)]
      simp only [List.getElem?_replicate, List.length_map, List.length_take]
      by_cases h2 : j < s.length
      · rw [if_pos (by omega), if_pos (by omega)]
      · rw [if_neg (by omega), if_neg (by omega)]

set_option maxRecDepth 10000 in
set_option maxHeartbeats 1000000 in
theorem plain_any (s : ByteArray) (w : World) (hs : s.size ≤ 1000000) :
    Calls Try.prog 18 #[.string s] w fun e w' => e = .returned (.slice (some ⟨w.heap.size, 0, none⟩) s.size s.size) ∧ IsToks w' (some ⟨w.heap.size, 0, none⟩) (s.data.toList.map byteT) ∧ Below w.heap.size w w' := by
  obtain ⟨i0, hi, hz0, hz1, hz2⟩ := info_parts info_tok
  have hSL : s.data.toList.length = s.size := by simp
  go_enter Try.func18, Try.ntmps18
  go_wp2_with (at_make; refine wpList_make_full _ rfl _ _ 22 rfl w.heap.size 30 i0 (.agg #[.int .i64 0, .int .i64 0, .int .i64 0]) 3 Try.underlying22 hi hz0 hz1 .i64 .i64 _ _ s.size rfl rfl rfl rfl (by rw [hz2]; omega) (by unfold maxLen; omega) (Nat.le_refl _) ?_; intro w1 hown hgrow)
  go_loopw [10] (fun i wr => ∃ k : Nat, k ≤ s.size ∧ i = .int .i64 k ∧ wr.ownsRow w.heap.size 30 3 (.slice (some ⟨w.heap.size, 0, none⟩) s.size s.size) s.size (cellsT (part s.data.toList k)) ∧ Below w.heap.size w wr) (fun i _ => s.size - (intOf i).toNat)
  case atStart =>
    refine ⟨0, Nat.zero_le _, rfl, ?_, (Below.refl _ _).grown hgrow (Nat.le_refl _) (fun j hj => by cases hj)⟩
    have e : part s.data.toList 0 = List.replicate s.size ⟨0, 0, 0⟩ := by simp [part]
    rw [e, ← cellsT_made]
    exact hown
  case round =>
    obtain ⟨k, hk, rfl, hown1, hbel⟩ := hrel
    clear hown hgrow
    by_cases hlt : k < s.size
    · have fz := hown1.frozenAt (k * 3)
      have hlt2 : k < s.data.toList.length := by omega
      have cz : wr.cell? ⟨w.heap.size, k * 3, none⟩ = some (.int .i64 0) := by
        rw [hown1.cellAt _ (by omega), (cellsT_get (part s.data.toList k) k (by rw [part_length _ _ (by omega)]; exact hlt2)).1, part_get _ _ hlt2]
      have hst := hown1.stored (k * 3) (Value.int .i64 (s[k].toNat : Nat))
      have es : s.data.toList[k] = s[k] := by simp; rfl
      have hps := part_step s.data.toList k hlt2
      rw [es] at hps
      rw [hps] at hst
      have HST := Lib.hid hst
      have HBEL := Lib.hid hbel
      have hx2 := s[k].toNat_lt
      clear hown1 hst hbel hps es
      go_wp2_with fail
      refine ⟨⟨k + 1, by omega, by go_num, ?_, HBEL.out.setCell (Nat.le_refl _) _⟩, ?_⟩
      · exact HST.out.1
      · simp [intOf]; omega
    · obtain rfl : k = s.size := by omega
      have ht : IsToks wr (some ⟨w.heap.size, 0, none⟩) (s.data.toList.map byteT) := by
        have e : part s.data.toList s.size = s.data.toList.map byteT := by unfold part; rw [← hSL, List.take_length]; simp
        rw [e] at hown1
        exact toks_of_row (by simp) hown1
      have HBEL := Lib.hid hbel
      have HT := Lib.hid ht
      clear hown1 hbel ht
      go_wp2_with fail
      go_ret
      exact ⟨rfl, HT.out, HBEL.out⟩

end Go.Proofs.Ytlafenookbdhoaa.Lz
