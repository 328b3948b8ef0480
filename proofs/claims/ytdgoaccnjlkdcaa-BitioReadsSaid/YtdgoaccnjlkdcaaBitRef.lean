/-
  Contracts of the reference of layer 2: rows of bits.
-/
import Derived.Test.YtdgoaccnjlkdcaaBitBackM
import Derived.Laws.AppendOwnNone
namespace Go.Proofs.Ytdgoaccnjlkdcaa.Bit
open Go.ChangeShapes Go.WideShapes Go.ChangeAt Go.RowKit
set_option linter.unusedVariables false

theorem info_bool : (Try.prog.info? 4).map (fun i => (i.zero, i.size, i.bytes)) = some (some (.bool false), 1, 1) := by kernel_rfl

def cellsB (l : List Bool) : List Value := l.map Value.bool
theorem cellsB_append (a b : List Bool) : cellsB (a ++ b) = cellsB a ++ cellsB b := by simp [cellsB]
theorem cellsB_length (a : List Bool) : (cellsB a).length = a.length := by simp [cellsB]

/-- The value v owns the row of bits l. -/
def BlAt (w : World) (v : Value) (l : List Bool) : Prop := w.ownsRow 0 4 1 v l.length (cellsB l)

theorem BlAt.nil (w : World) : BlAt w (.slice none 0 0) [] := World.ownsRow_nil _ _ _ _

theorem BlAt.shape {w : World} {v : Value} {l : List Bool} (h : BlAt w v l) : ∃ a cap, v = .slice a l.length cap ∧ (0 < l.length → ∃ g, a = some ⟨g, 0, none⟩ ∧ g < w.heap.size ∧ ∀ j, j < l.length → w.cell? ⟨g, j, none⟩ = (cellsB l)[j]?) := by
  rcases h.2 with ⟨rfl, h0⟩ | ⟨g, cap, cur, rfl, _, hg, _⟩
  · exact ⟨none, 0, by rw [h0], fun h => by omega⟩
  · refine ⟨_, cap, rfl, fun _ => ⟨g, rfl, (Array.getElem?_eq_some_iff.1 hg).1, fun j hj => ?_⟩⟩
    exact World.ownsRow.cellAt h j (by omega)

theorem BlAt.alloc {w : World} {v : Value} {l : List Bool} (h : BlAt w v l) (o : Obj) : BlAt (w.alloc o) v l := World.ownsRow.alloc h o
theorem BlAt.block {w w' : World} {v : Value} {l : List Bool} (h : BlAt w v l) (hk : ∀ k, v.ownBlock = some k → w'.heap[k]? = w.heap[k]?) : BlAt w' v l := ownsRow_block h hk
theorem BlAt.below {w w' : World} {v : Value} {l : List Bool} (h : BlAt w v l) (hk : Below w.heap.size w w') : BlAt w' v l := h.block fun k e => hk.block k (World.ownsRow.lt h k e).2
theorem BlAt.draws {w : World} {v : Value} {l : List Bool} (h : BlAt w v l) (n : Nat) : BlAt (w.drewN n) v l := h

/-- Rows and blocks of other types are apart. -/
theorem row_ne {w : World} {e e2 : TypeId} {v : Value} {n k : Nat} {xs : List Value} {cur : Array Value} {fz : Nat × Nat} (h : w.ownsRow 0 e 1 v n xs) (hk : w.heap[k]? = some (.cells cur e2 fz)) (hne : e ≠ e2) : v.ownBlock ≠ some k := by
  intro he
  rcases h.2 with ⟨rfl, _⟩ | ⟨g, cap, c2, rfl, _, hg, _⟩
  · simp [Value.ownBlock] at he
  · simp only [Value.ownBlock, Option.some.injEq] at he
    subst he
    rw [hk] at hg
    simp at hg
    exact hne hg.2.1.symm

theorem rows_ne {w : World} {e e2 : TypeId} {v v2 : Value} {n n2 : Nat} {xs xs2 : List Value} (h : w.ownsRow 0 e 1 v n xs) (h2 : w.ownsRow 0 e2 1 v2 n2 xs2) (hne : e ≠ e2) (k : Nat) (hk : v2.ownBlock = some k) : v.ownBlock ≠ some k := by
  rcases h2.2 with ⟨rfl, _⟩ | ⟨g, cap, c2, rfl, _, hg, _⟩
  · simp [Value.ownBlock] at hk
  · simp only [Value.ownBlock, Option.some.injEq] at hk
    subst hk
    exact row_ne h hg hne

theorem grow_trans {v v1 : Value} {w w1 w2 : World} (h : w.grownBy w1 v.ownBlock) (n : Near w v v1) (k : w1.grownBy w2 v1.ownBlock) : w.grownBy w2 v.ownBlock := by
  refine ⟨k.os.trans h.os, k.tape.trans h.tape, k.output.trans h.output, Nat.le_trans h.size k.size, fun i hi hv => ?_⟩
  have hs := h.size
  refine (k.block i (by omega) fun e => ?_).trans (h.block i hi hv)
  rcases n i e.symm with h1 | h1
  · exact hv h1.symm
  · omega

theorem grow_alloc {v : Value} {w w1 : World} {o : Obj} (h : (w.alloc o).grownBy w1 v.ownBlock) : w.grownBy w1 v.ownBlock := by
  have hs : (w.alloc o).heap.size = w.heap.size + 1 := by simp
  have h2 := h.size
  exact ⟨h.os, h.tape, h.output, by omega, fun i hi hv => (h.block i (by omega) hv).trans (Below.heap_alloc w o i hi)⟩

theorem below_row {B : Nat} {v : Value} {w0 w w' : World} (h : Below B w0 w) (hB : B ≤ w0.heap.size) (k : w.grownBy w' v.ownBlock) (hv : From B v) : Below B w0 w' :=
  h.trans ⟨k.os, k.tape, k.output, k.size, fun i hi => k.block i (by have := h.size; omega) (fun e => by have := hv i e.symm; omega)⟩

theorem cell_bits {w : World} {ad : Addr} {l : List Bool} (h : ∀ j, j < l.length → w.cell? (ad.add j) = (cellsB l)[j]?) : ∀ j u, (cellsB l)[j]? = some u → w.cell? (ad.add j) = some u := by
  intro j u hj
  have : j < (cellsB l).length := (List.getElem?_eq_some_iff.1 hj).1
  rw [cellsB_length] at this
  rw [h j this, hj]

theorem cellsB_one (l : List Bool) : ∀ u ∈ cellsB l, u.oneCell' = true := by
  intro u hu
  simp only [cellsB, List.mem_map] at hu
  obtain ⟨b, _, rfl⟩ := hu
  rfl

set_option maxHeartbeats 1000000 in
theorem of_any (n x : Int) (w : World) :
    Calls Try.prog 11 #[.int .i64 n, .int .i64 x] w fun r w' => ∃ u, r = .returned u ∧ BlAt w' u (bitsOf (cnt n) x) ∧ Below w.heap.size w w' ∧ From w.heap.size u := by
  have hB := Nat.le_refl w.heap.size
  obtain ⟨t0, hi, hz0, hz1, hz2⟩ := info_parts info_bool
  have hle := cnt_le n
  generalize hn : cnt n = m at *
  have HN := Lib.hid hn
  clear hn
  go_enter Try.func11, Try.ntmps11
  go_wp2_with fail
  go_loopw [1, 5, 6] (fun y v i wr => ∃ k : Nat, k ≤ m ∧ i = .int .i64 k ∧ y = .int .i64 (x / 2 ^ k) ∧ BlAt wr v (bitsOf k x) ∧ Below w.heap.size w wr ∧ From w.heap.size v) (fun _ _ i _ => m - (intOf i).toNat)
  case atStart => exact ⟨0, Nat.zero_le _, rfl, by simp, BlAt.nil _, Below.refl _ _, From.nil _⟩
  case round =>
    obtain ⟨k, hk, rfl, rfl, h1, bl1, f1⟩ := hrel
    by_cases hlt : k < m
    · have hbt : (bits .and .i64 (x / 2 ^ k) 1 == 1) = ibit x k := by rw [i64_and1]; rfl
      have hdv : x / 2 ^ k / 2 = x / 2 ^ (k + 1) := div_pow x k 1
      have HD := Lib.hid hdv
      have H1 := Lib.hid h1
      have hl1 : (bitsOf k x).length = k := bitsOf_length k x
      have HL := Lib.hid hl1
      clear hdv hl1
      go_wp2_with fail
      refine (count_any _ _).mono ?_
      rintro r w' ⟨rfl, rfl⟩
      rw [HN.out]
      go_wp2_with (at_builtin; refine wpList_append_near _ rfl _ _ 29 rfl 4 t0 (.bool false) 1 1 Try.underlying29 hi hz0 hz1 hz2 rfl (by decide) u5 (bitsOf k x).length (cellsB (bitsOf k x)) rfl (H1.out.alloc _) ⟨wr.heap.size, 0, none⟩ 1 1 [.bool (ibit x k)] rfl rfl (cell_one_new _ _ _) (by intro u hu; simp at hu; subst hu; rfl) (by rw [HL.out]; unfold maxLen; omega) (by rw [HL.out]; omega) ?_; intro v' w1 ho hg hn)
      have ho' : BlAt w1 v' (bitsOf (k + 1) x) := by
        rw [bitsOf_succ]; unfold BlAt; rw [List.length_append, cellsB_append]; exact ho
      have hg' := grow_alloc hg
      have HH := Lib.hid (And.intro ho' (And.intro (below_row bl1 hB hg' f1) (f1.near hn.alloc bl1.size)))
      clear ho hg hn ho' hg' h1 bl1 f1 H1 hbt hi hz0 hz1 hz2
      go_wp2
      refine ⟨⟨k + 1, by omega, by go_num, ?_, HH.out.1, HH.out.2.1, HH.out.2.2⟩, ?_⟩
      · rw [← HD.out]
      · simp [intOf]; omega
    · obtain rfl : k = m := by omega
      have HH := Lib.hid (And.intro h1 (And.intro bl1 f1))
      clear h1 bl1 f1
      go_wp2_with fail
      refine (count_any _ _).mono ?_
      rintro r w' ⟨rfl, rfl⟩
      rw [HN.out]
      go_wp2_with fail
      go_ret
      exact ⟨_, rfl, HH.out.1, HH.out.2.1, HH.out.2.2⟩

/-- A slice at a (or whatever, if it is empty) reads as l. -/
def Sees (w : World) (a : Option Addr) (l : List Bool) : Prop := 0 < l.length → ∃ g off, a = some ⟨g, off, none⟩ ∧ g < w.heap.size ∧ ∀ j, j < l.length → w.cell? ⟨g, off + j, none⟩ = (cellsB l)[j]?

theorem BlAt.sees {w : World} {a : Option Addr} {cap n : Nat} {l : List Bool} (h : BlAt w (.slice a n cap) l) : Sees w a l := by
  intro h0
  obtain ⟨a', cap', e, hs⟩ := h.shape
  simp only [Value.slice.injEq] at e
  obtain ⟨g, rfl, hg, hc⟩ := hs h0
  obtain ⟨rfl, _, _⟩ := e
  exact ⟨g, 0, rfl, hg, fun j hj => by rw [Nat.zero_add]; exact hc j hj⟩

theorem cellsB_at {l : List Bool} {j : Nat} (h : j < l.length) : (cellsB l)[j]? = some (.bool l[j]) := by simp [cellsB, h]

theorem drop_num (l : List Bool) (k : Nat) (h : k < l.length) : num (l.drop k) = num (l.drop (k + 1)) * 2 + l[k].toNat := by
  rw [List.drop_eq_getElem_cons h]
  simp only [num]
  omega

set_option maxHeartbeats 1000000 in
theorem number_any (a : Option Addr) (cap : Nat) (l : List Bool) (w : World) (h : Sees w a l) (hl : l.length ≤ 32) :
    Calls Try.prog 36 #[.slice a l.length cap] w fun r w' => r = .returned (.int .i64 (num l)) ∧ w = w' := by
  obtain ⟨n, hn⟩ : ∃ n, l.length = n := ⟨_, rfl⟩
  have HN := Lib.hid hn
  have H := Lib.hid h
  rw [hn] at hl ⊢
  clear hn h
  go_enter Try.func36, Try.ntmps36
  go_wp2
  go_loop [3, 4] (fun v i => ∃ k : Nat, k ≤ n ∧ i = .int .i64 ((k : Int) - 1) ∧ v = .int .i64 (num (l.drop k) : Nat)) (fun _ i => (intOf i + 1).toNat)
  case atStart => exact ⟨n, Nat.le_refl _, rfl, by rw [List.drop_of_length_le (by rw [HN.out]; exact Nat.le_refl _)]; rfl⟩
  case round =>
    obtain ⟨k, hk, rfl, rfl⟩ := hrel
    have hb := num_lt (l.drop k)
    rw [List.length_drop, HN.out] at hb
    have hb2 : (2 : Nat) ^ (n - k) ≤ 2 ^ 32 := Nat.pow_le_pow_right (by decide) (by omega)
    by_cases h0 : 0 < k
    · obtain ⟨g, off, rfl, hg, hc⟩ := H.out (by rw [HN.out]; omega)
      have hkl : k - 1 < l.length := by rw [HN.out]; omega
      have hcell := hc (k - 1) hkl
      rw [cellsB_at hkl] at hcell
      have hd := drop_num l (k - 1) hkl
      rw [show k - 1 + 1 = k by omega] at hd
      generalize l[k - 1] = bb at *
      have HD := Lib.hid hd
      have e1 : ((k : Int) - 1) = ((k - 1 : Nat) : Int) := by omega
      have e2 : (0 : Int) ≤ ((k - 1 : Nat) : Int) := by omega
      have e3 : ((k - 1 : Nat) : Int) < n := by omega
      rw [e1]
      generalize hk1 : k - 1 = k1 at *
      have K1 := Lib.hid hk1
      clear hc hd e1 hk1
      generalize num (l.drop k) = x at *
      cases bb with
      | true =>
        go_wp2
        refine ⟨⟨k1, by have := K1.out; omega, by go_num, ?_⟩, by have := K1.out; simp [intOf]⟩
        rw [HD.out]; go_num
      | false =>
        go_wp2
        refine ⟨⟨k1, by have := K1.out; omega, by go_num, ?_⟩, by have := K1.out; simp [intOf]⟩
        rw [HD.out]; go_num
    · obtain rfl : k = 0 := by omega
      go_wp2
      go_ret
      exact ⟨rfl, rfl⟩
end Go.Proofs.Ytdgoaccnjlkdcaa.Bit
