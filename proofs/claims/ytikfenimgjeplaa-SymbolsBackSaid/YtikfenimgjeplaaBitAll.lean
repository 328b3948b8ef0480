/-
  Contracts of the reference of layer 2 (Of, All), for a seat that has no more of it.
-/
import Derived.Test.YtikfenimgjeplaaBitRdA
import Derived.Test.YtikfenimgjeplaaBitWrite
import Derived.Test.YtikfenimgjeplaaOctMath
import Derived.Laws.AppendOwnNone
namespace Go.Proofs.Ytikfenimgjeplaa.Bit
open Go.ChangeShapes Go.WideShapes Go.ChangeAt Go.RowKit
set_option linter.unusedVariables false

theorem Near.alloc {w : World} {v v' : Value} {o : Obj} (h : Near (w.alloc o) v v') : Near w v v' := by
  intro k hk
  rcases h k hk with h1 | h1
  · exact .inl h1
  · refine .inr ?_
    have : (w.alloc o).heap.size = w.heap.size + 1 := by simp
    omega
def From (B : Nat) (v : Value) : Prop := ∀ k, v.ownBlock = some k → B ≤ k

theorem From.nil (B : Nat) : From B (.slice none 0 0) := by intro k hk; simp [Value.ownBlock] at hk
theorem From.near {B : Nat} {w : World} {v v' : Value} (h : From B v) (n : Near w v v') (hB : B ≤ w.heap.size) : From B v' := by
  intro k hk
  rcases n k hk with h1 | h1
  · exact h k h1
  · omega

theorem below_more {B : Nat} {w0 w w' : World} (h : Below B w0 w) (hB : B ≤ w0.heap.size) (k : Below w.heap.size w w') : Below B w0 w' := h.trans (k.mono (by have := h.size; omega))

theorem info_bool : (Try.prog.info? 4).map (fun i => (i.zero, i.size, i.bytes)) = some (some (.bool false), 1, 1) := by kernel_rfl

def cellsB (l : List Bool) : List Value := l.map Value.bool
theorem cellsB_append (a b : List Bool) : cellsB (a ++ b) = cellsB a ++ cellsB b := by simp [cellsB]
theorem cellsB_length (a : List Bool) : (cellsB a).length = a.length := by simp [cellsB]

/-- The value v owns the row of bits l. -/
def BlAt (w : World) (v : Value) (l : List Bool) : Prop := w.ownsRow 0 4 1 v l.length (cellsB l)

theorem BlAt.nil (w : World) : BlAt w (.slice none 0 0) [] := World.ownsRow_nil _ _ _ _

theorem BlAt.shape {w : World} {v : Value} {l : List Bool} (h : BlAt w v l) : ∃ a cap, v = .slice a l.length cap ∧ (0 < l.length → ∃ g, a = some ⟨g, 0, none⟩ ∧ g < w.heap.size ∧ ∀ j, j < l.length → w.cell? ⟨g, j, none⟩ = (cellsB l)[j]?) := by
  rcases h.2 with ⟨rfl, h0⟩ | ⟨g, cap, cur, rfl, _, hg, _⟩
  · exact ⟨none, 0, by rw [h0], fun h => by omega⟩
  · refine ⟨_, cap, rfl, fun _ => ⟨g, rfl, (Array.getElem?_eq_some_iff.1 hg).1, fun j hj => ?_⟩⟩
    exact World.ownsRow.cellAt h j (by omega)

theorem BlAt.alloc {w : World} {v : Value} {l : List Bool} (h : BlAt w v l) (o : Obj) : BlAt (w.alloc o) v l := World.ownsRow.alloc h o
theorem BlAt.block {w w' : World} {v : Value} {l : List Bool} (h : BlAt w v l) (hk : ∀ k, v.ownBlock = some k → w'.heap[k]? = w.heap[k]?) : BlAt w' v l := ownsRow_block h hk
theorem BlAt.below {w w' : World} {v : Value} {l : List Bool} (h : BlAt w v l) (hk : Below w.heap.size w w') : BlAt w' v l := h.block fun k e => hk.block k (World.ownsRow.lt h k e).2
theorem BlAt.draws {w : World} {v : Value} {l : List Bool} (h : BlAt w v l) (n : Nat) : BlAt (w.drewN n) v l := h

/-- Rows and blocks of other types are apart. -/
theorem row_ne {w : World} {e e2 : TypeId} {v : Value} {n k : Nat} {xs : List Value} {cur : Array Value} {fz : Nat × Nat} (h : w.ownsRow 0 e 1 v n xs) (hk : w.heap[k]? = some (.cells cur e2 fz)) (hne : e ≠ e2) : v.ownBlock ≠ some k := by
  intro he
  rcases h.2 with ⟨rfl, _⟩ | ⟨g, cap, c2, rfl, _, hg, _⟩
  · simp [Value.ownBlock] at he
  · simp only [Value.ownBlock, Option.some.injEq] at he
    subst he
    rw [hk] at hg
    simp at hg
    exact hne hg.2.1.symm

theorem rows_ne {w : World} {e e2 : TypeId} {v v2 : Value} {n n2 : Nat} {xs xs2 : List Value} (h : w.ownsRow 0 e 1 v n xs) (h2 : w.ownsRow 0 e2 1 v2 n2 xs2) (hne : e ≠ e2) (k : Nat) (hk : v2.ownBlock = some k) : v.ownBlock ≠ some k := by
  rcases h2.2 with ⟨rfl, _⟩ | ⟨g, cap, c2, rfl, _, hg, _⟩
  · simp [Value.ownBlock] at hk
  · simp only [Value.ownBlock, Option.some.injEq] at hk
    subst hk
    exact row_ne h hg hne

theorem grow_trans {v v1 : Value} {w w1 w2 : World} (h : w.grownBy w1 v.ownBlock) (n : Near w v v1) (k : w1.grownBy w2 v1.ownBlock) : w.grownBy w2 v.ownBlock := by
  refine ⟨k.os.trans h.os, k.tape.trans h.tape, k.output.trans h.output, Nat.le_trans h.size k.size, fun i hi hv => ?_⟩
  have hs := h.size
  refine (k.block i (by omega) fun e => ?_).trans (h.block i hi hv)
  rcases n i e.symm with h1 | h1
  · exact hv h1.symm
  · omega

theorem grow_alloc {v : Value} {w w1 : World} {o : Obj} (h : (w.alloc o).grownBy w1 v.ownBlock) : w.grownBy w1 v.ownBlock := by
  have hs : (w.alloc o).heap.size = w.heap.size + 1 := by simp
  have h2 := h.size
  exact ⟨h.os, h.tape, h.output, by omega, fun i hi hv => (h.block i (by omega) hv).trans (Below.heap_alloc w o i hi)⟩

theorem below_row {B : Nat} {v : Value} {w0 w w' : World} (h : Below B w0 w) (hB : B ≤ w0.heap.size) (k : w.grownBy w' v.ownBlock) (hv : From B v) : Below B w0 w' :=
  h.trans ⟨k.os, k.tape, k.output, k.size, fun i hi => k.block i (by have := h.size; omega) (fun e => by have := hv i e.symm; omega)⟩

theorem cell_bits {w : World} {ad : Addr} {l : List Bool} (h : ∀ j, j < l.length → w.cell? (ad.add j) = (cellsB l)[j]?) : ∀ j u, (cellsB l)[j]? = some u → w.cell? (ad.add j) = some u := by
  intro j u hj
  have : j < (cellsB l).length := (List.getElem?_eq_some_iff.1 hj).1
  rw [cellsB_length] at this
  rw [h j this, hj]

theorem cellsB_one (l : List Bool) : ∀ u ∈ cellsB l, u.oneCell' = true := by
  intro u hu
  simp only [cellsB, List.mem_map] at hu
  obtain ⟨b, _, rfl⟩ := hu
  rfl

set_option maxHeartbeats 1000000 in
theorem of_any (n x : Int) (w : World) :
    Calls Try.prog 25 #[.int .i64 n, .int .i64 x] w fun r w' => ∃ u, r = .returned u ∧ BlAt w' u (bitsOf (cnt n) x) ∧ Below w.heap.size w w' ∧ From w.heap.size u := by
  have hB := Nat.le_refl w.heap.size
  obtain ⟨t0, hi, hz0, hz1, hz2⟩ := info_parts info_bool
  have hle := cnt_le n
  generalize hn : cnt n = m at *
  have HN := Lib.hid hn
  clear hn
  go_enter Try.func25, Try.ntmps25
  go_wp2_with fail
  go_loopw [1, 5, 6] (fun y v i wr => ∃ k : Nat, k ≤ m ∧ i = .int .i64 k ∧ y = .int .i64 (x / 2 ^ k) ∧ BlAt wr v (bitsOf k x) ∧ Below w.heap.size w wr ∧ From w.heap.size v) (fun _ _ i _ => m - (intOf i).toNat)
  case atStart => exact ⟨0, Nat.zero_le _, rfl, by simp, BlAt.nil _, Below.refl _ _, From.nil _⟩
  case round =>
    obtain ⟨k, hk, rfl, rfl, h1, bl1, f1⟩ := hrel
    by_cases hlt : k < m
    · have hbt : (bits .and .i64 (x / 2 ^ k) 1 == 1) = ibit x k := by rw [i64_and1]; rfl
      have hdv : x / 2 ^ k / 2 = x / 2 ^ (k + 1) := div_pow x k 1
      have HD := Lib.hid hdv
      have H1 := Lib.hid h1
      have hl1 : (bitsOf k x).length = k := bitsOf_length k x
      have HL := Lib.hid hl1
      clear hdv hl1
      go_wp2_with fail
      refine (count_any _ _).mono ?_
      rintro r w' ⟨rfl, rfl⟩
      rw [HN.out]
      go_wp2_with (at_builtin; refine wpList_append_near _ rfl _ _ 41 rfl 4 t0 (.bool false) 1 1 Try.underlying41 hi hz0 hz1 hz2 rfl (by decide) u5 (bitsOf k x).length (cellsB (bitsOf k x)) rfl (H1.out.alloc _) ⟨wr.heap.size, 0, none⟩ 1 1 [.bool (ibit x k)] rfl rfl (cell_one_new _ _ _) (by intro u hu; simp at hu; subst hu; rfl) (by rw [HL.out]; unfold maxLen; omega) (by rw [HL.out]; omega) ?_; intro v' w1 ho hg hn)
      have ho' : BlAt w1 v' (bitsOf (k + 1) x) := by
        rw [bitsOf_succ]; unfold BlAt; rw [List.length_append, cellsB_append]; exact ho
      have hg' := grow_alloc hg
      have HH := Lib.hid (And.intro ho' (And.intro (below_row bl1 hB hg' f1) (f1.near hn.alloc bl1.size)))
      clear ho hg hn ho' hg' h1 bl1 f1 H1 hbt hi hz0 hz1 hz2
      go_wp2
      refine ⟨⟨k + 1, by omega, by go_num, ?_, HH.out.1, HH.out.2.1, HH.out.2.2⟩, ?_⟩
      · rw [← HD.out]
      · simp [intOf]; omega
    · obtain rfl : k = m := by omega
      have HH := Lib.hid (And.intro h1 (And.intro bl1 f1))
      clear h1 bl1 f1
      go_wp2_with fail
      refine (count_any _ _).mono ?_
      rintro r w' ⟨rfl, rfl⟩
      rw [HN.out]
      go_wp2_with fail
      go_ret
      exact ⟨_, rfl, HH.out.1, HH.out.2.1, HH.out.2.2⟩

/-- A slice at a (or whatever, if it is empty) reads as l. -/
theorem tbits_snoc (s : List UInt8) (b : UInt8) : tbits (s ++ [b]) = tbits s ++ bitsOf 8 (b.toNat : Int) := by simp [tbits]

/-- A row owned behind an append of another row. -/
theorem BlAt.joined {w1 : World} {v' : Value} {l m : List Bool} (ho : w1.ownsRow 0 4 1 v' (l.length + m.length) (cellsB l ++ cellsB m)) : BlAt w1 v' (l ++ m) := by
  unfold BlAt; rw [List.length_append, cellsB_append]; exact ho

set_option maxHeartbeats 1000000 in
theorem all_any (s : ByteArray) (w : World) (hs : s.size ≤ 1000000) :
    Calls Try.prog 33 #[.string s] w fun r w' => ∃ u, r = .returned u ∧ BlAt w' u (tb s) ∧ Below w.heap.size w w' ∧ From w.heap.size u := by
  have hB := Nat.le_refl w.heap.size
  obtain ⟨t0, hi, hz0, hz1, hz2⟩ := info_parts info_bool
  go_enter Try.func33, Try.ntmps33
  go_wp2_with fail
  go_loopw [3, 4] (fun v i wr => ∃ k : Nat, k ≤ s.size ∧ i = .int .i64 k ∧ BlAt wr v (tbits (s.data.toList.take k)) ∧ Below w.heap.size w wr ∧ From w.heap.size v) (fun _ i _ => s.size - (intOf i).toNat)
  case atStart => exact ⟨0, Nat.zero_le _, rfl, BlAt.nil _, Below.refl _ _, From.nil _⟩
  case round =>
    obtain ⟨k, hk, rfl, h1, bl1, f1⟩ := hrel
    have hl1 : (tbits (s.data.toList.take k)).length = 8 * k := by rw [tbits_length, List.length_take]; simp; omega
    by_cases hlt : k < s.size
    · have hsn : tbits (s.data.toList.take (k + 1)) = tbits (s.data.toList.take k) ++ bitsOf 8 (s[k].toNat : Int) := by
        rw [List.take_succ_eq_append_getElem (by simpa using hlt), tbits_snoc]; rfl
      have hb := s[k].toNat_lt
      have SN := Lib.hid hsn
      have HL := Lib.hid hl1
      clear hsn hl1
      go_wp2_with fail
      refine (of_any _ _ _).mono ?_
      rintro r w1 ⟨u, rfl, h2, b2, f2⟩
      have c8 : cnt 8 = 8 := rfl
      rw [c8] at h2
      obtain ⟨a2, cap2, rfl, hs2⟩ := h2.shape
      obtain ⟨g2, rfl, hg2, hc2⟩ := hs2 (by rw [bitsOf_length]; decide)
      have h3 := h1.below b2
      have bl3 := below_more bl1 hB b2
      have hl2 : (bitsOf 8 (s[k].toNat : Int)).length = 8 := bitsOf_length _ _
      have L2 := Lib.hid hl2
      have hx2 : ∀ j u, (cellsB (bitsOf 8 (s[k].toNat : Int)))[j]? = some u → w1.cell? ((⟨g2, 0, none⟩ : Addr).add j) = some u := cell_bits (fun j hj => by rw [Oct.addr_add]; exact hc2 j hj)
      have H3 := Lib.hid h3
      have X2 := Lib.hid hx2
      rw [hl2]
      clear h1 b2 f2 h2 hs2 hc2 c8 hl2 hx2 h3 bl1
      generalize bitsOf 8 (s[k].toNat : Int) = y at *
      go_wp2_with (at_builtin; refine wpList_append_near _ rfl _ _ 41 rfl 4 t0 (.bool false) 1 1 Try.underlying41 hi hz0 hz1 hz2 rfl (by decide) u3 (tbits (s.data.toList.take k)).length (cellsB (tbits (s.data.toList.take k))) rfl H3.out ⟨g2, 0, none⟩ 8 cap2 (cellsB y) rfl (by rw [cellsB_length, L2.out]) X2.out (cellsB_one _) (by rw [HL.out]; unfold maxLen; omega) (by rw [HL.out]; omega) ?_; intro v' w3 ho hg3 hn3)
      have ho' : BlAt w3 v' (tbits (s.data.toList.take (k + 1))) := by
        rw [SN.out]; exact BlAt.joined (by rw [L2.out]; exact ho)
      have HH := Lib.hid (And.intro ho' (And.intro (below_row bl3 hB hg3 f1) (f1.near hn3 bl3.size)))
      clear ho hg3 hn3 ho' bl3 f1 H3 X2 hi hz0 hz1 hz2
      go_wp2
      refine ⟨⟨k + 1, by omega, by go_num, HH.out.1, HH.out.2.1, HH.out.2.2⟩, by simp [intOf]; omega⟩
    · obtain rfl : k = s.size := by omega
      rw [List.take_of_length_le (by simp)] at h1
      have HH := Lib.hid (And.intro h1 (And.intro bl1 f1))
      clear h1 bl1 f1 hl1
      go_wp2
      go_ret
      exact ⟨_, rfl, HH.out.1, HH.out.2.1, HH.out.2.2⟩

end Go.Proofs.Ytikfenimgjeplaa.Bit
