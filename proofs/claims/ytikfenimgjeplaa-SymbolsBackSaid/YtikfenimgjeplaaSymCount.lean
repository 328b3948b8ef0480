/-
  How often each symbol comes: contracts of symbols.Count and the reference's Count.
-/
import Derived.Test.YtikfenimgjeplaaSymRefN
import Derived.Test.YtikfenimgjeplaaLzTokS
import Derived.Test.YtikfenimgjeplaaHufNew
namespace Go.Proofs.Ytikfenimgjeplaa.Sym
open Go.ChangeShapes Go.WideShapes Go.ChangeAt Go.RowKit
open Go.Proofs.Ytikfenimgjeplaa.Huf (IsInts info_int info_parts)
open Go.Proofs.Ytikfenimgjeplaa.Lz (Tok okT tokC IsToks TokAt valid_any refValid_any okT_byte okT_piece)
set_option linter.unusedVariables false
set_option maxRecDepth 100000

/-- The literal symbols and the distance symbols that tokens need. -/
def litN (t : Tok) : Nat := if t.L = 0 then t.B.toNat else 257 + li t.L.toNat
def litsOf (l : List Tok) : List Nat := (l.filter okT).map litN
def dstsOf (l : List Tok) : List Nat := ((l.filter okT).filter fun t => t.L != 0).map fun t => di t.D.toNat

theorem litsOf_snoc (l : List Tok) (t : Tok) : litsOf (l ++ [t]) = litsOf l ++ (if okT t then [litN t] else []) := by
  unfold litsOf
  rw [List.filter_append, List.map_append]
  congr 1
  by_cases h : okT t <;> simp [h]
theorem dstsOf_snoc (l : List Tok) (t : Tok) : dstsOf (l ++ [t]) = dstsOf l ++ (if okT t && t.L != 0 then [di t.D.toNat] else []) := by
  unfold dstsOf
  rw [List.filter_append, List.filter_append, List.map_append]
  congr 1
  by_cases h : okT t
  · by_cases h2 : t.L = 0 <;> simp [h, h2]
  · simp [h]
theorem litN_lt {t : Tok} (h : okT t = true) : litN t < 286 := by
  unfold litN
  by_cases h0 : t.L = 0
  · rw [if_pos h0]; have := okT_byte h h0; omega
  · rw [if_neg h0]
    obtain ⟨_, h1, h2, _⟩ := okT_piece h h0
    have := (li_spec t.L.toNat (by omega) (by omega)).1
    omega
theorem di_lt {t : Tok} (h : okT t = true) (h0 : t.L ≠ 0) : di t.D.toNat < 30 := by
  obtain ⟨_, _, _, h1, h2⟩ := okT_piece h h0
  exact (di_spec t.D.toNat (by omega) (by omega)).1
theorem count_snoc (l : List Nat) (x s : Nat) : (l ++ [x]).count s = l.count s + if s = x then 1 else 0 := by
  rw [List.count_append, List.count_singleton]
  congr 1
  by_cases h : s = x
  · subst h; simp
  · simp [h, Ne.symm h]

/-- Numbers in a block of their own. -/
def rowN (n : Nat) (f : Nat → Nat) : Array Value := ((List.range n).map fun j => Value.int .i64 (f j : Nat)).toArray
theorem rowN_get (n : Nat) (f : Nat → Nat) (j : Nat) (hj : j < n) : (rowN n f)[j]? = some (.int .i64 (f j : Nat)) := by unfold rowN; simp [hj]
theorem rowN_set (n : Nat) (f : Nat → Nat) (j : Nat) (v : Nat) : (rowN n f).setIfInBounds j (.int .i64 (v : Nat)) = rowN n fun i => if i = j then v else f i := by
  unfold rowN
  apply Array.ext_getElem?
  intro i
  by_cases hi : i < n
  · by_cases hij : i = j
    · subst hij; simp [hi]
    · simp [hi, hij, Ne.symm hij]
  · simp [hi]
theorem rowN_congr {n : Nat} {f g : Nat → Nat} (h : ∀ j, j < n → f j = g j) : rowN n f = rowN n g := by
  unfold rowN
  congr 1
  apply List.map_congr_left
  intro j hj
  rw [h j (List.mem_range.1 hj)]
def AtN (w : World) (b n : Nat) (f : Nat → Nat) : Prop := w.heap[b]? = some (.cells (rowN n f) 3 (0, 0))
theorem AtN.cell {w : World} {b n : Nat} {f : Nat → Nat} (h : AtN w b n f) (j : Nat) (hj : j < n) : w.cell? ⟨b, j, none⟩ = some (.int .i64 (f j : Nat)) := by
  rw [cell_of_row w b j _ _ _ h, rowN_get n f j hj]
theorem AtN.frozen {w : World} {b n : Nat} {f : Nat → Nat} (h : AtN w b n f) (j : Nat) : w.frozen? ⟨b, j, none⟩ = false := frozen_of_row w b j _ _ h
theorem AtN.lt {w : World} {b n : Nat} {f : Nat → Nat} (h : AtN w b n f) : b < w.heap.size := (Array.getElem?_eq_some_iff.1 h).1
theorem AtN.set {w : World} {b n : Nat} {f : Nat → Nat} (h : AtN w b n f) (j v : Nat) : AtN (w.setCell ⟨b, j, none⟩ (.int .i64 (v : Nat))) b n fun i => if i = j then v else f i := by
  unfold AtN
  rw [heap_setCell_same w b j _ _ _ h, ← rowN_set]
theorem AtN.other {w : World} {b c j n : Nat} {v : Value} {f : Nat → Nat} (h : AtN w b n f) (hc : b ≠ c) : AtN (w.setCell ⟨c, j, none⟩ v) b n f := by
  unfold AtN
  rw [heap_setCell_other w ⟨c, j, none⟩ b v (fun e => hc e)]
  exact h
theorem AtN.below {w w' : World} {b n : Nat} {f : Nat → Nat} (h : AtN w b n f) (k : Below w.heap.size w w') : AtN w' b n f := by unfold AtN; rw [k.block b h.lt]; exact h
theorem AtN.congr {w : World} {b n : Nat} {f g : Nat → Nat} (h : AtN w b n f) (e : ∀ j, j < n → f j = g j) : AtN w b n g := by unfold AtN; rw [← rowN_congr e]; exact h
theorem AtN.isInts {w : World} {b n : Nat} {f : Nat → Nat} (h : AtN w b n f) : IsInts w (some ⟨b, 0, none⟩) (ints ((List.range n).map f)) := by
  intro h0
  refine ⟨b, 0, rfl, h.lt, fun i hi => ?_⟩
  have hi' : i < n := by rw [ints_length, List.length_map, List.length_range] at hi; exact hi
  rw [Nat.zero_add, h.cell i hi']
  simp [ints]
theorem madeN (n : Nat) : madeCells #[.int .i64 0] n = rowN n fun _ => 0 := by
  unfold madeCells rowN
  apply Array.ext_getElem?
  intro i
  by_cases h : i < n
  · simp [h, Nat.mod_one]
  · simp [h]
theorem make_ints (n : Nat) (hn : n ≤ 1000000) (w : World) : (Instr.makeSlice 25 (.int .i64 n) (.int .i64 n)).run Try.prog w = .ok (.slice (some ⟨w.heap.size, 0, none⟩) n n) (w.alloc (.cells (rowN n fun _ => 0) 3)) := by
  obtain ⟨i0, hi, hz0, hz1, hz2⟩ := info_parts info_int
  have := run_make (P := Try.prog) w 25 3 i0 (.int .i64 0) Try.underlying25 hi hz0 .i64 .i64 n n (by omega) (by omega) (by rw [hz2]; omega) (by omega)
  rw [hz1] at this
  simpa [Value.cells, madeN] using this

/-- How often a literal symbol comes, with one End. -/
def litC (l : List Tok) (s : Nat) : Nat := (litsOf l ++ [256]).count s
def dstC (l : List Tok) (s : Nat) : Nat := (dstsOf l).count s

theorem litC_eq (l : List Tok) (s : Nat) : litC l s = (litsOf l).count s + if s = 256 then 1 else 0 := count_snoc _ _ _
theorem take_next (l : List Tok) (k : Nat) (h : k < l.length) : l.take (k + 1) = l.take k ++ [l[k]] := List.take_succ_eq_append_getElem h
theorem lits_le (l : List Tok) (s : Nat) : (litsOf l).count s ≤ l.length :=
  Nat.le_trans List.count_le_length (by unfold litsOf; rw [List.length_map]; exact List.length_filter_le _ _)
theorem dsts_le (l : List Tok) (s : Nat) : (dstsOf l).count s ≤ l.length :=
  Nat.le_trans List.count_le_length (by unfold dstsOf; rw [List.length_map]; exact Nat.le_trans (List.length_filter_le _ _) (List.length_filter_le _ _))

/-- What a token adds to the counts. -/
theorem next_bad {l : List Tok} {k : Nat} (h : k < l.length) (hv : okT l[k] = false) : litsOf (l.take (k + 1)) = litsOf (l.take k) ∧ dstsOf (l.take (k + 1)) = dstsOf (l.take k) := by
  rw [take_next l k h, litsOf_snoc, dstsOf_snoc, hv]
  simp
theorem next_byte {l : List Tok} {k : Nat} (h : k < l.length) (hv : okT l[k] = true) (h0 : l[k].L = 0) (s : Nat) :
    (litsOf (l.take (k + 1))).count s = (litsOf (l.take k)).count s + (if s = l[k].B.toNat then 1 else 0) ∧ dstsOf (l.take (k + 1)) = dstsOf (l.take k) := by
  rw [take_next l k h, litsOf_snoc, dstsOf_snoc, hv, h0, if_pos rfl, count_snoc]
  simp [litN, h0]
theorem next_piece {l : List Tok} {k : Nat} (h : k < l.length) (hv : okT l[k] = true) (h0 : l[k].L ≠ 0) (s : Nat) :
    (litsOf (l.take (k + 1))).count s = (litsOf (l.take k)).count s + (if s = 257 + li l[k].L.toNat then 1 else 0) ∧ (dstsOf (l.take (k + 1))).count s = (dstsOf (l.take k)).count s + (if s = di l[k].D.toNat then 1 else 0) := by
  have e : litN l[k] = 257 + li l[k].L.toNat := by unfold litN; rw [if_neg h0]
  rw [take_next l k h, litsOf_snoc, dstsOf_snoc, hv, if_pos rfl, count_snoc, e]
  refine ⟨rfl, ?_⟩
  rw [show (true && l[k].L != 0) = true by simp [h0], if_pos rfl, count_snoc]

/-- A token in a block of its own, and a second time behind it. -/
theorem tok_block {w : World} {P : Nat} {b l d : Int} {T : TypeId} (h : w.heap[P]? = some (.cells #[.int .i64 b, .int .i64 l, .int .i64 d] T (0, 0))) :
    w.cell? ⟨P, 0, none⟩ = some (.int .i64 b) ∧ w.cell? ⟨P, 1, none⟩ = some (.int .i64 l) ∧ w.cell? ⟨P, 2, none⟩ = some (.int .i64 d) := by
  refine ⟨?_, ?_, ?_⟩
  · rw [cell_of_row _ _ 0 _ _ _ h]; rfl
  · rw [cell_of_row _ _ 1 _ _ _ h]; rfl
  · rw [cell_of_row _ _ 2 _ _ _ h]; rfl
theorem len_sym {t : Tok} (hv : okT t = true) (h0 : t.L ≠ 0) : lenS t.L = (257 + li t.L.toNat, t.L.toNat - LB (li t.L.toNat), LX (li t.L.toNat)) := by
  obtain ⟨_, h1, h2, _⟩ := okT_piece hv h0
  unfold lenS; rw [if_pos ⟨h1, h2⟩]
theorem dist_sym {t : Tok} (hv : okT t = true) (h0 : t.L ≠ 0) : distS t.D = (di t.D.toNat, t.D.toNat - DB (di t.D.toNat), DX (di t.D.toNat)) := by
  obtain ⟨_, _, _, h1, h2⟩ := okT_piece hv h0
  unfold distS; rw [if_pos ⟨h1, h2⟩]
theorem at_fun {w : World} {g n : Nat} {f f' : Nat → Nat} (h : AtN w g n f) (e : f = f') : AtN w g n f' := e ▸ h

theorem two_rows (w : World) (n m : Nat) (F G : Nat → Nat) : AtN ((w.alloc (.cells (rowN n F) 3)).alloc (.cells (rowN m G) 3)).drew w.heap.size n F ∧
    AtN ((w.alloc (.cells (rowN n F) 3)).alloc (.cells (rowN m G) 3)).drew (w.heap.size + 1) m G ∧ Below w.heap.size w ((w.alloc (.cells (rowN n F) 3)).alloc (.cells (rowN m G) 3)).drew := by
  refine ⟨?_, ?_, ?_⟩
  · unfold AtN
    show ((w.alloc (.cells (rowN n F) 3)).alloc (.cells (rowN m G) 3)).heap[w.heap.size]? = _
    rw [Below.heap_alloc _ _ _ (by simp)]; exact heap_alloc_new _ _
  · have := heap_alloc_new (w.alloc (.cells (rowN n F) 3)) (.cells (rowN m G) 3)
    rw [show (w.alloc (.cells (rowN n F) 3)).heap.size = w.heap.size + 1 by simp] at this
    exact this
  · have := ((Below.refl w.heap.size w).alloc (Nat.le_refl _) (.cells (rowN n F) 3)).alloc (by simp) (.cells (rowN m G) 3)
    exact ⟨this.os, this.tape, this.output, this.size, this.block⟩

theorem two_tok (wr : World) (t : Tok) : ((wr.alloc (.cells #[.int .i64 t.B, .int .i64 t.L, .int .i64 t.D] 64)).alloc (.cells (tokC t) 64)).heap[wr.heap.size]? = some (.cells #[.int .i64 t.B, .int .i64 t.L, .int .i64 t.D] 64 (0, 0)) ∧
    Below wr.heap.size wr ((wr.alloc (.cells #[.int .i64 t.B, .int .i64 t.L, .int .i64 t.D] 64)).alloc (.cells (tokC t) 64)) ∧
    wr.heap.size < ((wr.alloc (.cells #[.int .i64 t.B, .int .i64 t.L, .int .i64 t.D] 64)).alloc (.cells (tokC t) 64)).heap.size := by
  refine ⟨?_, ((Below.refl _ _).alloc (Nat.le_refl _) _).alloc (by simp) _, by simp; omega⟩
  rw [Below.heap_alloc _ _ _ (by simp)]; exact heap_alloc_new _ _

/-- A round that counts nothing. -/
theorem round_none {wr w' : World} {B g1 g2 : Nat} {w : World} {l : List Tok} {k : Nat} (h1 : AtN wr g1 286 fun s => (litsOf (l.take k)).count s) (h2 : AtN wr g2 30 fun s => (dstsOf (l.take k)).count s) (hb : Below B w wr) (k1 : Below wr.heap.size wr w') (hsz : B ≤ wr.heap.size)
    (e : litsOf (l.take (k + 1)) = litsOf (l.take k) ∧ dstsOf (l.take (k + 1)) = dstsOf (l.take k)) :
    AtN w' g1 286 (fun s => (litsOf (l.take (k + 1))).count s) ∧ AtN w' g2 30 (fun s => (dstsOf (l.take (k + 1))).count s) ∧ Below B w w' := by
  rw [e.1, e.2]
  exact ⟨h1.below k1, h2.below k1, hb.trans (k1.mono hsz)⟩

set_option maxHeartbeats 4000000 in
theorem count_any (a : Option Addr) (l : List Tok) (n cap : Nat) (w : World) (hn : l.length = n) (h : IsToks w a l) (hl : n ≤ 1000000) :
    Calls Try.prog 19 #[.slice a n cap] w fun e w' => ∃ g1 g2, e = .returned (.tuple #[.slice (some ⟨g1, 0, none⟩) 286 286, .slice (some ⟨g2, 0, none⟩) 30 30]) ∧ AtN w' g1 286 (litC l) ∧ AtN w' g2 30 (dstC l) ∧ Below w.heap.size w w' := by
  have H := Lib.hid h
  clear h
  have m1 : ∀ w, (Instr.makeSlice 25 (.int .i64 286) (.int .i64 286)).run Try.prog w = .ok (.slice (some ⟨w.heap.size, 0, none⟩) 286 286) (w.alloc (.cells (rowN 286 fun _ => 0) 3)) := make_ints 286 (by decide)
  have m2 : ∀ w, (Instr.makeSlice 25 (.int .i64 30) (.int .i64 30)).run Try.prog w = .ok (.slice (some ⟨w.heap.size, 0, none⟩) 30 30) (w.alloc (.cells (rowN 30 fun _ => 0) 3)) := make_ints 30 (by decide)
  obtain ⟨B, hB⟩ : ∃ B, w.heap.size = B := ⟨_, rfl⟩
  have HBW := Lib.hid hB
  clear hB
  go_enter Try.func19, Try.ntmps19
  go_wp2_with fail
  go_region
  rotate_left
  obtain ⟨A2, A1, BB0⟩ := two_rows w 30 286 (fun _ => 0) (fun _ => 0)
  have hne : w.heap.size + 1 ≠ w.heap.size := by omega
  rw [HBW.out] at BB0
  have BB := Lib.hid BB0
  have hge1 : B ≤ w.heap.size + 1 := by rw [← HBW.out]; omega
  have hge2 : B ≤ w.heap.size := by rw [← HBW.out]; exact Nat.le_refl _
  clear BB0
  generalize ((w.alloc (.cells (rowN 30 fun _ => 0) 3)).alloc (.cells (rowN 286 fun _ => 0) 3)).drew = w1 at *
  generalize w.heap.size + 1 = g1 at A1 hne hge1 ⊢
  generalize w.heap.size = g2 at A2 hne hge2 ⊢
  rotate_left
  obtain ⟨A1, A2, BB0⟩ := two_rows w 286 30 (fun _ => 0) (fun _ => 0)
  have hne : w.heap.size ≠ w.heap.size + 1 := by omega
  rw [HBW.out] at BB0
  have BB := Lib.hid BB0
  have hge1 : B ≤ w.heap.size := by rw [← HBW.out]; exact Nat.le_refl _
  have hge2 : B ≤ w.heap.size + 1 := by rw [← HBW.out]; omega
  clear BB0
  generalize ((w.alloc (.cells (rowN 286 fun _ => 0) 3)).alloc (.cells (rowN 30 fun _ => 0) 3)).drew = w1 at *
  generalize w.heap.size + 1 = g2 at A2 hne hge2 ⊢
  generalize w.heap.size = g1 at A1 hne hge1 ⊢
  all_goals (
    have HA := Lib.hid (And.intro A1 A2)
    clear A1 A2 m1 m2
    go_wp2_with fail
    go_loopw [16] (fun i wr => ∃ k : Nat, k ≤ n ∧ i = .int .i64 k ∧ AtN wr g1 286 (fun s => (litsOf (l.take k)).count s) ∧ AtN wr g2 30 (fun s => (dstsOf (l.take k)).count s) ∧ Below B w wr) (fun i _ => n - (intOf i).toNat)
    case atStart => exact ⟨0, Nat.zero_le _, rfl, HA.out.1, HA.out.2, BB.out⟩
    case round =>
      obtain ⟨k, hk, rfl, h1, h2, hb⟩ := hrel
      clear HA
      by_cases hlt : k < n
      · obtain ⟨b, off, rfl, hbb, hc⟩ := H.out (by omega)
        obtain ⟨q1, q2, q3⟩ := hc k (by omega)
        have hbB : b < B := by rw [← HBW.out]; exact hbb
        have c1 := (hb.cell (p := ⟨b, off + k * 3, none⟩) hbB).trans q1
        have c2 := (hb.cell (p := ⟨b, off + k * 3 + 1, none⟩) hbB).trans q2
        have c3 := (hb.cell (p := ⟨b, off + k * 3 + 2, none⟩) hbB).trans q3
        have hkl : k < l.length := by omega
        have NB := Lib.hid (fun hv => next_bad (l := l) (k := k) hkl hv)
        have NT := Lib.hid (fun hv h0 s => next_byte (l := l) (k := k) hkl hv h0 s)
        have NP := Lib.hid (fun hv h0 s => next_piece (l := l) (k := k) hkl hv h0 s)
        clear q1 q2 q3 hc hbb
        generalize htk : l[k] = t at *
        have H1 := Lib.hid h1
        have H2 := Lib.hid h2
        have HB := Lib.hid hb
        clear h1 h2 hb htk
        go_wp2_with fail
        refine (valid_any t _).mono ?_
        rintro r w' ⟨rfl, rfl⟩
        obtain ⟨hP, b2, hz⟩ := two_tok wr t
        generalize ((wr.alloc (.cells #[.int .i64 t.B, .int .i64 t.L, .int .i64 t.D] 64)).alloc (.cells (tokC t) 64)) = w2 at *
        generalize hPp : wr.heap.size = P at *
        obtain ⟨d0, d1, d2⟩ := tok_block hP
        have hb2 : Below B w w2 := HB.out.trans (b2.mono (by rw [← hPp]; have := HB.out.size; rw [HBW.out] at this; exact this))
        have n1 : AtN w2 g1 286 (fun s => (litsOf (l.take k)).count s) := H1.out.below (by rw [hPp]; exact b2)
        have n2 : AtN w2 g2 30 (fun s => (dstsOf (l.take k)).count s) := H2.out.below (by rw [hPp]; exact b2)
        have HB2 := Lib.hid hb2
        have HP := Lib.hid hP
        have hPg1 : P ≠ g1 := by have := H1.out.lt; omega
        clear b2 hPp hb2 H1 H2 HB c1 c2 c3 hP
        cases hv : okT t with
        | false =>
          obtain ⟨e1, e2⟩ := NB.out hv
          have N12 := Lib.hid (And.intro n1 n2)
          have E12 := Lib.hid (And.intro e1 e2)
          clear n1 n2 e1 e2 hv
          go_wp2_with fail
          refine ⟨⟨k + 1, by omega, by go_num, by rw [E12.out.1]; exact N12.out.1, by rw [E12.out.2]; exact N12.out.2, HB2.out⟩, ?_⟩
          simp [intOf]; omega
        | true =>
          by_cases h0 : t.L = 0
          · obtain ⟨hd, hB0, hB1⟩ := okT_byte hv h0
            have NT2 := Lib.hid (NT.out hv h0)
            obtain ⟨bN, hbN⟩ : ∃ bN : Nat, t.B = bN := ⟨t.B.toNat, by omega⟩
            have hbt : t.B.toNat = bN := by omega
            rw [hbt] at NT2
            rw [hbN] at d0
            rw [h0] at d1
            have hbN2 : bN < 286 := by omega
            have hbN3 : (bN : Int) < 286 := by omega
            have c5 := n1.cell bN hbN2
            have f5 := n1.frozen bN
            have hle := lits_le (l.take k) bN
            have hle2 : (l.take k).length ≤ 1000000 := by rw [List.length_take]; omega
            have s1 := n1.set bN ((litsOf (l.take k)).count bN + 1)
            have s2 := n2.other (j := bN) (v := .int .i64 (((litsOf (l.take k)).count bN + 1 : Nat) : Int)) (Ne.symm hne)
            have S12 := Lib.hid (And.intro s1 s2)
            rw [Int.natCast_add, Int.natCast_one] at S12
            have hx1 : (List.count bN (litsOf (List.take k l)) : Int) ≤ 1000000 := by omega
            generalize hX : List.count bN (litsOf (List.take k l)) = X at *
            have HX := Lib.hid hX
            have HV := Lib.hid hv
            clear s1 s2 n1 n2 hle hle2 hd hB0 hB1 hbN hbt hv NP NB NT hX
            go_wp2_with fail
            refine ⟨⟨k + 1, by omega, by go_num, S12.out.1.congr fun s hs => ?_, S12.out.2.congr fun s hs => by rw [(NT2.out 0).2], HB2.out.setCell hge1 _⟩, ?_⟩
            · rw [(NT2.out s).1]
              by_cases hsb : s = bN
              · subst hsb; rw [if_pos rfl, if_pos rfl, HX.out]
              · rw [if_neg hsb, if_neg hsb, Nat.add_zero]
            · simp [intOf]; omega
          · have NP2 := Lib.hid (NP.out hv h0)
            have hLlt := (okT_piece hv h0)
            have hl1 : 257 + li t.L.toNat < 286 := by have := litN_lt hv; unfold litN at this; rw [if_neg h0] at this; exact this
            have hl2 := di_lt hv h0
            have CL := Lib.hid (fun w => length_any t.L (by omega) w)
            have CD := Lib.hid (fun w => distance_any t.D (by omega) w)
            rw [len_sym hv h0] at CL
            rw [dist_sym hv h0] at CD
            unfold trip at CL CD
            have hL0 : (t.L == 0) = false := by simpa using h0
            generalize 257 + li t.L.toNat = sL at *
            generalize di t.D.toNat = sD at *
            generalize t.L.toNat - LB (li t.L.toNat) = eL at *
            generalize LX (li t.L.toNat) = bL at *
            generalize t.D.toNat - DB sD = eD at *
            generalize DX sD = bD at *
            have hx1 := lits_le (l.take k) sL
            have hx2 := dsts_le (l.take k) sD
            have hle2 : (l.take k).length ≤ 1000000 := by rw [List.length_take]; omega
            have hx3 : (List.count sL (litsOf (List.take k l)) : Int) ≤ 1000000 := by omega
            have hx4 : (List.count sD (dstsOf (List.take k l)) : Int) ≤ 1000000 := by omega
            have N12 := Lib.hid (And.intro n1 n2)
            have HBN : Hid (B ≤ w2.heap.size) := Lib.hid (by have := HB2.out.size; rw [HBW.out] at this; exact this)
            clear hx1 hx2 hle2 hLlt n1 n2 NP NB NT d0 d2
            go_wp2_with fail
            refine (CL.out _).mono ?_
            rintro r w3 ⟨rfl, b3⟩
            have n1 := N12.out.1.below b3
            have n2 := N12.out.2.below b3
            obtain ⟨d0, d1, d2⟩ := tok_block ((b3.block P hz).trans HP.out)
            have hb3 : Below B w w3 := HB2.out.trans (b3.mono HBN.out)
            have c5 := n1.cell sL hl1
            have f5 := n1.frozen sL
            have hl1' : (sL : Int) < 286 := by omega
            have s1 := n1.set sL ((litsOf (l.take k)).count sL + 1)
            have s2 := n2.other (j := sL) (v := .int .i64 (((litsOf (l.take k)).count sL + 1 : Nat) : Int)) (Ne.symm hne)
            rw [Int.natCast_add, Int.natCast_one] at s1 s2
            have hb4 := hb3.setCell (p := ⟨g1, sL, none⟩) hge1 (.int .i64 ((List.count sL (litsOf (List.take k l)) : Int) + 1))
            have d2' : (w3.setCell ⟨g1, sL, none⟩ (.int .i64 ((List.count sL (litsOf (List.take k l)) : Int) + 1))).cell? ⟨P, 2, none⟩ = some (.int .i64 t.D) := by
              rw [World.cell?_of_block (w := w3) (heap_setCell_other w3 ⟨g1, sL, none⟩ P _ (fun e => hPg1 e))]
              exact d2
            generalize hW4 : w3.setCell ⟨g1, sL, none⟩ (.int .i64 ((List.count sL (litsOf (List.take k l)) : Int) + 1)) = w4 at *
            have S12 := Lib.hid (And.intro s1 s2)
            have HB4 := Lib.hid hb4
            clear s1 s2 hb4 b3 hb3 n1 n2 d0 d1 d2 CL
            generalize hX : List.count sL (litsOf (List.take k l)) = X at *
            have HX := Lib.hid hX
            clear hX
            go_wp2_with fail
            refine (CD.out _).mono ?_
            rintro r w5 ⟨rfl, b5⟩
            have n1 := S12.out.1.below b5
            have n2 := S12.out.2.below b5
            have hb5 : Below B w w5 := HB4.out.trans (b5.mono (by have := HB4.out.size; rw [HBW.out] at this; exact this))
            have c6 := n2.cell sD hl2
            have f6 := n2.frozen sD
            have hl2' : (sD : Int) < 30 := by omega
            have s2 := n2.set sD ((dstsOf (l.take k)).count sD + 1)
            have s1 := n1.other (j := sD) (v := .int .i64 (((dstsOf (l.take k)).count sD + 1 : Nat) : Int)) hne
            have S12 := Lib.hid (And.intro s1 s2)
            rw [Int.natCast_add, Int.natCast_one] at S12
            have HB6 := Lib.hid (hb5.setCell (p := ⟨g2, sD, none⟩) hge2 (.int .i64 ((List.count sD (dstsOf (List.take k l)) : Int) + 1)))
            clear s1 s2 hb5 b5 n1 n2 CD c5 f5 d2' hW4
            generalize hY : List.count sD (dstsOf (List.take k l)) = Y at *
            have HY := Lib.hid hY
            clear hY
            go_wp2_with fail
            refine ⟨⟨k + 1, by omega, by go_num, S12.out.1.congr fun s hs => ?_, S12.out.2.congr fun s hs => ?_, HB6.out⟩, ?_⟩
            · rw [(NP2.out s).1]
              by_cases hsb : s = sL
              · subst hsb; rw [if_pos rfl, if_pos rfl, HX.out]
              · rw [if_neg hsb, if_neg hsb, Nat.add_zero]
            · rw [(NP2.out s).2]
              by_cases hsb : s = sD
              · subst hsb; rw [if_pos rfl, if_pos rfl, HY.out]
              · rw [if_neg hsb, if_neg hsb, Nat.add_zero]
            · simp [intOf]; omega
      · obtain rfl : k = n := by omega
        have htk : l.take k = l := List.take_of_length_le (by omega)
        rw [htk] at h1 h2
        have c5 := h1.cell 256 (by decide)
        have f5 := h1.frozen 256
        have hle := lits_le l 256
        have hx1 : (List.count 256 (litsOf l) : Int) ≤ 1000000 := by omega
        have s1 := h1.set 256 ((litsOf l).count 256 + 1)
        have s2 := h2.other (j := 256) (v := .int .i64 (((litsOf l).count 256 + 1 : Nat) : Int)) (Ne.symm hne)
        have S12 := Lib.hid (And.intro s1 s2)
        rw [Int.natCast_add, Int.natCast_one] at S12
        have HB6 := Lib.hid (hb.setCell (p := ⟨g1, 256, none⟩) hge1 (.int .i64 ((List.count 256 (litsOf l) : Int) + 1)))
        generalize hX : List.count 256 (litsOf l) = X at *
        have HX := Lib.hid hX
        clear hX s1 s2 h1 h2 hb hle htk
        go_wp2_with fail
        go_ret2
        refine ⟨g1, g2, rfl, S12.out.1.congr fun s hs => ?_, S12.out.2, by rw [HBW.out]; exact HB6.out⟩
        rw [litC_eq]
        by_cases hsb : s = 256
        · subst hsb; rw [if_pos rfl, if_pos rfl, HX.out]
        · rw [if_neg hsb, if_neg hsb, Nat.add_zero])
end Go.Proofs.Ytikfenimgjeplaa.Sym
