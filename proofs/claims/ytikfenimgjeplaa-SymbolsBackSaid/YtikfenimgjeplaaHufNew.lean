/-
  Contract of huffman.New; the state of a huffman.Decoder in memory.
-/
import Derived.Test.YtikfenimgjeplaaHufCodes
import Derived.Test.YtikfenimgjeplaaBitWrite
import Derived.Test.YtikfenimgjeplaaRegTwo
namespace Go.Proofs.Ytikfenimgjeplaa.Huf
open Go.ChangeShapes Go.WideShapes Go.ChangeAt Go.RowKit
set_option linter.unusedVariables false

/-- 'append' onto what is owned, as one step inside a region that draws. -/
theorem step_append_near {P : Program} {ops : Array Oper} {o : Oper} {a : Act} {w : World} {K : Act → World → Prop} {Q : Exit → Act → World → Prop} {E : Prop}
    (hg : o.guard = none) (s x : Operand) (t : TypeId) (hop : o.op = Op.call { callee := Callee.builtin Builtin.append, args := #[s, x], argTypes := #[t, t] })
    (e : TypeId) (i : TypeInfo) (z : Value) (size bytes : Nat) (ht : P.underlying t = some (.slice e)) (hi : P.info? e = some i) (hz : i.zero = some z)
    (hsize : i.size = size) (hby : i.bytes = bytes) (hzs : z.cells.size = size) (hsz : 0 < size)
    (v : Value) (n : Nat) (xs : List Value) (hs : a.eval s = v) (hown : w.ownsRow 0 e size v n xs)
    (ad : Addr) (m c : Nat) (news : List Value) (hx : a.eval x = .slice (some ad) m c) (hl : news.length = m * size) (hnews : ∀ j u, news[j]? = some u → w.cell? (ad.add j) = some u) (h1 : ∀ u ∈ news, u.oneCell' = true)
    (h63 : n + m ≤ maxLen) (hbytes : (n + m) * bytes ≤ 140737488355328)
    (hK : ∀ v' w', w'.ownsRow 0 e size v' (n + m) (xs ++ news) → w.grownBy w' v.ownBlock → Bit.Near w v v' → K (a.put o.dst v') w') :
    if Region.wanted o (yielded ops a.tmps) = true then Oper.wp P o a w K Q else E := by
  have hw : Region.wanted o (yielded ops a.tmps) = true := by simp [Region.wanted, hg]
  rw [if_pos hw]
  obtain ⟨v', w', hrun, r1, r2, r3⟩ := Bit.run_append_near (P := P) w t o.type e i z size bytes ht hi hz hsize hby hzs hsz v n xs hown ad m c news hl hnews h1 h63 hbytes
  unfold Oper.wp
  simp [execOp, hop, resolve, invoke, builtin, hs, hx, hrun, Result.andThen]
  exact hK v' w' r1 r2 r3

/-- A decoder's cells: sixteen rows, sixteen first codes, the room taken. -/
def decRow (S : Nat → Value) (f : Nat → Nat) (t : Nat) : Array Value := ((List.range 16).map S ++ ((List.range 16).map fun j => Value.int .i64 (f j : Nat)) ++ [Value.int .i64 (t : Nat)]).toArray

theorem decRow_sym (S : Nat → Value) (f : Nat → Nat) (t j : Nat) (h : j < 16) : (decRow S f t)[j]? = some (S j) := by
  unfold decRow
  rw [List.getElem?_toArray, List.append_assoc, List.getElem?_append_left (by simp; omega)]
  simp [h]
theorem decRow_fst (S : Nat → Value) (f : Nat → Nat) (t j : Nat) (h : j < 16) : (decRow S f t)[16 + j]? = some (.int .i64 (f j : Nat)) := by
  unfold decRow
  rw [List.getElem?_toArray, List.append_assoc, List.getElem?_append_right (by simp)]
  simp only [List.length_map, List.length_range, Nat.add_sub_cancel_left]
  rw [List.getElem?_append_left (by simp; omega)]
  simp [h]
theorem decRow_taken (S : Nat → Value) (f : Nat → Nat) (t : Nat) : (decRow S f t)[32]? = some (.int .i64 (t : Nat)) := by
  unfold decRow
  rw [List.getElem?_toArray, List.getElem?_append_right (by simp)]
  simp
theorem decRow_set (S : Nat → Value) (f : Nat → Nat) (t j : Nat) (h : j < 16) (v : Value) : (decRow S f t).setIfInBounds j v = decRow (fun i => if i = j then v else S i) f t := by
  have e : ((List.range 16).map S).set j v = (List.range 16).map (fun i => if i = j then v else S i) := by
    apply List.ext_getElem?
    intro i
    rw [List.getElem?_set]
    by_cases hi : i < 16
    · by_cases hij : j = i
      · subst hij; simp [hi]
      · simp [hi, hij, Ne.symm hij]
    · by_cases hij : j = i
      · subst hij; omega
      · simp [hij, hi]
  unfold decRow
  rw [List.setIfInBounds_toArray, List.append_assoc, List.set_append_left _ _ (by simp; omega), e, List.append_assoc]

theorem built_dec (f : Nat → Nat) (t : Nat) : Try.prog.built 113 [(1, .agg (row16 f)), (2, .int .i64 (t : Nat))] = some (decRow (fun _ => .slice none 0 0) f t) := by
  kernel_rfl

theorem wpl_build_dec {ops : Array Oper} {rest : List Oper} {o : Oper} {a : Act} {w : World} {Q : Exit → Act → World → Prop} (hg : o.guard = none) (x y : Operand) (ho : o.op = .build 113 #[(1, x), (2, y)])
    (f : Nat → Nat) (t : Nat) (hx : a.eval x = .agg (row16 f)) (hy : a.eval y = .int .i64 (t : Nat))
    (h : wpList Try.prog ops Q rest (a.put o.dst (.agg (decRow (fun _ => .slice none 0 0) f t))) w) : wpList Try.prog ops Q (o :: rest) a w := by
  have e : (#[(1, x), (2, y)].map fun (p : Nat × Operand) => (p.1, a.eval p.2)).toList = [(1, .agg (row16 f)), (2, .int .i64 (t : Nat))] := by simp [hx, hy]
  refine wpList_build hg _ _ ho ?_ ?_
  · show (Try.prog.built 113 (#[(1, x), (2, y)].map fun (p : Nat × Operand) => (p.1, a.eval p.2)).toList).isSome = true
    rw [e, built_dec]; rfl
  · show wpList _ _ _ _ (a.put o.dst (.agg ((Try.prog.built 113 (#[(1, x), (2, y)].map fun (p : Nat × Operand) => (p.1, a.eval p.2)).toList).getD #[]))) w
    rw [e, built_dec]; exact h

def cellsN (l : List Nat) : List Value := l.map fun (x : Nat) => Value.int .i64 (x : Nat)
theorem cellsN_length (l : List Nat) : (cellsN l).length = l.length := by simp [cellsN]
theorem cellsN_append (l m : List Nat) : cellsN (l ++ m) = cellsN l ++ cellsN m := by simp [cellsN]

/-- Block D holds a decoder: its rows, each in a block of its own. -/
structure DecAt (w : World) (D : Nat) (S : Nat → Value) (f : Nat → Nat) (t : Nat) (R : Nat → List Nat) : Prop where
  blk : w.heap[D]? = some (.cells (decRow S f t) 113 (0, 0))
  row : ∀ l, l < 16 → w.ownsRow 0 3 1 (S l) (R l).length (cellsN (R l))
  off : ∀ l k, l < 16 → (S l).ownBlock = some k → D < k
  apart : ∀ l m k, l < 16 → m < 16 → (S l).ownBlock = some k → (S m).ownBlock = some k → l = m

theorem DecAt.lt {w : World} {D : Nat} {S : Nat → Value} {f : Nat → Nat} {t : Nat} {R : Nat → List Nat} (h : DecAt w D S f t R) : D < w.heap.size := (Array.getElem?_eq_some_iff.1 h.blk).1
theorem DecAt.below {w w' : World} {D n : Nat} {S : Nat → Value} {f : Nat → Nat} {t : Nat} {R : Nat → List Nat} (h : DecAt w D S f t R) (k : Below n w w') (hn : w.heap.size ≤ n) : DecAt w' D S f t R := by
  have hl := h.lt
  refine ⟨by rw [k.block D (by omega)]; exact h.blk, fun l hl => ?_, h.off, h.apart⟩
  exact Bit.ownsRow_block (h.row l hl) fun j hj => k.block j (by have := ((h.row l hl).lt j hj).2; omega)

/-- The symbols of a length, among the first k. -/
def symsOf (N : List Nat) (k l : Nat) : List Nat := if l = 0 then [] else (List.range k).filter fun i => N.getD i 0 == l

theorem symsOf_succ (N : List Nat) (k l : Nat) : symsOf N (k + 1) l = if l ≠ 0 ∧ N.getD k 0 = l then symsOf N k l ++ [k] else symsOf N k l := by
  unfold symsOf
  by_cases h0 : l = 0
  · rw [if_pos h0, if_pos h0, if_neg (by omega)]
  · rw [if_neg h0, if_neg h0, List.range_succ, List.filter_append]
    by_cases h : N.getD k 0 = l
    · rw [if_pos ⟨h0, h⟩]; simp only [List.filter_cons, List.filter_nil]; rw [if_pos (by rw [h]; simp)]
    · rw [if_neg (by rintro ⟨_, h2⟩; exact h h2)]; simp only [List.filter_cons, List.filter_nil]; rw [if_neg (by simpa using h)]; simp
theorem symsOf_length (N : List Nat) (k l : Nat) : (symsOf N k l).length ≤ k := by
  unfold symsOf
  split
  · exact Nat.zero_le _
  · exact Nat.le_trans (List.length_filter_le _ _) (by simp)

theorem info_int : (Try.prog.info? 3).map (fun i => (i.zero, i.size, i.bytes)) = some (some (.int .i64 0), 1, 8) := by kernel_rfl

theorem cellsN_one (l : List Nat) : ∀ u ∈ cellsN l, u.oneCell' = true := by
  intro u hu
  obtain ⟨x, _, rfl⟩ := List.mem_map.1 hu
  rfl
theorem lit1 (w : World) (k : Nat) (T : TypeId) : ∀ j u, (cellsN [k])[j]? = some u → (w.alloc (.cells #[.int .i64 (k : Nat)] T)).cell? ((⟨w.heap.size, 0, none⟩ : Addr).add j) = some u := by
  intro j u h
  match j, h with
  | 0, h =>
    simp [cellsN] at h
    subst h
    rw [Oct.addr_add, cell_of_row _ _ 0 _ _ _ (heap_alloc_new _ _)]; rfl
  | j + 1, h => simp [cellsN] at h

theorem own_form {w : World} {base size n : Nat} {e : TypeId} {v : Value} {xs : List Value} (h : w.ownsRow base e size v n xs) (hn : 0 < n) : ∃ g cap, v = .slice (some ⟨g, 0, none⟩) n cap := by
  rcases h.2 with ⟨_, h0⟩ | ⟨g, cap, cur, rfl, _⟩
  · omega
  · exact ⟨g, cap, rfl⟩

open Go.Proofs.Ytikfenimgjeplaa.RegTwo
theorem eval_tmp {a : Act} {t : Nat} {v : Value} (h : a.tmps[t]? = some v) : a.eval (.tmp t) = v := by
  show a.tmps.getD t undef = v
  rw [Array.getD_eq_getD_getElem?, h]; rfl
theorem needed_ne {md : Region.Mode} {ops : Array Oper} {i j : Nat} (h : needed md ops i j = true) : i ≠ j := by
  rintro rfl; unfold needed at h; simp at h
theorem lead_ne {md : Region.Mode} {ops : Array Oper} {i j : Nat} (h : mayLead md ops i j = true) : i ≠ j := by
  rintro rfl; unfold mayLead at h; simp at h
theorem wp_append_near {P : Program} {o : Oper} {a : Act} {w : World} {K : Act → World → Prop} {Q : Exit → Act → World → Prop}
    (s x : Operand) (t : TypeId) (hop : o.op = Op.call { callee := Callee.builtin Builtin.append, args := #[s, x], argTypes := #[t, t] })
    (e : TypeId) (i : TypeInfo) (z : Value) (size bytes : Nat) (ht : P.underlying t = some (.slice e)) (hi : P.info? e = some i) (hz : i.zero = some z)
    (hsize : i.size = size) (hby : i.bytes = bytes) (hzs : z.cells.size = size) (hsz : 0 < size)
    (v : Value) (n : Nat) (xs : List Value) (hs : a.eval s = v) (hown : w.ownsRow 0 e size v n xs)
    (ad : Addr) (m c : Nat) (news : List Value) (hx : a.eval x = .slice (some ad) m c) (hl : news.length = m * size) (hnews : ∀ j u, news[j]? = some u → w.cell? (ad.add j) = some u) (h1 : ∀ u ∈ news, u.oneCell' = true)
    (h63 : n + m ≤ maxLen) (hbytes : (n + m) * bytes ≤ 140737488355328)
    (hK : ∀ v' w', w'.ownsRow 0 e size v' (n + m) (xs ++ news) → w.grownBy w' v.ownBlock → Bit.Near w v v' → K (a.put o.dst v') w') : o.wp P a w K Q := by
  obtain ⟨v', w', hrun, r1, r2, r3⟩ := Bit.run_append_near (P := P) w t o.type e i z size bytes ht hi hz hsize hby hzs hsz v n xs hown ad m c news hl hnews h1 h63 hbytes
  unfold Oper.wp
  simp [execOp, hop, resolve, invoke, builtin, hs, hx, hrun, Result.andThen]
  exact hK v' w' r1 r2 r3

theorem lit_at {w : World} {g k : Nat} (h : w.cell? ⟨g, 0, none⟩ = some (.int .i64 (k : Nat))) : ∀ j u, (cellsN [k])[j]? = some u → w.cell? ((⟨g, 0, none⟩ : Addr).add j) = some u := by
  intro j u hj
  match j, hj with
  | 0, hj =>
    simp [cellsN] at hj
    subst hj
    rw [Oct.addr_add]; exact h
  | j + 1, hj => simp [cellsN] at hj

/-- A slice that was read. -/
def N7 (u v : Value) (_ : World) : Prop := v = u
/-- A new block with the one number k. -/
def N9 (wr : World) (k : Nat) (v : Value) (w : World) : Prop := ∃ g, v = .slice (some ⟨g, 0, none⟩) 1 1 ∧ wr.heap.size ≤ g ∧ w.cell? ⟨g, 0, none⟩ = some (.int .i64 (k : Nat)) ∧ g < w.heap.size
theorem N9.alloc {wr w : World} {k : Nat} {v : Value} (h : N9 wr k v w) (o : Obj) : N9 wr k v (w.alloc o) := by
  obtain ⟨g, a, b, c, d⟩ := h
  exact ⟨g, a, b, (((Below.refl w.heap.size w).alloc (Nat.le_refl _) o).cell (p := ⟨g, 0, none⟩) d).trans c, by simp; omega⟩
theorem N9.grown {wr w w' : World} {k : Nat} {v : Value} {row : Option Nat} (h : N9 wr k v w) (hg : w.grownBy w' row) (hr : ∀ j, row = some j → j < wr.heap.size) : N9 wr k v w' := by
  obtain ⟨g, a, b, c, d⟩ := h
  exact ⟨g, a, b, (World.cell?_of_block (a := ⟨g, 0, none⟩) (hg.block g d (fun e => by have := hr g e.symm; omega))).trans c, Nat.lt_of_lt_of_le d hg.size⟩
theorem N9.setCell {wr w : World} {k D : Nat} {v : Value} (h : N9 wr k v w) (hD : D < wr.heap.size) (j : Nat) (u : Value) : N9 wr k v (w.setCell ⟨D, j, none⟩ u) := by
  obtain ⟨g, a, b, c, d⟩ := h
  exact ⟨g, a, b, (World.cell?_of_block (a := ⟨g, 0, none⟩) (heap_setCell_other w ⟨D, j, none⟩ g u (by show g ≠ D; omega))).trans c, by simpa using d⟩
/-- What 'append' leaves. -/
def N10 (wr : World) (u : Value) (R : List Nat) (k : Nat) (v : Value) (w : World) : Prop := w.ownsRow 0 3 1 v (R.length + 1) (cellsN (R ++ [k])) ∧ Bit.Near wr u v ∧ wr.grownBy w u.ownBlock
theorem N10.alloc {wr w : World} {k : Nat} {u v : Value} {R : List Nat} (h : N10 wr u R k v w) (o : Obj) : N10 wr u R k v (w.alloc o) :=
  ⟨h.1.alloc o, h.2.1, ⟨h.2.2.os, h.2.2.tape, h.2.2.output, by have := h.2.2.size; simp; omega, fun j hj hr => by
    have hs := h.2.2.size
    have e : (w.alloc o).heap[j]? = w.heap[j]? := Below.heap_alloc w o j (by omega)
    rw [e]; exact h.2.2.block j hj hr⟩⟩
/-- The decoder, one symbol further. -/
def N14 (w wr : World) (D : Nat) (f : Nat → Nat) (U : Nat) (N : List Nat) (k : Nat) (v : Value) (w' : World) : Prop := ∃ S, DecAt w' D S f U (symsOf N (k + 1)) ∧ Below w.heap.size w w'

/-- What each operation leaves. -/
def newUse (wr : World) (D x k : Nat) (u : Value) (R : List Nat) : Nat → Value → World → Prop
  | 0 => fun v _ => v = .pointer (some ⟨D, 0, none⟩)
  | 1 => fun v _ => v = .int .i64 (x : Nat)
  | 2 => fun v _ => v = .pointer (some ⟨D, 0, none⟩)
  | 3 => fun v _ => v = .int .i64 (x : Nat)
  | 4 => fun v _ => v = .pointer (some ⟨D, 0, none⟩)
  | 5 => fun v _ => v = .pointer (some ⟨D, 0, none⟩)
  | 6 => fun v _ => v = .pointer (some ⟨D, x, none⟩)
  | 7 => N7 u
  | 8 => fun v _ => v = .int .i64 (k : Nat)
  | 9 => N9 wr k
  | 10 => N10 wr u R k
  | 11 => fun v _ => v = .pointer (some ⟨D, 0, none⟩)
  | 12 => fun v _ => v = .pointer (some ⟨D, 0, none⟩)
  | 13 => fun v _ => v = .pointer (some ⟨D, x, none⟩)
  | 14 => fun v _ => v = undef
  | _ => fun _ _ => True
def newFin (w wr : World) (D : Nat) (f : Nat → Nat) (U : Nat) (N : List Nat) (k : Nat) : Nat → Value → World → Prop
  | 14 => N14 w wr D f U N k
  | _ => fun _ _ => True
theorem newUse_keep {wr W W' : World} {D x k : Nat} {u : Value} {R : List Nat} (j : Nat) (u0 : Value) (h9 : j = 9 → ∀ v, N9 wr k v W → N9 wr k v W') (h10 : j = 10 → ∀ v, N10 wr u R k v W → N10 wr u R k v W')
    (h : newUse wr D x k u R j u0 W) : newUse wr D x k u R j u0 W' := by
  match j, h9, h10, h with
  | 9, h9, _, h => exact h9 rfl _ h
  | 10, _, h10, h => exact h10 rfl _ h
  | 0, _, _, h => exact h
  | 1, _, _, h => exact h
  | 2, _, _, h => exact h
  | 3, _, _, h => exact h
  | 4, _, _, h => exact h
  | 5, _, _, h => exact h
  | 6, _, _, h => exact h
  | 7, _, _, h => exact h
  | 8, _, _, h => exact h
  | 11, _, _, h => exact h
  | 12, _, _, h => exact h
  | 13, _, _, h => exact h
  | 14, _, _, h => exact h
  | _ + 15, _, _, _ => trivial
theorem newFin_keep {w wr W W' : World} {D k : Nat} {f : Nat → Nat} {U : Nat} {N : List Nat} (j : Nat) (u0 : Value) (h14 : j = 14 → False)
    (h : newFin w wr D f U N k j u0 W) : newFin w wr D f U N k j u0 W' := by
  unfold newFin at *
  split
  · exact (h14 rfl).elim
  · trivial

theorem new_bad (a : Option Addr) (n cap : Nat) (L : List Int) (w : World) (hn : L.length = n) (h : IsInts w a L) (hl : n ≤ 1000000) (hf : fine L = false) :
    Calls Try.prog 57 #[.slice a n cap] w fun e w' => e = .returned (.tuple #[.pointer none, .int .i64 50]) ∧ Below w.heap.size w w' := by
  have C1 := Lib.hid (check_any a n cap L w hn h hl)
  have hc : chk L = .tuple #[.int .i64 0, .int .i64 50] := by unfold chk; rw [hf]; rfl
  rw [hc] at C1
  clear h
  go_enter Try.func57, Try.ntmps57
  go_wp2_with fail
  refine C1.out.mono ?_
  rintro r w1 ⟨rfl, b1⟩
  go_wp2_with fail
  go_ret2
  exact ⟨rfl, b1⟩

set_option maxRecDepth 10000 in
set_option maxHeartbeats 2000000 in
theorem new_good (a : Option Addr) (n cap : Nat) (L : List Int) (w : World) (hn : L.length = n) (h : IsInts w a L) (hf : fine L = true) :
    Calls Try.prog 57 #[.slice a n cap] w fun e w' => ∃ D S, e = .returned (.tuple #[.pointer (some ⟨D, 0, none⟩), .int .i64 0]) ∧ Below w.heap.size w w' ∧
      w.heap.size ≤ D ∧ DecAt w' D S (fst (nats L)) (used (nats L) 15) (symsOf (nats L) n) := by
  obtain ⟨f1, f2, f3⟩ := fine_parts hf
  have hl : n ≤ 320 := by omega
  have hchk : chk L = .tuple #[.int .i64 (32768 - used (nats L) 15 : Nat), .int .i64 0] := by unfold chk; rw [hf, if_pos rfl]
  have C1 := Lib.hid (check_any a n cap L w hn h (by omega))
  rw [hchk] at C1
  clear hchk
  have hN : (nats L).length = n := by rw [nats_length]; exact hn
  have hI : IsInts w a ((nats L).map fun (x : Nat) => (x : Int)) := by rw [← nats_cast f2]; exact h
  have h15 := nats_le f2
  clear h hf f1 f2 hn
  generalize nats L = N at *
  have HI := Lib.hid hI
  have H15 := Lib.hid h15
  obtain ⟨U, hU⟩ : ∃ U, used N 15 = U := ⟨_, rfl⟩
  rw [hU] at C1 f3 ⊢
  have HW : Hid (wrap64 (32768 - ((32768 - U : Nat) : Int)) = (U : Int)) := by
    show wrap64 (32768 - ((32768 - U : Nat) : Int)) = (U : Int)
    rw [show 32768 - ((32768 - U : Nat) : Int) = (U : Int) by omega]
    exact IntWalk.wrap64_in _ (by omega)
  obtain ⟨M, hM⟩ : ∃ M, 32768 - U = M := ⟨_, rfl⟩
  rw [hM] at C1 HW
  clear hI h15 hU hM f3
  obtain ⟨i0, hi, hz0, hz1, hz2⟩ := info_parts info_int
  go_enter Try.func57, Try.ntmps57
  go_wp2_with fail
  refine C1.out.mono ?_
  rintro r w1 ⟨rfl, b1⟩
  have B1 := Lib.hid b1
  have I1 := Lib.hid (HI.out.below b1 (Nat.le_refl _))
  clear b1 C1
  go_wp2_with fail
  refine (tally_any a n cap N w1 hN I1.out (by omega) H15.out).mono ?_
  rintro r w2 ⟨rfl, b2⟩
  have B2 := Lib.hid (B1.out.trans (b2.mono B1.out.size))
  clear b2 B1 I1
  go_wp2_with fail
  refine (firsts_any N w2 (by omega)).mono ?_
  rintro r w3 ⟨rfl, b3⟩
  have B3 := Lib.hid (B2.out.trans (b3.mono B2.out.size))
  clear b3 B2
  have HE := Lib.hid (congrArg (Value.int .i64) HW.out)
  go_wp2_with (refine wpl_build_dec rfl (.tmp 19) (.tmp 21) rfl (fst N) U rfl HE.out ?_)
  have hD0 : DecAt (w3.alloc (.cells (decRow (fun _ => .slice none 0 0) (fst N) U) 113)) w3.heap.size (fun _ => .slice none 0 0) (fst N) U (symsOf N 0) := by
    refine ⟨heap_alloc_new _ _, fun l _ => ?_, fun l k _ h => (by cases h), fun l m k _ _ h => (by cases h)⟩
    have e : symsOf N 0 l = [] := by unfold symsOf; split <;> rfl
    rw [e]
    exact World.ownsRow_nil _ _ _ _
  have hB0 := B3.out.alloc B3.out.size (.cells (decRow (fun _ => .slice none 0 0) (fst N) U) 113)
  have hX := B3.out.size
  have HD0 := Lib.hid hD0
  have HB0 := Lib.hid hB0
  clear hD0 hB0 B3
  generalize w3.heap.size = D at *
  go_loopw [26] (fun i wr => ∃ (k : Nat) (S : Nat → Value), k ≤ n ∧ i = .int .i64 k ∧ DecAt wr D S (fst N) U (symsOf N k) ∧ Below w.heap.size w wr) (fun i _ => n - (intOf i).toNat)
  case atStart => exact ⟨0, _, Nat.zero_le _, rfl, HD0.out, HB0.out⟩
  case round =>
    obtain ⟨k, S, hk, rfl, hdec, hbel⟩ := hrel
    clear HD0 HB0
    by_cases hlt : k < n
    · obtain ⟨b, off, rfl, hb, hc⟩ := HI.out (by simp; omega)
      have hck := hc k (by simp; omega)
      rw [List.getElem_map] at hck
      have hx15 := H15.out N[k] (List.getElem_mem (by omega))
      have hcw : wr.cell? ⟨b, off + k, none⟩ = some (.int .i64 (N[k] : Nat)) := (hbel.cell hb).trans hck
      have hgd : N.getD k 0 = N[k] := by rw [List.getD_eq_getElem?_getD, List.getElem?_eq_getElem (by omega)]; rfl
      clear hck hc
      by_cases hx0 : N[k] = 0
      · have hR : symsOf N (k + 1) = symsOf N k := by
          funext l
          rw [symsOf_succ, if_neg (by rw [hgd, hx0]; omega)]
        have H1 := Lib.hid hdec
        have H2 := Lib.hid hbel
        have HR := Lib.hid hR
        rw [hx0] at hcw
        clear hdec hbel hR hgd hx0 hx15
        go_wp2_with fail
        refine ⟨⟨k + 1, S, by omega, by go_num, by rw [HR.out]; exact H1.out, H2.out⟩, ?_⟩
        simp [intOf]; omega
      · have hR : symsOf N (k + 1) = fun l => if l = N[k] then symsOf N k N[k] ++ [k] else symsOf N k l := by
          funext l
          rw [symsOf_succ, hgd]
          by_cases h : l = N[k]
          · rw [if_pos ⟨by omega, h.symm⟩, if_pos h, h]
          · rw [if_neg (by rintro ⟨_, h2⟩; exact h h2.symm), if_neg h]
        have HR := Lib.hid hR
        clear hgd hR
        have hrl := symsOf_length N k N[k]
        generalize N[k] = x at *
        have hx1 : 0 < x := by omega
        have hrow := hdec.row x (by omega)
        have hcl : wr.cell? ⟨D, x, none⟩ = some (S x) := by rw [cell_of_row wr D x _ _ _ hdec.blk, decRow_sym _ _ _ _ (by omega)]
        have hfz : wr.frozen? ⟨D, x, none⟩ = false := frozen_of_row wr D x _ _ hdec.blk
        have HROW := Lib.hid hrow
        have HDEC := Lib.hid hdec
        have HBEL := Lib.hid hbel
        have hDlt := hdec.lt
        have HNE : Hid ((S x).ownBlock ≠ some D) := fun h => by have := hdec.off x D (by omega) h; omega
        clear hrow hdec hbel
        generalize hsx : S x = u at *
        generalize hrr : symsOf N k x = R at *
        have HSX := Lib.hid hsx
        have HRR := Lib.hid hrr
        clear hsx hrr
        have hxi1 : (0 : Int) ≤ (x : Int) := by omega
        have hxi2 : (x : Int) < 16 := by omega
        go_wp2_with fail
        have HCL : Hid (∀ W, Below wr.heap.size wr W → W.cell? ⟨D, x, none⟩ = some u) := fun W h => (h.cell (p := ⟨D, x, none⟩) hDlt).trans hcl
        have HROW' : Hid (∀ W, Below wr.heap.size wr W → W.ownsRow 0 3 1 u R.length (cellsN R)) := fun W h => Bit.ownsRow_block HROW.out fun j hj => h.block j (HROW.out.lt j hj).2
        have H9 : Hid (∀ W, Below wr.heap.size wr W → wr.heap.size ≤ W.heap.size) := fun W h => h.size
        have HUL : Hid (∀ j, u.ownBlock = some j → j < wr.heap.size) := fun j hj => (HROW.out.lt j hj).2
        have HDL := Lib.hid hDlt
        have H10 : Hid (∀ W v9 w9, Below wr.heap.size wr W → w9.ownsRow 0 3 1 v9 (R.length + 1) (cellsN R ++ cellsN [k]) → W.grownBy w9 u.ownBlock → Bit.Near W u v9 → N10 wr u R k v9 w9) := fun W v9 w9 hW o9 g9 n9 =>
          ⟨by rw [cellsN_append]; exact o9, fun j hj => by
            rcases n9 j hj with h | h
            · exact .inl h
            · exact .inr (Nat.le_trans hW.size h), ⟨g9.os.trans hW.os, g9.tape.trans hW.tape, g9.output.trans hW.output, Nat.le_trans hW.size g9.size, fun j hj hr => (g9.block j (Nat.lt_of_lt_of_le hj hW.size) hr).trans (hW.block j hj)⟩⟩
        have H14 : Hid (∀ W v, N10 wr u R k v W → W.cell? ⟨D, x, none⟩ = some u ∧ W.frozen? ⟨D, x, none⟩ = false ∧ ∃ gb cp, v = .slice (some ⟨gb, 0, none⟩) (R.length + 1) cp) := fun W v h =>
          ⟨(World.cell?_of_block (a := ⟨D, x, none⟩) (h.2.2.block D hDlt (fun e => HNE.out e.symm))).trans hcl, (World.frozen?_of_block (a := ⟨D, x, none⟩) (h.2.2.block D hDlt (fun e => HNE.out e.symm))).trans hfz, own_form h.1 (by omega)⟩
        have HF : Hid (∀ W v, N10 wr u R k v W → N14 w wr D (fst N) U N k undef (W.setCell ⟨D, x, none⟩ v)) := by
          intro W v h
          have hdec := HDEC.out
          have hbel := HBEL.out
          have hold : ∀ l j, l < 16 → l ≠ x → (S l).ownBlock = some j → j ≠ D ∧ W.heap[j]? = wr.heap[j]? := fun l j hl hlx hj =>
            ⟨fun e => by have := hdec.off l j hl hj; omega, h.2.2.block j ((hdec.row l hl).lt j hj).2 (fun e => hlx (hdec.apart l x j hl (by omega) hj (by rw [HSX.out]; exact e.symm)))⟩
          have hvD : ∀ j, v.ownBlock = some j → D < j := fun j hj => by
            rcases h.2.1 j hj with e | e
            · exact hdec.off x j (by omega) (by rw [HSX.out]; exact e)
            · omega
          have hset : ∀ j, j ≠ D → (W.setCell ⟨D, x, none⟩ v).heap[j]? = W.heap[j]? := fun j hj => heap_setCell_other W ⟨D, x, none⟩ j v hj
          refine ⟨fun i => if i = x then v else S i, ⟨?_, fun l hl => ?_, fun l j hl hj => ?_, fun l m j hl hm hj hk' => ?_⟩, ?_⟩
          · have e1 : W.heap[D]? = wr.heap[D]? := h.2.2.block D hDlt (fun e => HNE.out e.symm)
            rw [heap_setCell_same W D x _ _ v (e1.trans hdec.blk), decRow_set _ _ _ _ (by omega)]
          · rw [HR.out]
            by_cases hlx : l = x
            · simp only [hlx, if_true]
              rw [List.length_append, List.length_singleton]
              exact Bit.ownsRow_block h.1 fun j hj => hset j (by have := hvD j hj; omega)
            · simp only [hlx, if_false]
              exact Bit.ownsRow_block (hdec.row l hl) fun j hj => (hset j (hold l j hl hlx hj).1).trans (hold l j hl hlx hj).2
          · by_cases hlx : l = x
            · simp only [hlx, if_true] at hj; exact hvD j hj
            · simp only [hlx, if_false] at hj; exact hdec.off l j hl hj
          · have hnew : ∀ l, l < 16 → l ≠ x → (S l).ownBlock = some j → v.ownBlock = some j → False := fun l hl hlx hj hv => by
              rcases h.2.1 j hv with e | e
              · exact hlx (hdec.apart l x j hl (by omega) hj (by rw [HSX.out]; exact e))
              · have := ((hdec.row l hl).lt j hj).2; omega
            by_cases hlx : l = x
            · by_cases hmx : m = x
              · omega
              · simp only [hlx, if_true] at hj
                simp only [hmx, if_false] at hk'
                exact (hnew m hm hmx hk' hj).elim
            · by_cases hmx : m = x
              · simp only [hlx, if_false] at hj
                simp only [hmx, if_true] at hk'
                exact (hnew l hl hlx hj hk').elim
              · simp only [hlx, if_false] at hj
                simp only [hmx, if_false] at hk'
                exact hdec.apart l m j hl hm hj hk'
          · have hb2 : Below w.heap.size w W := hbel.grown h.2.2 hbel.size (fun j hj => by
              have := hdec.off x j (by omega) (by rw [HSX.out]; exact hj); omega)
            exact hb2.setCell (p := ⟨D, x, none⟩) hX v
        clear HROW HBEL hcl hfz hDlt HNE hcw HSX HRR HR HDEC
        have HROW := HROW'
        clear HROW'
        refine region_ops (n := 49) (by kernel_rfl) (newUse wr D x k u R) (newFin w wr D (fst N) U N k) (fun ℓ W => ℓ 10 = false → Below wr.heap.size wr W) (by kernel_rfl) (by kernel_rfl) (by rfl) (by kernel_rfl) (fun _ => (Below.refl _ _).drew) ⟨?_, ?_, ?_, ?_, ?_, ?_, ?_, ?_, ?_, ?_, ?_, ?_, ?_, ?_, ?_, trivial⟩ ?_
        · intro ℓ act W hl hr hd hS hsame hdeps
          have e6 : act.tmps[6]? = some (.pointer (some ⟨D, 0, none⟩)) := hsame 6 (by kernel_rfl)
          clear hsame hdeps
          refine ⟨wanted_none (by rfl), fun K hK => ?_⟩
          go_simp
          exact hK _ _ (by rfl) trivial hS (fun _ _ _ h => h) (fun _ _ _ h => h)
        · intro ℓ act W hl hr hd hS hsame hdeps
          have e8 : act.tmps[8]? = some (.int .i64 (x : Nat)) := hsame 8 (by kernel_rfl)
          clear hsame hdeps
          refine ⟨wanted_none (by rfl), fun K hK => ?_⟩
          go_simp
          exact hK _ _ (by rfl) trivial hS (fun _ _ _ h => h) (fun _ _ _ h => h)
        · intro ℓ act W hl hr hd hS hsame hdeps
          have e6 : act.tmps[6]? = some (.pointer (some ⟨D, 0, none⟩)) := hsame 6 (by kernel_rfl)
          clear hsame hdeps
          refine ⟨wanted_none (by rfl), fun K hK => ?_⟩
          go_simp
          exact hK _ _ (by rfl) trivial hS (fun _ _ _ h => h) (fun _ _ _ h => h)
        · intro ℓ act W hl hr hd hS hsame hdeps
          have e8 : act.tmps[8]? = some (.int .i64 (x : Nat)) := hsame 8 (by kernel_rfl)
          clear hsame hdeps
          refine ⟨wanted_none (by rfl), fun K hK => ?_⟩
          go_simp
          exact hK _ _ (by rfl) trivial hS (fun _ _ _ h => h) (fun _ _ _ h => h)
        · intro ℓ act W hl hr hd hS hsame hdeps
          obtain ⟨x35, e35, y35⟩ := hdeps ⟨2, .data⟩ (by simp) (by rfl) (by rfl) 35 (by rfl)
          replace y35 : x35 = .pointer (some ⟨D, 0, none⟩) := y35
          subst y35
          clear hsame hdeps
          refine ⟨wanted_none (by rfl), fun K hK => ?_⟩
          go_simp
          exact hK _ _ (by rfl) trivial hS (fun _ _ _ h => h) (fun _ _ _ h => h)
        · intro ℓ act W hl hr hd hS hsame hdeps
          obtain ⟨x37, e37, y37⟩ := hdeps ⟨4, .data⟩ (by simp) (by rfl) (by rfl) 37 (by rfl)
          replace y37 : x37 = .pointer (some ⟨D, 0, none⟩) := y37
          subst y37
          clear hsame hdeps
          refine ⟨wanted_none (by rfl), fun K hK => ?_⟩
          go_simp
          exact hK _ _ (by rfl) trivial hS (fun _ _ _ h => h) (fun _ _ _ h => h)
        · intro ℓ act W hl hr hd hS hsame hdeps
          obtain ⟨x38, e38, y38⟩ := hdeps ⟨5, .data⟩ (by simp) (by rfl) (by rfl) 38 (by rfl)
          replace y38 : x38 = .pointer (some ⟨D, 0, none⟩) := y38
          subst y38
          obtain ⟨x36, e36, y36⟩ := hdeps ⟨3, .data⟩ (by simp) (by rfl) (by rfl) 36 (by rfl)
          replace y36 : x36 = .int .i64 (x : Nat) := y36
          subst y36
          clear hsame hdeps
          refine ⟨wanted_none (by rfl), fun K hK => ?_⟩
          go_simp
          exact hK _ _ (by rfl) trivial hS (fun _ _ _ h => h) (fun _ _ _ h => h)
        · intro ℓ act W hl hr hd hS hsame hdeps
          obtain ⟨x39, e39, y39⟩ := hdeps ⟨6, .data⟩ (by simp) (by rfl) (by rfl) 39 (by rfl)
          replace y39 : x39 = .pointer (some ⟨D, x, none⟩) := y39
          subst y39
          clear hsame hdeps
          refine ⟨wanted_none (by rfl), fun K hK => ?_⟩
          have hcl := HCL.out W (hS (hr 10 (by kernel_rfl)))
          go_simp
          exact hK _ _ (by rfl) trivial hS (fun _ _ _ h => h) (fun _ _ _ h => h)
        · intro ℓ act W hl hr hd hS hsame hdeps
          have e7 : act.tmps[7]? = some (.int .i64 (k : Nat)) := hsame 7 (by kernel_rfl)
          clear hsame hdeps
          refine ⟨wanted_none (by rfl), fun K hK => ?_⟩
          go_simp
          exact hK _ _ (by rfl) trivial hS (fun _ _ _ h => h) (fun _ _ _ h => h)
        · intro ℓ act W hl hr hd hS hsame hdeps
          obtain ⟨x41, e41, y41⟩ := hdeps ⟨8, .data⟩ (by simp) (by rfl) (by rfl) 41 (by rfl)
          replace y41 : x41 = .int .i64 (k : Nat) := y41
          subst y41
          clear hsame hdeps
          refine ⟨wanted_none (by rfl), fun K hK => ?_⟩
          have hb := fun h => (hS h).size
          go_simp
          exact hK _ _ ⟨_, rfl, H9.out _ (hS (hr 10 (by kernel_rfl))), (cell_of_row _ _ 0 _ _ _ (heap_alloc_new _ _)).trans rfl, by simp⟩ trivial (fun h => (hS h).alloc (hb h) _) (fun j u0 _ h => newUse_keep j u0 (fun _ v h => h.alloc _) (fun _ v h => h.alloc _) h) (fun j u0 hm h => newFin_keep j u0 (fun e => by subst e; exact Bool.noConfusion ((show mayLead .any _ 9 14 = false by kernel_rfl).symm.trans hm)) h)
        · intro ℓ act W hl hr hd hS hsame hdeps
          obtain ⟨x40, e40, y40⟩ := hdeps ⟨7, .data⟩ (by simp) (by rfl) (by rfl) 40 (by rfl)
          replace y40 : x40 = u := y40
          rw [y40] at e40
          obtain ⟨x42, e42, y42⟩ := hdeps ⟨9, .data⟩ (by simp) (by rfl) (by rfl) 42 (by rfl)
          obtain ⟨g42, y42, l42, c42, m42⟩ := (y42 : N9 wr k x42 W)
          subst y42
          clear hsame hdeps
          refine ⟨wanted_none (by rfl), fun K hK => ?_⟩
          have hW := hS hl
          refine wp_append_near (.tmp 40) (.tmp 42) 25 rfl 3 i0 (.int .i64 0) 1 8 Try.underlying25 hi hz0 hz1 hz2 rfl (by decide) u R.length (cellsN R) (eval_tmp e40) (HROW.out W hW) ⟨g42, 0, none⟩ 1 1 (cellsN [k]) (eval_tmp e42) rfl (lit_at c42) (cellsN_one _) (by unfold maxLen; omega) (by omega) ?_
          intro v9 w9 o9 g9 n9
          exact hK _ _ (H10.out W v9 w9 hW o9 g9 n9) trivial (fun h => by cases h) (fun j u0 hm h => newUse_keep j u0 (fun _ v h => h.grown g9 HUL.out) (fun e v h => absurd e.symm (needed_ne hm)) h) (fun j u0 hm h => newFin_keep j u0 (fun e => by subst e; exact Bool.noConfusion ((show mayLead .any _ 10 14 = false by kernel_rfl).symm.trans hm)) h)
        · intro ℓ act W hl hr hd hS hsame hdeps
          obtain ⟨x33, e33, y33⟩ := hdeps ⟨0, .data⟩ (by simp) (by rfl) (by rfl) 33 (by rfl)
          replace y33 : x33 = .pointer (some ⟨D, 0, none⟩) := y33
          subst y33
          clear hsame hdeps
          refine ⟨wanted_none (by rfl), fun K hK => ?_⟩
          go_simp
          exact hK _ _ (by rfl) trivial hS (fun _ _ _ h => h) (fun _ _ _ h => h)
        · intro ℓ act W hl hr hd hS hsame hdeps
          obtain ⟨x44, e44, y44⟩ := hdeps ⟨11, .data⟩ (by simp) (by rfl) (by rfl) 44 (by rfl)
          replace y44 : x44 = .pointer (some ⟨D, 0, none⟩) := y44
          subst y44
          clear hsame hdeps
          refine ⟨wanted_none (by rfl), fun K hK => ?_⟩
          go_simp
          exact hK _ _ (by rfl) trivial hS (fun _ _ _ h => h) (fun _ _ _ h => h)
        · intro ℓ act W hl hr hd hS hsame hdeps
          obtain ⟨x45, e45, y45⟩ := hdeps ⟨12, .data⟩ (by simp) (by rfl) (by rfl) 45 (by rfl)
          replace y45 : x45 = .pointer (some ⟨D, 0, none⟩) := y45
          subst y45
          obtain ⟨x34, e34, y34⟩ := hdeps ⟨1, .data⟩ (by simp) (by rfl) (by rfl) 34 (by rfl)
          replace y34 : x34 = .int .i64 (x : Nat) := y34
          subst y34
          clear hsame hdeps
          refine ⟨wanted_none (by rfl), fun K hK => ?_⟩
          go_simp
          exact hK _ _ (by rfl) trivial hS (fun _ _ _ h => h) (fun _ _ _ h => h)
        · intro ℓ act W hl hr hd hS hsame hdeps
          obtain ⟨x46, e46, y46⟩ := hdeps ⟨13, .data⟩ (by simp) (by rfl) (by rfl) 46 (by rfl)
          replace y46 : x46 = .pointer (some ⟨D, x, none⟩) := y46
          subst y46
          obtain ⟨x43, e43, y43⟩ := hdeps ⟨10, .data⟩ (by simp) (by rfl) (by rfl) 43 (by rfl)
          obtain ⟨o43, n43, g43⟩ := (y43 : N10 wr u R k x43 W)
          clear hsame hdeps
          refine ⟨wanted_none (by rfl), fun K hK => ?_⟩
          obtain ⟨hc14, hf14, gb, cp, hv9⟩ := H14.out W x43 ⟨o43, n43, g43⟩
          rw [hv9] at e43
          go_simp
          have hfin := HF.out W x43 ⟨o43, n43, g43⟩
          rw [hv9] at hfin
          exact hK _ _ (by rfl) hfin (fun h => by have h10 := hd 10 (by kernel_rfl); exact absurd (h10.symm.trans h) (by decide)) (fun j u0 hm h => newUse_keep j u0 (fun _ v h => h.setCell HDL.out _ _) (fun e v h => by subst e; exact Bool.noConfusion ((show needed .any _ 14 10 = false by kernel_rfl).symm.trans hm)) h) (fun j u0 hm h => newFin_keep j u0 (fun e => absurd e.symm (lead_ne hm)) h)
        · intro act W hd hz hsame hdone
          obtain ⟨_, fin14⟩ : ∃ v, newFin w wr D (fst N) U N k 14 v W := by obtain ⟨v, _, h⟩ := hdone 14 (by decide); exact ⟨v, h⟩
          obtain ⟨S2, d2, b2⟩ := fin14
          clear hdone
          obtain ⟨tm, df⟩ := act
          obtain rfl : df = [] := hd
          have q0 := getD_same (hsame 0 (by kernel_rfl))
          have q1 := getD_same (hsame 1 (by kernel_rfl))
          have q2 := getD_same (hsame 2 (by kernel_rfl))
          have q3 := getD_same (hsame 3 (by kernel_rfl))
          have q4 := getD_same (hsame 4 (by kernel_rfl))
          have q5 := getD_same (hsame 5 (by kernel_rfl))
          have q6 := getD_same (hsame 6 (by kernel_rfl))
          have q7 := getD_same (hsame 7 (by kernel_rfl))
          have q8 := getD_same (hsame 8 (by kernel_rfl))
          have q9 := getD_same (hsame 9 (by kernel_rfl))
          have q10 := getD_same (hsame 10 (by kernel_rfl))
          have q11 := getD_same (hsame 11 (by kernel_rfl))
          have q12 := getD_same (hsame 12 (by kernel_rfl))
          have q13 := getD_same (hsame 13 (by kernel_rfl))
          have q14 := getD_same (hsame 14 (by kernel_rfl))
          have q15 := getD_same (hsame 15 (by kernel_rfl))
          have q16 := getD_same (hsame 16 (by kernel_rfl))
          have q17 := getD_same (hsame 17 (by kernel_rfl))
          have q18 := getD_same (hsame 18 (by kernel_rfl))
          have q19 := getD_same (hsame 19 (by kernel_rfl))
          have q20 := getD_same (hsame 20 (by kernel_rfl))
          have q21 := getD_same (hsame 21 (by kernel_rfl))
          have q22 := getD_same (hsame 22 (by kernel_rfl))
          have q23 := getD_same (hsame 23 (by kernel_rfl))
          have q24 := getD_same (hsame 24 (by kernel_rfl))
          have q25 := getD_same (hsame 25 (by kernel_rfl))
          have q26 := getD_same (hsame 26 (by kernel_rfl))
          have q27 := getD_same (hsame 27 (by kernel_rfl))
          have q28 := getD_same (hsame 28 (by kernel_rfl))
          have q29 := getD_same (hsame 29 (by kernel_rfl))
          have q30 := getD_same (hsame 30 (by kernel_rfl))
          have q31 := getD_same (hsame 31 (by kernel_rfl))
          have q32 := getD_same (hsame 32 (by kernel_rfl))
          have q47 := getD_same (hsame 47 (by kernel_rfl))
          have q48 := getD_same (hsame 48 (by kernel_rfl))
          clear hsame
          rw [arr_all tm 49 hz, show List.range 49 = [0, 1, 2, 3, 4, 5, 6, 7, 8, 9, 10, 11, 12, 13, 14, 15, 16, 17, 18, 19, 20, 21, 22, 23, 24, 25, 26, 27, 28, 29, 30, 31, 32, 33, 34, 35, 36, 37, 38, 39, 40, 41, 42, 43, 44, 45, 46, 47, 48] from rfl]
          simp only [List.map_cons, List.map_nil, List.getElem_toArray, List.getElem_cons_zero, List.getElem_cons_succ, q0, q1, q2, q3, q4, q5, q6, q7, q8, q9, q10, q11, q12, q13, q14, q15, q16, q17, q18, q19, q20, q21, q22, q23, q24, q25, q26, q27, q28, q29, q30, q31, q32, q47, q48]
          clear q0 q1 q2 q3 q4 q5 q6 q7 q8 q9 q10 q11 q12 q13 q14 q15 q16 q17 q18 q19 q20 q21 q22 q23 q24 q25 q26 q27 q28 q29 q30 q31 q32 q47 q48 hz
          generalize tm.getD 33 undef = z33
          generalize tm.getD 34 undef = z34
          generalize tm.getD 35 undef = z35
          generalize tm.getD 36 undef = z36
          generalize tm.getD 37 undef = z37
          generalize tm.getD 38 undef = z38
          generalize tm.getD 39 undef = z39
          generalize tm.getD 40 undef = z40
          generalize tm.getD 41 undef = z41
          generalize tm.getD 42 undef = z42
          generalize tm.getD 43 undef = z43
          generalize tm.getD 44 undef = z44
          generalize tm.getD 45 undef = z45
          generalize tm.getD 46 undef = z46
          have D2 := Lib.hid d2
          have B2 := Lib.hid b2
          clear d2 b2 HCL H9 HUL HDL H10 H14 HF HROW
          go_wp2_with fail
          refine ⟨⟨k + 1, S2, by omega, by go_num, D2.out, B2.out⟩, ?_⟩
          simp [intOf]; omega
    · obtain rfl : k = n := by omega
      have H1 := Lib.hid hdec
      have H2 := Lib.hid hbel
      clear hdec hbel
      go_wp2_with fail
      go_ret2
      exact ⟨_, S, rfl, H2.out, hX, H1.out⟩

end Go.Proofs.Ytikfenimgjeplaa.Huf
