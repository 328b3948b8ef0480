/-
  Contract of huffman.Codes.
-/
import Derived.Test.YtikfenimgjeplaaHufCheck
import Derived.Laws.MakeOwn
namespace Go.Proofs.Ytikfenimgjeplaa.Huf
open Go.ChangeShapes Go.WideShapes Go.ChangeAt Go.RowKit
set_option linter.unusedVariables false

/-- Pairs of numbers as cells. -/
def rowC (n : Nat) (F G : Nat → Nat) : List Value := (List.range (n * 2)).map fun j => if j % 2 = 0 then Value.int .i64 (F (j / 2) : Nat) else Value.int .i64 (G (j / 2) : Nat)
theorem rowC_length (n : Nat) (F G : Nat → Nat) : (rowC n F G).length = n * 2 := by simp [rowC]
theorem rowC_get (n : Nat) (F G : Nat → Nat) (i : Nat) (h : i < n) : (rowC n F G)[i * 2]? = some (.int .i64 (F i : Nat)) ∧ (rowC n F G)[i * 2 + 1]? = some (.int .i64 (G i : Nat)) := by
  unfold rowC
  constructor
  · rw [List.getElem?_map, List.getElem?_range (by omega)]
    simp
  · rw [List.getElem?_map, List.getElem?_range (by omega)]
    simp only [Option.map_some]
    rw [if_neg (by omega), show (i * 2 + 1) / 2 = i by omega]
theorem rowC_set (n : Nat) (F G F' G' : Nat → Nat) (i x y : Nat) (hx : F' i = x) (hy : G' i = y) (hF : ∀ j, j < n → j ≠ i → F' j = F j) (hG : ∀ j, j < n → j ≠ i → G' j = G j) :
    ((rowC n F G).set (i * 2) (.int .i64 (x : Nat))).set (i * 2 + 1) (.int .i64 (y : Nat)) = rowC n F' G' := by
  apply List.ext_getElem?
  intro j
  unfold rowC
  rw [List.getElem?_set, List.getElem?_set]
  simp only [List.length_set, List.length_map, List.length_range, List.getElem?_map]
  by_cases hj : j < n * 2
  · rw [List.getElem?_range hj]
    simp only [Option.map_some]
    by_cases h1 : i * 2 + 1 = j
    · subst h1
      rw [if_pos rfl, if_pos hj, if_neg (by omega), show (i * 2 + 1) / 2 = i by omega, hy]
    · rw [if_neg h1]
      by_cases h2 : i * 2 = j
      · subst h2
        rw [if_pos rfl, if_pos (by omega), if_pos (by omega), show i * 2 / 2 = i by omega, hx]
      · rw [if_neg h2, hF _ (by omega) (by omega), hG _ (by omega) (by omega)]
  · have e : (List.range (n * 2))[j]? = none := by rw [List.getElem?_eq_none]; simp; omega
    rw [e]
    simp only [Option.map_none]
    by_cases h1 : i * 2 + 1 = j
    · rw [if_pos h1, if_neg (by omega)]
    · rw [if_neg h1]
      by_cases h2 : i * 2 = j
      · rw [if_pos h2, if_neg (by omega)]
      · rw [if_neg h2]

theorem info_code : (Try.prog.info? 81).map (fun i => (i.zero, i.size, i.bytes)) = some (some (.agg #[.int .i64 0, .int .i64 0]), 2, 16) := by kernel_rfl
theorem info_parts {P : Program} {t : TypeId} {z : Value} {n m : Nat} (h : (P.info? t).map (fun i => (i.zero, i.size, i.bytes)) = some (some z, n, m)) :
    ∃ i, P.info? t = some i ∧ i.zero = some z ∧ i.size = n ∧ i.bytes = m := by
  cases hi : P.info? t with
  | none => rw [hi] at h; simp at h
  | some i =>
    rw [hi] at h
    simp only [Option.map_some, Option.some.injEq, Prod.mk.injEq] at h
    exact ⟨i, rfl, h.1, h.2.1, h.2.2⟩

theorem madeC (n : Nat) : (madeCells #[.int .i64 0, .int .i64 0] (n * 2)).toList = rowC n (fun _ => 0) (fun _ => 0) := by
  apply List.ext_getElem?
  intro j
  unfold madeCells rowC
  by_cases hj : j < n * 2
  · rw [List.getElem?_map, List.getElem?_range hj]
    simp [hj]
    have : j % 2 = 0 ∨ j % 2 = 1 := by omega
    rcases this with h | h <;> simp [h]
  · rw [List.getElem?_eq_none (by simp; omega), List.getElem?_eq_none (by simp; omega)]

/-- The next code of a length, behind k symbols. -/
def nxt (N : List Nat) (k l : Nat) : Nat := if l = 0 then 0 else fst N l + (N.take k).count l

theorem codes_bad (a : Option Addr) (n cap : Nat) (L : List Int) (w : World) (hn : L.length = n) (h : IsInts w a L) (hl : n ≤ 1000000) (hf : fine L = false) :
    Calls Try.prog 67 #[.slice a n cap] w fun e w' => e = .returned (.tuple #[.slice none 0 0, .int .i64 50]) ∧ Below w.heap.size w w' := by
  have C1 := Lib.hid (check_any a n cap L w hn h hl)
  have hc : chk L = .tuple #[.int .i64 0, .int .i64 50] := by unfold chk; rw [hf]; rfl
  rw [hc] at C1
  clear h
  go_enter Try.func67, Try.ntmps67
  go_wp2_with fail
  refine C1.out.mono ?_
  rintro r w1 ⟨rfl, b1⟩
  go_wp2_with fail
  go_ret2
  exact ⟨rfl, b1⟩

theorem fine_parts {L : List Int} (h : fine L = true) : L.length ≤ 320 ∧ allIn 15 L = true ∧ used (nats L) 15 ≤ 32768 := by
  unfold fine at h
  simp only [Bool.and_eq_true, decide_eq_true_eq] at h
  exact ⟨h.1.1, h.1.2, h.2⟩

set_option maxRecDepth 10000 in
set_option maxHeartbeats 2000000 in
theorem codes_good (a : Option Addr) (n cap : Nat) (L : List Int) (w : World) (hn : L.length = n) (h : IsInts w a L) (hf : fine L = true) :
    Calls Try.prog 67 #[.slice a n cap] w fun e w' => ∃ b, e = .returned (.tuple #[.slice (some ⟨b, 0, none⟩) n n, .int .i64 0]) ∧ Below w.heap.size w w' ∧
      w'.ownsRow w.heap.size 81 2 (.slice (some ⟨b, 0, none⟩) n n) n (rowC n (codeV (nats L)) (fun i => (nats L).getD i 0)) := by
  obtain ⟨f1, f2, f3⟩ := fine_parts hf
  have hl : n ≤ 320 := by omega
  have hc : ∃ left : Int, chk L = .tuple #[.int .i64 left, .int .i64 0] := ⟨_, by unfold chk; rw [hf]; rfl⟩
  obtain ⟨left, hleft⟩ := hc
  have C1 := Lib.hid (check_any a n cap L w hn h (by omega))
  rw [hleft] at C1
  clear hleft
  have hN : (nats L).length = n := by rw [nats_length]; exact hn
  have hI : IsInts w a ((nats L).map fun (x : Nat) => (x : Int)) := by rw [← nats_cast f2]; exact h
  have h15 := nats_le f2
  clear h hf f1 f2 f3 hn
  generalize nats L = N at *
  have HI := Lib.hid hI
  have H15 := Lib.hid h15
  clear hI h15
  obtain ⟨i0, hi, hz0, hz1, hz2⟩ := info_parts info_code
  go_enter Try.func67, Try.ntmps67
  go_wp2_with fail
  refine C1.out.mono ?_
  rintro r w1 ⟨rfl, b1⟩
  have B1 := Lib.hid b1
  have I1 := Lib.hid (HI.out.below b1 (Nat.le_refl _))
  clear b1 C1
  go_wp2_with fail
  refine (tally_any a n cap N w1 hN I1.out (by omega) H15.out).mono ?_
  rintro r w2 ⟨rfl, b2⟩
  have B2 := Lib.hid (B1.out.trans (b2.mono B1.out.size))
  clear b2 B1 I1
  go_wp2_with fail
  refine (firsts_any N w2 (by omega)).mono ?_
  rintro r w3 ⟨rfl, b3⟩
  have B3 := Lib.hid (B2.out.trans (b3.mono B2.out.size))
  clear b3 B2
  have HZ := Lib.hid (show At16 (w3.alloc (.cells (row16 fun _ => 0) 108)) w3.heap.size (fun _ => 0) from heap_alloc_new _ _)
  go_wp2_with (first | (refine wpl_store16 rfl (.tmp 6) (.tmp 20) rfl w3.heap.size (fst N) rfl rfl (fun _ => 0) ?_ ?_; exact HZ.out) | (at_make; refine wpList_make_full _ rfl _ _ 76 rfl w.heap.size 81 i0 (.agg #[.int .i64 0, .int .i64 0]) 2 Try.underlying76 hi hz0 hz1 .i64 .i64 _ _ n rfl rfl rfl rfl (by rw [hz2]; omega) (by unfold maxLen; omega) (by have := B3.out.size; simp; omega) ?_; intro w4 hown hgrow))
  have e3 : ((w3.alloc (.cells (row16 fun _ => 0) 108)).setRow w3.heap.size (row16 (fst N))).heap.size = w3.heap.size + 1 := by rw [setRow_size, World.size_alloc]
  have hA4 : At16 w4 w3.heap.size (fst N) := by
    have h1 := HZ.out.setRow (fst N)
    unfold At16 at h1 ⊢
    rw [hgrow.block _ (by show w3.heap.size < ((w3.alloc (.cells (row16 fun _ => 0) 108)).setRow w3.heap.size (row16 (fst N))).heap.size; rw [e3]; omega) (by simp)]
    exact h1
  have hB4 : Below w.heap.size w w4 := by
    have h1 : Below w.heap.size w ((w3.alloc (.cells (row16 fun _ => 0) 108)).setRow w3.heap.size (row16 (fst N))) := below_setRow (B3.out.alloc B3.out.size _) B3.out.size _
    exact h1.grown hgrow h1.size (fun k hk => by cases hk)
  have hO4 : w4.ownsRow w.heap.size 81 2 (.slice (some ⟨w3.heap.size + 1, 0, none⟩) n n) n (rowC n (fun _ => 0) (fun _ => 0)) := by
    rw [← madeC]
    have h1 := hown
    rw [show ((w3.alloc (.cells #[.int .i64 0, .int .i64 0, .int .i64 0, .int .i64 0, .int .i64 0, .int .i64 0, .int .i64 0, .int .i64 0, .int .i64 0, .int .i64 0, .int .i64 0, .int .i64 0, .int .i64 0, .int .i64 0, .int .i64 0, .int .i64 0] 108)).setRow w3.heap.size (row16 (fst N))).heap.size = w3.heap.size + 1 from e3] at h1
    exact h1
  have hX := B3.out.size
  clear hgrow hown HZ B3 e3
  generalize w3.heap.size = X at *
  have HN0 : Hid (nxt N 0 = fst N) := by
    show nxt N 0 = fst N
    funext l
    unfold nxt
    by_cases h : l = 0
    · rw [if_pos h, h]; rfl
    · rw [if_neg h]; simp
  have HA4 := Lib.hid hA4
  have HB4 := Lib.hid hB4
  have HO4 := Lib.hid hO4
  clear hA4 hB4 hO4
  go_loopw [26] (fun i wr => ∃ k : Nat, k ≤ n ∧ i = .int .i64 k ∧ At16 wr X (nxt N k) ∧ Below w.heap.size w wr ∧
    wr.ownsRow w.heap.size 81 2 (.slice (some ⟨X + 1, 0, none⟩) n n) n (rowC n (fun i => if i < k then codeV N i else 0) (fun i => if i < k then N.getD i 0 else 0))) (fun i _ => n - (intOf i).toNat)
  case atStart => exact ⟨0, Nat.zero_le _, rfl, by rw [HN0.out]; exact HA4.out, HB4.out, HO4.out⟩
  case round =>
    obtain ⟨k, hk, rfl, hat, hbel, hrow⟩ := hrel
    clear HA4 HB4 HO4 HN0
    by_cases hlt : k < n
    · obtain ⟨b, off, rfl, hb, hc⟩ := HI.out (by simp; omega)
      have hck := hc k (by simp; omega)
      rw [List.getElem_map] at hck
      have hx15 := H15.out N[k] (List.getElem_mem (by omega))
      have hcw : wr.cell? ⟨b, off + k, none⟩ = some (.int .i64 (N[k] : Nat)) := (hbel.cell hb).trans hck
      have hgd : N.getD k 0 = N[k] := by rw [List.getD_eq_getElem?_getD, List.getElem?_eq_getElem (by omega)]; rfl
      have htk : N.take (k + 1) = N.take k ++ [N[k]] := List.take_succ_eq_append_getElem (by omega)
      clear hck hc
      by_cases hx0 : N[k] = 0
      · have hF : (fun i => if i < k + 1 then codeV N i else 0) = fun i => if i < k then codeV N i else 0 := by
          funext i
          by_cases h : i = k
          · rw [if_pos (by omega), if_neg (by omega), h]; unfold codeV; rw [hgd, if_pos hx0]
          · by_cases h2 : i < k
            · rw [if_pos (by omega), if_pos h2]
            · rw [if_neg (by omega), if_neg h2]
        have hG : (fun i => if i < k + 1 then N.getD i 0 else 0) = fun i => if i < k then N.getD i 0 else 0 := by
          funext i
          by_cases h : i = k
          · rw [if_pos (by omega), if_neg (by omega), h, hgd, hx0]
          · by_cases h2 : i < k
            · rw [if_pos (by omega), if_pos h2]
            · rw [if_neg (by omega), if_neg h2]
        have hN' : nxt N (k + 1) = nxt N k := by
          funext l
          unfold nxt
          by_cases h : l = 0
          · rw [if_pos h, if_pos h]
          · rw [if_neg h, if_neg h, htk, List.count_append, List.count_singleton, hx0]
            simp [Ne.symm h]
        have H1 := Lib.hid hat
        have H2 := Lib.hid hbel
        have H3 := Lib.hid hrow
        have HF := Lib.hid hF
        have HG := Lib.hid hG
        have HN' := Lib.hid hN'
        rw [hx0] at hcw
        clear hat hbel hrow hF hG hN' hgd htk hx0 hx15
        go_wp2_with fail
        refine ⟨⟨k + 1, by omega, by go_num, by rw [HN'.out]; exact H1.out, H2.out, by rw [HF.out, HG.out]; exact H3.out⟩, ?_⟩
        simp [intOf]; omega
      · have hcv : codeV N k = nxt N k N[k] := by unfold codeV nxt; rw [hgd]
        have hs1 := hrow.stored (k * 2) (.int .i64 (codeV N k : Nat))
        have hs2 := hs1.1.stored (k * 2 + 1) (.int .i64 (N[k] : Nat))
        rw [rowC_set n _ _ (fun i => if i < k + 1 then codeV N i else 0) (fun i => if i < k + 1 then N.getD i 0 else 0) k (codeV N k) N[k] (by simp) (by rw [← hgd]; simp)
          (fun j _ hj => by
            by_cases h2 : j < k
            · rw [if_pos (by omega), if_pos h2]
            · rw [if_neg (by omega), if_neg h2])
          (fun j _ hj => by
            by_cases h2 : j < k
            · rw [if_pos (by omega), if_pos h2]
            · rw [if_neg (by omega), if_neg h2])] at hs2
        have hN' : nxt N (k + 1) = fun i => if i = N[k] then nxt N k N[k] + 1 else nxt N k i := by
          funext l
          unfold nxt
          by_cases h : l = 0
          · rw [if_pos h, if_neg (by omega), if_pos h]
          · rw [if_neg h, if_neg h, if_neg hx0, htk, List.count_append, List.count_singleton]
            by_cases e : l = N[k]
            · subst e; simp; omega
            · simp [e, Ne.symm e]
        have hsm : nxt N k N[k] ≤ 70000000000 := by
          unfold nxt
          rw [if_neg hx0]
          have h1 := fst_small N N[k] hx15 (by omega)
          have h2 : (N.take k).count N[k] ≤ 320 := Nat.le_trans List.count_le_length (by simp; omega)
          omega
        rw [hcv] at hs2
        have HN' := Lib.hid hN'
        obtain ⟨d1, d2⟩ := rowC_get n (fun i => if i < k then codeV N i else 0) (fun i => if i < k then N.getD i 0 else 0) k hlt
        have c1 := hrow.cellAt (k * 2) (by omega)
        have c2 := hrow.cellAt (k * 2 + 1) (by omega)
        rw [d1] at c1
        rw [d2] at c2
        have f1 := hrow.frozenAt (k * 2)
        have f2 := hrow.frozenAt (k * 2 + 1)
        have c3 := hat.cell N[k] (by omega)
        have f3 := hat.frozen N[k]
        have H1 := Lib.hid (((hat.other (c := X + 1) (j := k * 2) (v := .int .i64 (nxt N k N[k] : Nat)) (by omega)).other (c := X + 1) (j := k * 2 + 1) (v := .int .i64 (N[k] : Nat)) (by omega)).set N[k] (nxt N k N[k] + 1))
        have H2 := Lib.hid (((hbel.setCell (p := ⟨X + 1, k * 2, none⟩) (by show w.heap.size ≤ X + 1; omega) (.int .i64 (nxt N k N[k] : Nat))).setCell (p := ⟨X + 1, k * 2 + 1, none⟩) (by show w.heap.size ≤ X + 1; omega) (.int .i64 (N[k] : Nat))).setCell (p := ⟨X, N[k], none⟩) (by show w.heap.size ≤ X; omega) (.int .i64 ((nxt N k N[k] + 1 : Nat) : Int)))
        have H3 := Lib.hid (ownsRow_setCell_other hs2.1 (a := ⟨X, N[k], none⟩) (by simp [Value.ownBlock]) (.int .i64 ((nxt N k N[k] + 1 : Nat) : Int)))
        clear hat hbel hrow hcv hs1 hs2 d1 d2 hN' hgd htk
        generalize hx : N[k] = x at *
        have HX := Lib.hid hx
        clear hx
        obtain ⟨v, hv⟩ : ∃ v, nxt N k x = v := ⟨_, rfl⟩
        rw [hv] at HN' hsm c3 H1 H2 H3
        clear hv
        have hw1 : wrap64 ((v : Int) + 1) = (v : Int) + 1 := IntWalk.wrap64_in _ (by omega)
        have hx1 : 0 < x := by omega
        clear hsm
        go_wp2_with fail
        refine ⟨⟨k + 1, by omega, by go_num, by rw [HN'.out]; exact H1.out, H2.out, H3.out⟩, ?_⟩
        simp [intOf]; omega
    · obtain rfl : k = n := by omega
      have e1 : rowC k (fun i => if i < k then codeV N i else 0) (fun i => if i < k then N.getD i 0 else 0) = rowC k (codeV N) (fun i => N.getD i 0) := by
        unfold rowC
        apply List.map_congr_left
        intro j hj
        have : j < k * 2 := by simpa using hj
        have : j / 2 < k := by omega
        simp only [this, if_true]
      rw [e1] at hrow
      have H2 := Lib.hid hbel
      have H3 := Lib.hid hrow
      clear hat hbel hrow e1
      go_wp2_with fail
      go_ret2
      exact ⟨_, rfl, H2.out, H3.out⟩

end Go.Proofs.Ytikfenimgjeplaa.Huf
