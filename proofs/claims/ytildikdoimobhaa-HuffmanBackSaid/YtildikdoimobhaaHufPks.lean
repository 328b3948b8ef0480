/-
  Rows of packages with their symbols; contract of huffman.singles.
-/
import Derived.Test.YtildikdoimobhaaHufCat
namespace Go.Proofs.Ytildikdoimobhaa.Huf
open Go.ChangeShapes Go.WideShapes Go.ChangeAt Go.RowKit Go.Sort
set_option linter.unusedVariables false

/-- A package's symbols lie where it says. -/
def SymAt (w : World) (p : Pk) : Prop := p.g < w.heap.size ∧ ∀ j u, (cellsN p.t.syms)[j]? = some u → w.cell? ⟨p.g, 0 + j, none⟩ = some u
theorem SymAt.sees {w : World} {p : Pk} (h : SymAt w p) : Sees w 1 p.s p.t.syms.length (cellsN p.t.syms) :=
  ⟨by rw [cellsN_length, Nat.mul_one], cellsN_one _, .inr ⟨p.g, 0, p.cap, rfl, h.1, h.2⟩⟩
theorem SymAt.below {w w' : World} {p : Pk} {B : Nat} (h : SymAt w p) (k : Below B w w') (hB : w.heap.size ≤ B) : SymAt w' p :=
  ⟨Nat.lt_of_lt_of_le h.1 k.size, fun j u hj => (k.cell (p := ⟨p.g, 0 + j, none⟩) (show p.g < B from Nat.lt_of_lt_of_le h.1 hB)).trans (h.2 j u hj)⟩
theorem SymAt.grown {w w' : World} {p : Pk} {row : Option Nat} (h : SymAt w p) (k : w.grownBy w' row) (hne : row ≠ some p.g) : SymAt w' p :=
  ⟨Nat.lt_of_lt_of_le h.1 k.size, fun j u hj => (World.cell?_of_block (a := ⟨p.g, 0 + j, none⟩) (k.block p.g h.1 (fun e => hne e.symm))).trans (h.2 j u hj)⟩
theorem SymAt.alloc {w : World} {p : Pk} (h : SymAt w p) (o : Obj) : SymAt (w.alloc o) p := h.below ((Below.refl w.heap.size w).alloc (Nat.le_refl _) o) (Nat.le_refl _)

theorem syms_pos (t : Tr) : 0 < t.syms.length := by
  induction t with
  | leaf i => simp [Tr.syms]
  | node a b iha _ => simp [Tr.syms]; omega

theorem ownsRow_blockK {w w' : World} {base n size : Nat} {e : TypeId} {v : Value} {xs : List Value} (h : w.ownsRow base e size v n xs) (hk : ∀ j, v.ownBlock = some j → w'.heap[j]? = w.heap[j]?) : w'.ownsRow base e size v n xs := by
  refine ⟨h.1, ?_⟩
  rcases h.2 with h0 | ⟨g, cap, cur, rfl, h1, h2, h3⟩
  · exact .inl h0
  · exact .inr ⟨g, cap, cur, rfl, h1, by rw [hk g rfl]; exact h2, h3⟩

/-- Packages in a row of their own, made behind B. -/
structure Packs (f : Nat → Nat) (w : World) (B : Nat) (v : Value) (l : List Pk) : Prop where
  row : w.ownsRow 0 80 2 v l.length (l.flatMap (enc f))
  sym : ∀ p ∈ l, SymAt w p
  off : ∀ j, v.ownBlock = some j → B ≤ j
  apart : ∀ p ∈ l, v.ownBlock ≠ some p.g
theorem Packs.nil (f : Nat → Nat) (w : World) (B : Nat) : Packs f w B (.slice none 0 0) [] :=
  ⟨World.ownsRow_nil _ _ _ _, fun _ h => (by simp at h), fun _ h => (by cases h), fun _ h => (by simp at h)⟩

/-- One package more, by 'append'. -/
theorem Packs.more {f : Nat → Nat} {w w1 w2 : World} {B : Nat} {v v' : Value} {l : List Pk} {p : Pk} (h : Packs f w B v l) (k : Below w.heap.size w w1) (hB : B ≤ w.heap.size) (hp : SymAt w1 p) (hg : w.heap.size ≤ p.g)
    (ho : w2.ownsRow 0 80 2 v' (l.length + 1) (l.flatMap (enc f) ++ enc f p)) (hg2 : w1.grownBy w2 v.ownBlock) (hn : Bit.Near w1 v v') : Packs f w2 B v' (l ++ [p]) := by
  have hlt := h.row.lt
  have hne : ∀ q, q ∈ l ++ [p] → SymAt w1 q ∧ v.ownBlock ≠ some q.g := by
    intro q hq
    rcases List.mem_append.1 hq with hq | hq
    · exact ⟨(h.sym q hq).below k (Nat.le_refl _), h.apart q hq⟩
    · rw [List.mem_singleton.1 hq]
      exact ⟨hp, fun e => by have := (hlt _ e).2; omega⟩
  refine ⟨?_, fun q hq => (hne q hq).1.grown hg2 (hne q hq).2, fun j hj => ?_, fun q hq e => ?_⟩
  · rw [List.length_append, List.flatMap_append]
    simpa using ho
  · rcases hn j hj with e | e
    · exact h.off j e
    · have := k.size; omega
  · rcases hn _ e with e | e
    · exact (hne q hq).2 e
    · have := (hne q hq).1.1; omega
theorem Packs.below {f : Nat → Nat} {w w' : World} {B : Nat} {v : Value} {l : List Pk} (h : Packs f w B v l) (k : Below w.heap.size w w') : Packs f w' B v l :=
  ⟨ownsRow_blockK h.row fun j hj => k.block j (h.row.lt j hj).2, fun p hp => (h.sym p hp).below k (Nat.le_refl _), h.off, h.apart⟩

/-- The symbols that come, among the first k. -/
def comeS (N : List Nat) (k : Nat) : List Nat := (List.range k).filter fun i => decide (0 < N.getD i 0)
theorem comeS_succ (N : List Nat) (k : Nat) : comeS N (k + 1) = if 0 < N.getD k 0 then comeS N k ++ [k] else comeS N k := by
  unfold comeS
  rw [List.range_succ, List.filter_append]
  by_cases h : 0 < N.getD k 0
  · rw [if_pos h]; simp only [List.filter_cons, List.filter_nil]; rw [if_pos (by simpa using h)]
  · rw [if_neg h]; simp only [List.filter_cons, List.filter_nil]; rw [if_neg (by simpa using h)]; simp
theorem comeS_length (N : List Nat) (k : Nat) : (comeS N k).length ≤ k := Nat.le_trans (List.length_filter_le _ _) (by simp)

set_option maxRecDepth 10000 in
set_option maxHeartbeats 2000000 in
theorem singles_any (a : Option Addr) (n cap : Nat) (N : List Nat) (w : World) (hn : N.length = n) (h : IsInts w a (N.map fun (x : Nat) => (x : Int))) (hl : n ≤ 1000000) (h15 : ∀ x ∈ N, x ≤ 1073741824) :
    Calls Try.prog 40 #[.slice a n cap] w fun e w' => ∃ v l, e = .returned v ∧ Packs (fun i => N.getD i 0) w' w.heap.size v l ∧ l.map (·.t) = (comeS N n).map Tr.leaf ∧ Below w.heap.size w w' := by
  obtain ⟨i0, hi, hz0, hz1, hz2⟩ := info_parts infoP
  have HI := Lib.hid h
  have H15 := Lib.hid h15
  clear h h15
  go_enter Try.func40, Try.ntmps40
  go_wp2_with fail
  go_loopw [3, 8] (fun v i wr => ∃ (k : Nat) (l : List Pk), k ≤ n ∧ i = .int .i64 k ∧ Packs (fun i => N.getD i 0) wr w.heap.size v l ∧ l.map (·.t) = (comeS N k).map Tr.leaf ∧ Below w.heap.size w wr) (fun _ i _ => n - (intOf i).toNat)
  case atStart => exact ⟨0, [], Nat.zero_le _, rfl, Packs.nil _ _ _, rfl, Below.refl _ _⟩
  case round =>
    obtain ⟨k, l, hk, rfl, hp, ht, hb⟩ := hrel
    have HP := Lib.hid hp
    have HT := Lib.hid ht
    have HB := Lib.hid hb
    clear hp ht hb
    by_cases hlt : k < n
    · obtain ⟨b, off, rfl, hbl, hc⟩ := HI.out (by simp; omega)
      have hc1 : wr.cell? ⟨b, off + k, none⟩ = some (.int .i64 (N.getD k 0 : Nat)) := by
        rw [HB.out.cell (p := ⟨b, off + k, none⟩) hbl, hc k (by simp; omega)]
        simp [List.getElem_map, List.getD_eq_getElem?_getD, hn, hlt]
      have hx : N.getD k 0 ≤ 1073741824 := by
        refine H15.out _ ?_
        rw [List.getD_eq_getElem?_getD, List.getElem?_eq_getElem (by omega)]
        exact List.getElem_mem _
      have HS := Lib.hid (comeS_succ N k)
      have HX : Hid (N.getD k 0 = (Tr.leaf k).wt fun i => N.getD i 0) := Lib.hid rfl
      have HL : Hid (l.length ≤ k) := Lib.hid (by
        have := congrArg List.length HT.out
        simp only [List.length_map] at this
        rw [this]; exact comeS_length _ _)
      clear hc
      generalize hxe : N.getD k 0 = x at *
      have HXE := Lib.hid hxe
      clear hxe
      have hkk : (k : Int) < n := by omega
      by_cases hx0 : 0 < x
      · have hx0' : (0 : Int) < x := by omega
        have HX0 := Lib.hid hx0
        clear hx0 hlt
        have HR : Hid (((wr.alloc (.cells #[.int .i64 k] 3)).alloc (.cells #[.int .i64 x, .slice (some ⟨wr.heap.size, 0, none⟩) 1 1] 80)).ownsRow 0 80 2 u3 l.length (l.flatMap (enc fun i => N.getD i 0))) := Lib.hid ((HP.out.row.alloc _).alloc _)
        have HQ : Hid (∀ j u, ([.int .i64 x, .slice (some ⟨wr.heap.size, 0, none⟩) 1 1] : List Value)[j]? = some u → ((wr.alloc (.cells #[.int .i64 k] 3)).alloc (.cells #[.int .i64 x, .slice (some ⟨wr.heap.size, 0, none⟩) 1 1] 80)).cell? ((⟨wr.heap.size + 1, 0, none⟩ : Addr).add j) = some u) := Lib.hid (by
          intro j u hj
          rw [Oct.addr_add]
          have hb := heap_alloc_new (wr.alloc (.cells #[.int .i64 k] 3)) (.cells #[.int .i64 x, .slice (some ⟨wr.heap.size, 0, none⟩) 1 1] 80)
          rw [World.size_alloc] at hb
          match j, hj with
          | 0, hj => exact (cell_of_row _ _ 0 _ _ _ hb).trans hj
          | 1, hj => exact (cell_of_row _ _ 1 _ _ _ hb).trans hj
          | j + 2, hj => simp at hj)
        clear hx0'
        go_wp2_with (at_builtin; refine Bit.wpList_append_near _ rfl (.tmp 15) (.tmp 20) 76 rfl 80 i0 (.agg #[.int .i64 0, .slice none 0 0]) 2 32 Try.underlying76 hi hz0 hz1 hz2 rfl (by decide) u3 l.length (l.flatMap (enc fun i => N.getD i 0)) rfl HR.out ⟨wr.heap.size + 1, 0, none⟩ 1 1 [.int .i64 x, .slice (some ⟨wr.heap.size, 0, none⟩) 1 1] rfl rfl HQ.out (by intro u hu; simp at hu; rcases hu with rfl | rfl <;> rfl) (by have := HL.out; unfold maxLen; omega) (by have := HL.out; omega) ?_; intro v3 w3 o3 g3 n3)
        have hb2 : Below wr.heap.size wr ((wr.alloc (.cells #[.int .i64 k] 3)).alloc (.cells #[.int .i64 x, .slice (some ⟨wr.heap.size, 0, none⟩) 1 1] 80)) := ((Below.refl _ _).alloc (Nat.le_refl _) _).alloc (by simp) _
        have hsy : SymAt ((wr.alloc (.cells #[.int .i64 k] 3)).alloc (.cells #[.int .i64 x, .slice (some ⟨wr.heap.size, 0, none⟩) 1 1] 80)) ⟨.leaf k, wr.heap.size, 1⟩ := by
          refine SymAt.alloc ⟨by simp, fun j u hj => ?_⟩ _
          match j, hj with
          | 0, hj => exact (cell_of_row _ _ 0 _ _ _ (heap_alloc_new _ _)).trans hj
          | j + 1, hj => simp [cellsN, Tr.syms] at hj
        have he : ([.int .i64 x, .slice (some ⟨wr.heap.size, 0, none⟩) 1 1] : List Value) = enc (fun i => N.getD i 0) ⟨.leaf k, wr.heap.size, 1⟩ := by
          show _ = [Value.int .i64 ((Tr.leaf k).wt (fun i => N.getD i 0) : Nat), _]
          rw [← HX.out]; rfl
        have HM := Lib.hid (HP.out.more hb2 HB.out.size hsy (Nat.le_refl _) (by rw [← he]; exact o3) g3 n3)
        have HB3 := Lib.hid ((HB.out.trans (hb2.mono HB.out.size)).grown g3 (by have := hb2.size; have := HB.out.size; omega) HP.out.off)
        have HT3 : Hid ((l ++ [⟨.leaf k, wr.heap.size, 1⟩] : List Pk).map (·.t) = (comeS N (k + 1)).map Tr.leaf) := Lib.hid (by
          rw [HS.out, if_pos HX0.out, List.map_append, List.map_append, HT.out]; rfl)
        clear hb2 hsy he o3 g3 n3 HR HQ HX0 HX hc1
        go_wp2_with fail
        refine ⟨⟨k + 1, _, by omega, by go_num, HM.out, HT3.out, HB3.out⟩, ?_⟩
        simp [intOf]; omega
      · obtain rfl : x = 0 := by omega
        have HT3 : Hid (l.map (·.t) = (comeS N (k + 1)).map Tr.leaf) := Lib.hid (by
          rw [HS.out, if_neg (by decide), HT.out])
        clear HX
        go_wp2_with fail
        refine ⟨⟨k + 1, l, by omega, by go_num, HP.out, HT3.out, HB.out⟩, ?_⟩
        simp [intOf]; omega
    · obtain rfl : k = n := by omega
      go_wp2_with fail
      go_ret
      exact ⟨_, l, rfl, HP.out, HT.out, HB.out⟩

end Go.Proofs.Ytildikdoimobhaa.Huf
