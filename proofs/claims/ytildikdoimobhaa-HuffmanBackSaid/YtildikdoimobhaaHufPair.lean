/-
  Contract of huffman.pairs.
-/
import Derived.Test.YtildikdoimobhaaHufPks
import Derived.BigRegion
namespace Go.Proofs.Ytildikdoimobhaa.Huf
open Go.ChangeShapes Go.WideShapes Go.ChangeAt Go.RowKit Go.Sort
set_option linter.unusedVariables false

/-- Packages that are read. -/
def RowAt (f : Nat → Nat) (w : World) (b : Nat) (d : List Pk) : Prop :=
  b < w.heap.size ∧ ∀ i p, d[i]? = some p → w.cell? ⟨b, i * 2, none⟩ = some (.int .i64 (p.t.wt f : Nat)) ∧ w.cell? ⟨b, i * 2 + 1, none⟩ = some p.s

theorem pairs_take_succ : ∀ (T : List Tr) (k : Nat) (a b : Tr), T[2 * k]? = some a → T[2 * k + 1]? = some b → pairs (T.take (2 * (k + 1))) = pairs (T.take (2 * k)) ++ [.node a b]
  | [], k, a, b, h, _ => by simp at h
  | [x], k, a, b, _, h => by simp at h
  | x :: y :: r, 0, a, b, h1, h2 => by
    simp at h1 h2
    subst h1; subst h2
    rfl
  | x :: y :: r, k + 1, a, b, h1, h2 => by
    rw [show 2 * (k + 1) = 2 * k + 1 + 1 by omega] at h1 h2
    rw [show 2 * k + 1 + 1 + 1 = (2 * k + 1) + 1 + 1 by omega] at h2
    simp only [List.getElem?_cons_succ] at h1 h2
    have := pairs_take_succ r k a b h1 h2
    rw [show 2 * (k + 1 + 1) = 2 * (k + 1) + 1 + 1 by omega, show 2 * (k + 1) = 2 * k + 1 + 1 by omega]
    simp only [List.take_succ_cons, pairs, List.cons_append]
    rw [show 2 * k + 1 + 1 = 2 * (k + 1) by omega, this]

theorem pairs_cut : ∀ (T : List Tr) (k : Nat), T.length / 2 = k → pairs (T.take (2 * k)) = pairs T
  | [], k, h => by simp
  | [x], k, h => by
    obtain rfl : k = 0 := by simp at h; omega
    rfl
  | x :: y :: r, k, h => by
    obtain ⟨j, rfl⟩ : ∃ j, k = j + 1 := ⟨k - 1, by simp at h; omega⟩
    have := pairs_cut r j (by simp at h; omega)
    rw [show 2 * (j + 1) = 2 * j + 1 + 1 by omega]
    simp only [List.take_succ_cons, pairs, this]

/-- Two new blocks of two cells each. -/
structure Duo (w W : World) (A B : Nat) (a0 a1 b0 b1 : Value) : Prop where
  below : Below w.heap.size w W
  la : w.heap.size ≤ A ∧ A < W.heap.size
  lb : w.heap.size ≤ B ∧ B < W.heap.size
  c : W.cell? ⟨A, 0, none⟩ = some a0 ∧ W.cell? ⟨A, 1, none⟩ = some a1 ∧ W.cell? ⟨B, 0, none⟩ = some b0 ∧ W.cell? ⟨B, 1, none⟩ = some b1
theorem duo_one (w : World) (T : TypeId) (a0 a1 b0 b1 : Value) : Duo w ((w.alloc (.cells #[a0, a1] T)).alloc (.cells #[b0, b1] T)).drew w.heap.size (w.heap.size + 1) a0 a1 b0 b1 := by
  have h1 : (((w.alloc (.cells #[a0, a1] T)).alloc (.cells #[b0, b1] T)).drew).heap[w.heap.size]? = some (.cells #[a0, a1] T (0, 0)) := heap_alloc2_old w _ _
  have h2 : (((w.alloc (.cells #[a0, a1] T)).alloc (.cells #[b0, b1] T)).drew).heap[w.heap.size + 1]? = some (.cells #[b0, b1] T (0, 0)) := by
    have := heap_alloc_new (w.alloc (.cells #[a0, a1] T)) (.cells #[b0, b1] T)
    rw [World.size_alloc] at this; exact this
  exact ⟨(((Below.refl _ _).alloc (Nat.le_refl _) _).alloc (by simp) _).drew, ⟨Nat.le_refl _, (Array.getElem?_eq_some_iff.1 h1).1⟩, ⟨Nat.le_succ _, (Array.getElem?_eq_some_iff.1 h2).1⟩,
    (cell_of_row _ _ 0 _ _ _ h1).trans rfl, (cell_of_row _ _ 1 _ _ _ h1).trans rfl, (cell_of_row _ _ 0 _ _ _ h2).trans rfl, (cell_of_row _ _ 1 _ _ _ h2).trans rfl⟩
theorem duo_two (w : World) (T : TypeId) (a0 a1 b0 b1 : Value) : Duo w ((w.alloc (.cells #[b0, b1] T)).alloc (.cells #[a0, a1] T)).drew (w.heap.size + 1) w.heap.size a0 a1 b0 b1 := by
  have h := duo_one w T b0 b1 a0 a1
  exact ⟨h.below, h.lb, h.la, h.c.2.2.1, h.c.2.2.2, h.c.1, h.c.2.1⟩
theorem Duo.far {w W W1 W2 : World} {A B : Nat} {a0 a1 b0 b1 : Value} {row : Option Nat} (h : Duo w W A B a0 a1 b0 b1) (k : Below W.heap.size W W1) (g : W1.grownBy W2 row) (hr : ∀ j, row = some j → j < w.heap.size) :
    W2.cell? ⟨A, 0, none⟩ = some a0 ∧ W2.cell? ⟨A, 1, none⟩ = some a1 ∧ W2.cell? ⟨B, 0, none⟩ = some b0 ∧ W2.cell? ⟨B, 1, none⟩ = some b1 := by
  have hA : ∀ j, W2.cell? ⟨A, j, none⟩ = W.cell? ⟨A, j, none⟩ := fun j =>
    (World.cell?_of_block (a := ⟨A, j, none⟩) (g.block A (Nat.lt_of_lt_of_le h.la.2 k.size) (fun e => by have := hr A e.symm; have := h.la.1; omega))).trans (k.cell (p := ⟨A, j, none⟩) h.la.2)
  have hB : ∀ j, W2.cell? ⟨B, j, none⟩ = W.cell? ⟨B, j, none⟩ := fun j =>
    (World.cell?_of_block (a := ⟨B, j, none⟩) (g.block B (Nat.lt_of_lt_of_le h.lb.2 k.size) (fun e => by have := hr B e.symm; have := h.lb.1; omega))).trans (k.cell (p := ⟨B, j, none⟩) h.lb.2)
  exact ⟨(hA 0).trans h.c.1, (hA 1).trans h.c.2.1, (hB 0).trans h.c.2.2.1, (hB 1).trans h.c.2.2.2⟩
/-- The literal of one package. -/
theorem lit_pack (w : World) (x y : Value) (T : TypeId) : ∀ j u, ([x, y] : List Value)[j]? = some u → (w.alloc (.cells #[x, y] T)).cell? ((⟨w.heap.size, 0, none⟩ : Addr).add j) = some u := by
  intro j u hj
  rw [Oct.addr_add]
  match j, hj with
  | 0, hj => exact (cell_of_row _ _ 0 _ _ _ (heap_alloc_new _ _)).trans hj
  | 1, hj => exact (cell_of_row _ _ 1 _ _ _ (heap_alloc_new _ _)).trans hj
  | j + 2, hj => simp at hj
theorem Duo.keep {w W W' : World} {A B : Nat} {a0 a1 b0 b1 : Value} (h : Duo w W A B a0 a1 b0 b1) (k : Below W.heap.size W W') :
    W'.cell? ⟨A, 0, none⟩ = some a0 ∧ W'.cell? ⟨A, 1, none⟩ = some a1 ∧ W'.cell? ⟨B, 0, none⟩ = some b0 ∧ W'.cell? ⟨B, 1, none⟩ = some b1 :=
  ⟨(k.cell (p := ⟨A, 0, none⟩) h.la.2).trans h.c.1, (k.cell (p := ⟨A, 1, none⟩) h.la.2).trans h.c.2.1, (k.cell (p := ⟨B, 0, none⟩) h.lb.2).trans h.c.2.2.1, (k.cell (p := ⟨B, 1, none⟩) h.lb.2).trans h.c.2.2.2⟩

set_option maxRecDepth 10000 in
set_option maxHeartbeats 2000000 in
theorem pairs_call (f : Nat → Nat) (b n cap : Nat) (d : List Pk) (w : World) (hd : d.length = n) (hn : n ≤ 1000000) (hr : RowAt f w b d) (hs : ∀ p ∈ d, SymAt w p)
    (hz : ∀ p ∈ d, p.t.syms.length ≤ 500000 ∧ p.t.wt f ≤ 1000000000000000000) :
    Calls Try.prog 51 #[.slice (some ⟨b, 0, none⟩) n cap] w fun e w' => ∃ v l, e = .returned v ∧ Packs f w' w.heap.size v l ∧ l.map (·.t) = pairs (d.map (·.t)) ∧ Below w.heap.size w w' ∧ ∀ p ∈ l, w.heap.size ≤ p.g := by
  obtain ⟨i0, hi, hz0, hz1, hz2⟩ := info_parts infoP
  obtain ⟨m, hm⟩ : ∃ m, n / 2 = m := ⟨_, rfl⟩
  have hq : (n : Int) / 2 = m := by omega
  have HRW := Lib.hid hr
  have HSY := Lib.hid hs
  have HZZ := Lib.hid hz
  clear hr hs hz
  go_enter Try.func51, Try.ntmps51
  go_wp2_with fail
  go_loopw [3, 10] (fun v i wr => ∃ (k : Nat) (l : List Pk), k ≤ m ∧ i = .int .i64 k ∧ Packs f wr w.heap.size v l ∧ l.map (·.t) = pairs ((d.map (·.t)).take (2 * k)) ∧ Below w.heap.size w wr ∧ ∀ p ∈ l, w.heap.size ≤ p.g) (fun _ i _ => m - (intOf i).toNat)
  case atStart => exact ⟨0, [], Nat.zero_le _, rfl, Packs.nil _ _ _, rfl, Below.refl _ _, fun _ h => by simp at h⟩
  case round =>
    obtain ⟨k, l, hk, rfl, hp, ht, hb, hge⟩ := hrel
    have HGE := Lib.hid hge
    clear hge
    have HP := Lib.hid hp
    have HT := Lib.hid ht
    have HB := Lib.hid hb
    clear hp ht hb
    by_cases hlt : k < m
    · obtain ⟨K2, hK2⟩ : ∃ K, 2 * k = K := ⟨_, rfl⟩
      have hw1 : IntKind.i64.wrap (2 * (k : Int)) = K2 := by rw [IntWalk.i64_in _ (by omega)]; omega
      have hw2 : IntKind.i64.wrap ((K2 : Int) + 1) = (K2 : Int) + 1 := IntWalk.i64_in _ (by omega)
      have hb1 : (K2 : Int) < n := by omega
      have hb2 : (K2 : Int) + 1 < n := by omega
      obtain ⟨p, hp⟩ : ∃ p, d[K2]? = some p := ⟨d[K2]'(by omega), List.getElem?_eq_getElem _⟩
      obtain ⟨q, hq2⟩ : ∃ q, d[K2 + 1]? = some q := ⟨d[K2 + 1]'(by omega), List.getElem?_eq_getElem _⟩
      obtain ⟨cp0, cp1⟩ := HRW.out.2 K2 p hp
      obtain ⟨cq0, cq1⟩ := HRW.out.2 (K2 + 1) q hq2
      have SP := Lib.hid ((HSY.out p (List.mem_of_getElem? hp)).below HB.out (Nat.le_refl _))
      have SQ := Lib.hid ((HSY.out q (List.mem_of_getElem? hq2)).below HB.out (Nat.le_refl _))
      have ZP := Lib.hid (HZZ.out p (List.mem_of_getElem? hp))
      have ZQ := Lib.hid (HZZ.out q (List.mem_of_getElem? hq2))
      have hTP : Hid (pairs ((d.map (·.t)).take (2 * (k + 1))) = pairs ((d.map (·.t)).take (2 * k)) ++ [.node p.t q.t]) := Lib.hid (pairs_take_succ _ k _ _ (by rw [List.getElem?_map, hK2, hp]; rfl) (by rw [List.getElem?_map, hK2, hq2]; rfl))
      have hbl := HRW.out.1
      have e0 := (HB.out.cell (p := ⟨b, K2 * 2, none⟩) hbl).trans cp0
      have e1 := (HB.out.cell (p := ⟨b, K2 * 2 + 1, none⟩) hbl).trans cp1
      have e2 := (HB.out.cell (p := ⟨b, (K2 + 1) * 2, none⟩) hbl).trans cq0
      have e3 := (HB.out.cell (p := ⟨b, (K2 + 1) * 2 + 1, none⟩) hbl).trans cq1
      obtain ⟨m1, g1, p1, hv1⟩ : ∃ m g c, p.s = .slice (some ⟨g, 0, none⟩) m c := ⟨_, _, _, rfl⟩
      obtain ⟨m2, g2, p2, hv2⟩ : ∃ m g c, q.s = .slice (some ⟨g, 0, none⟩) m c := ⟨_, _, _, rfl⟩
      obtain ⟨c1, hc1⟩ : ∃ c, p.t.wt f = c := ⟨_, rfl⟩
      obtain ⟨c2, hc2⟩ : ∃ c, q.t.wt f = c := ⟨_, rfl⟩
      rw [hc1] at e0
      rw [hc2] at e2
      rw [hv1] at e1
      rw [hv2] at e3
      have hbw : b < wr.heap.size := Nat.lt_of_lt_of_le hbl HB.out.size
      have hb3 : (0 : Int) ≤ (K2 : Int) + 1 := by omega
      have hA1 := fun o => (Below.refl wr.heap.size wr).alloc (Nat.le_refl _) o
      have hA2 := fun o o' => (hA1 o).alloc (hA1 o).size o'
      have a0 := ((hA1 (.cells #[.int .i64 0, .slice none 0 0] 80)).cell (p := ⟨b, K2 * 2, none⟩) hbw).trans e0
      have a1 := ((hA1 (.cells #[.int .i64 0, .slice none 0 0] 80)).cell (p := ⟨b, K2 * 2 + 1, none⟩) hbw).trans e1
      have a2 := ((hA1 (.cells #[.int .i64 0, .slice none 0 0] 80)).cell (p := ⟨b, (K2 + 1) * 2, none⟩) hbw).trans e2
      have a3 := ((hA1 (.cells #[.int .i64 0, .slice none 0 0] 80)).cell (p := ⟨b, (K2 + 1) * 2 + 1, none⟩) hbw).trans e3
      have b0 := ((hA2 (.cells #[.int .i64 0, .slice none 0 0] 80) (.cells #[.int .i64 0, .slice none 0 0] 80)).cell (p := ⟨b, K2 * 2, none⟩) hbw).trans e0
      have b1 := ((hA2 (.cells #[.int .i64 0, .slice none 0 0] 80) (.cells #[.int .i64 0, .slice none 0 0] 80)).cell (p := ⟨b, K2 * 2 + 1, none⟩) hbw).trans e1
      have b2 := ((hA2 (.cells #[.int .i64 0, .slice none 0 0] 80) (.cells #[.int .i64 0, .slice none 0 0] 80)).cell (p := ⟨b, (K2 + 1) * 2, none⟩) hbw).trans e2
      have b3 := ((hA2 (.cells #[.int .i64 0, .slice none 0 0] 80) (.cells #[.int .i64 0, .slice none 0 0] 80)).cell (p := ⟨b, (K2 + 1) * 2 + 1, none⟩) hbw).trans e3
      clear hA1 hA2
      have V1 := Lib.hid hv1
      have V2 := Lib.hid hv2
      have C1 := Lib.hid hc1
      have C2 := Lib.hid hc2
      have HK := Lib.hid hK2
      clear cp0 cp1 cq0 cq1 hp hq2 hv1 hv2 hc1 hc2 hK2
      go_wp2_with fail
      go_region
      have D := Lib.hid (duo_one wr 80 (.int .i64 c1) (.slice (some ⟨g1, 0, none⟩) m1 p1) (.int .i64 c2) (.slice (some ⟨g2, 0, none⟩) m2 p2))
      generalize ((wr.alloc (.cells #[.int .i64 c1, .slice (some ⟨g1, 0, none⟩) m1 p1] 80)).alloc (.cells #[.int .i64 c2, .slice (some ⟨g2, 0, none⟩) m2 p2] 80)).drew = W at D ⊢
      generalize wr.heap.size + 1 = Bq at D ⊢
      generalize hAe : wr.heap.size = A at D ⊢
      clear hAe
      rotate_left
      have D := Lib.hid (duo_two wr 80 (.int .i64 c1) (.slice (some ⟨g1, 0, none⟩) m1 p1) (.int .i64 c2) (.slice (some ⟨g2, 0, none⟩) m2 p2))
      generalize ((wr.alloc (.cells #[.int .i64 c2, .slice (some ⟨g2, 0, none⟩) m2 p2] 80)).alloc (.cells #[.int .i64 c1, .slice (some ⟨g1, 0, none⟩) m1 p1] 80)).drew = W at D ⊢
      generalize wr.heap.size + 1 = A at D ⊢
      generalize hAe : wr.heap.size = Bq at D ⊢
      clear hAe
      all_goals clear e0 e1 e2 e3 a0 a1 a2 a3 b0 b1 b2 b3 hb1 hb2 hb3 hw1 hw2
      all_goals
        have hw3 : IntKind.i64.wrap ((c1 : Int) + c2) = (c1 : Int) + c2 := IntWalk.i64_in _ (by have := ZP.out.2; have := ZQ.out.2; rw [C1.out] at *; rw [C2.out] at *; omega)
        have S1 := Lib.hid (SP.out.below D.out.below (Nat.le_refl _))
        have S2 := Lib.hid (SQ.out.below D.out.below (Nat.le_refl _))
        have P2 := Lib.hid (HP.out.below D.out.below)
        have k0 := D.out.c
        go_wp2_with fail
        have L1 : p.t.syms.length = m1 := by have := V1.out; simp only [Pk.s, Value.slice.injEq] at this; exact this.2.1
        have L2 : q.t.syms.length = m2 := by have := V2.out; simp only [Pk.s, Value.slice.injEq] at this; exact this.2.1
        have hm1 : m1 ≤ 500000 ∧ 0 < m1 := by rw [← L1]; exact ⟨ZP.out.1, syms_pos _⟩
        have hm2 : m2 ≤ 500000 ∧ 0 < m2 := by rw [← L2]; exact ⟨ZQ.out.1, syms_pos _⟩
        have bA : Hid (Below W.heap.size W (W.drew.alloc (.cells #[.slice (some ⟨g1, 0, none⟩) m1 p1, .slice (some ⟨g2, 0, none⟩) m2 p2] 22))) := Lib.hid ((Below.refl _ _).drew.alloc (Nat.le_refl _) _)
        have SA : Hid (Sees (W.drew.alloc (.cells #[.slice (some ⟨g1, 0, none⟩) m1 p1, .slice (some ⟨g2, 0, none⟩) m2 p2] 22)) 1 (.slice (some ⟨g1, 0, none⟩) m1 p1) m1 (cellsN p.t.syms)) := Lib.hid (by
          have h := (S1.out.below bA.out (Nat.le_refl _)).sees
          rw [V1.out, L1] at h; exact h)
        have SB : Hid (Sees (W.drew.alloc (.cells #[.slice (some ⟨g1, 0, none⟩) m1 p1, .slice (some ⟨g2, 0, none⟩) m2 p2] 22)) 1 (.slice (some ⟨g2, 0, none⟩) m2 p2) m2 (cellsN q.t.syms)) := Lib.hid (by
          have h := (S2.out.below bA.out (Nat.le_refl _)).sees
          rw [V2.out, L2] at h; exact h)
        have kA := D.out.keep bA.out
        have nA := heap_alloc_new W.drew (.cells #[.slice (some ⟨g1, 0, none⟩) m1 p1, .slice (some ⟨g2, 0, none⟩) m2 p2] 22)
        have KA : Hid (_ ∧ _) := Lib.hid ⟨(cell_of_row _ _ 0 _ _ _ nA).trans rfl, (cell_of_row _ _ 1 _ _ _ nA).trans rfl⟩
        clear nA
        have HL : Hid (l.length ≤ 1000000) := Lib.hid (by
          have := congrArg List.length HT.out
          rw [List.length_map, pairs_length, List.length_take, List.length_map] at this
          omega)
        have HU : Hid (∀ j, u3.ownBlock = some j → j < wr.heap.size) := Lib.hid (fun j hj => (HP.out.row.lt j hj).2)
        go_region_held3 (fun W' => W'.cell? ⟨A, 0, none⟩ = some (.int .i64 c1) ∧ W'.cell? ⟨A, 1, none⟩ = some (.slice (some ⟨g1, 0, none⟩) m1 p1) ∧ W'.cell? ⟨Bq, 0, none⟩ = some (.int .i64 c2) ∧ W'.cell? ⟨Bq, 1, none⟩ = some (.slice (some ⟨g2, 0, none⟩) m2 p2)) (first | exact k0 | exact kA | exact hk2 | exact kB | exact hk3)
          (first
            | (go_at_call 55; refine (concatI_any (.slice (some ⟨g1, 0, none⟩) m1 p1) (.slice (some ⟨g2, 0, none⟩) m2 p2) m1 m2 (cellsN p.t.syms) (cellsN q.t.syms) W.heap.size (W.drew.alloc (.cells #[.slice (some ⟨g1, 0, none⟩) m1 p1, .slice (some ⟨g2, 0, none⟩) m2 p2] 22)) SA.out SB.out KA.out.1 KA.out.2 (by simp) hm1.1 hm2.1).mono ?_; rintro r w2 ⟨v, rfl, ho, hb, hv⟩; obtain ⟨gN, cN, rfl⟩ := own_form ho (by omega); have B2 := Lib.hid (bA.out.trans (hb.mono bA.out.size)); have HO := Lib.hid ho; have HV := Lib.hid hv; clear ho hb hv; have hk2 := D.out.keep B2.out; have HR := Lib.hid (P2.out.below (B2.out.alloc B2.out.size (.cells #[.int .i64 ((c1 : Int) + c2), .slice (some ⟨gN, 0, none⟩) (m1 + m2) cN] 80))).row; have HQ := Lib.hid (lit_pack w2 (.int .i64 ((c1 : Int) + c2)) (.slice (some ⟨gN, 0, none⟩) (m1 + m2) cN) 80); have HK3 : Hid (∀ w3, (w2.alloc (.cells #[.int .i64 ((c1 : Int) + c2), .slice (some ⟨gN, 0, none⟩) (m1 + m2) cN] 80)).grownBy w3 u3.ownBlock → _) := Lib.hid (fun w3 g => D.out.far (B2.out.alloc B2.out.size (.cells #[.int .i64 ((c1 : Int) + c2), .slice (some ⟨gN, 0, none⟩) (m1 + m2) cN] 80)) g HU.out); have kB := D.out.keep (B2.out.alloc B2.out.size (.cells #[.int .i64 ((c1 : Int) + c2), .slice (some ⟨gN, 0, none⟩) (m1 + m2) cN] 80)))
            | (refine step_append_near rfl (.tmp 24) (.tmp 37) 76 rfl 80 i0 (.agg #[.int .i64 0, .slice none 0 0]) 2 32 Try.underlying76 hi hz0 hz1 hz2 rfl (by decide) u3 l.length (l.flatMap (enc f)) rfl HR.out ⟨w2.heap.size, 0, none⟩ 1 1 [.int .i64 ((c1 : Int) + c2), .slice (some ⟨gN, 0, none⟩) (m1 + m2) cN] rfl rfl HQ.out (by intro u hu; simp at hu; rcases hu with rfl | rfl <;> rfl) (by have := HL.out; unfold maxLen; omega) (by have := HL.out; omega) ?_; intro v3 w3 o3 g3 n3; have hk3 := HK3.out w3 g3))
        have bw := B2.out.alloc B2.out.size (.cells #[.int .i64 ((c1 : Int) + c2), .slice (some ⟨gN, 0, none⟩) (m1 + m2) cN] 80)
        have hsy : SymAt (w2.alloc (.cells #[.int .i64 ((c1 : Int) + c2), .slice (some ⟨gN, 0, none⟩) (m1 + m2) cN] 80)) ⟨.node p.t q.t, gN, cN⟩ := by
          refine SymAt.alloc ⟨(HO.out.lt gN rfl).2, fun j u hj => ?_⟩ _
          have h := HO.out.cells (g := gN) rfl j u (by rw [← cellsN_append]; exact hj)
          rw [Go.WideShapes.add_plain] at h; exact h
        have he : ([.int .i64 ((c1 : Int) + c2), .slice (some ⟨gN, 0, none⟩) (m1 + m2) cN] : List Value) = enc f ⟨.node p.t q.t, gN, cN⟩ := by
          show _ = [Value.int .i64 ((p.t.wt f + q.t.wt f : Nat) : Int), .slice (some ⟨gN, 0, none⟩) (p.t.syms ++ q.t.syms).length cN]
          rw [List.length_append, L1, L2, C1.out, C2.out]; simp
        have hsz : w.heap.size ≤ W.heap.size := Nat.le_trans HB.out.size D.out.below.size
        have hgN : W.heap.size ≤ gN := Nat.le_trans bA.out.size (HV.out gN rfl)
        have HM := Lib.hid (P2.out.more bw hsz hsy hgN (by rw [← he]; exact o3) g3 n3)
        have HB3 := Lib.hid (((HB.out.trans (D.out.below.mono HB.out.size)).trans (bw.mono hsz)).grown g3 (by have := bw.size; omega) HP.out.off)
        have HT3 : Hid ((l ++ [⟨.node p.t q.t, gN, cN⟩] : List Pk).map (·.t) = pairs ((d.map (·.t)).take (2 * (k + 1)))) := Lib.hid (by
          rw [List.map_append, HT.out, hTP.out]; rfl)
        have HGE3 : Hid (∀ p' ∈ l ++ [(⟨.node p.t q.t, gN, cN⟩ : Pk)], w.heap.size ≤ p'.g) := Lib.hid (by
          intro p' hp'
          rcases List.mem_append.1 hp' with h | h
          · exact HGE.out p' h
          · rw [List.mem_singleton.1 h]; exact Nat.le_trans hsz hgN)
        clear bw hsy he o3 g3 n3 HR HQ HK3 KA SA SB kA bA hk2 kB hk3 k0 hsz L1 L2 hm1 hm2 D
        go_wp2_with fail
        refine ⟨⟨k + 1, _, by omega, by go_num, HM.out, HT3.out, HB3.out, HGE3.out⟩, ?_⟩
        simp [intOf]; omega
    · obtain rfl : k = m := by omega
      have HE : Hid (pairs ((d.map (·.t)).take (2 * k)) = pairs (d.map (·.t))) := Lib.hid (by
        have h := pairs_cut (d.map (·.t)) k (by rw [List.length_map]; omega)
        exact h)
      go_wp2_with fail
      go_ret
      first | exact ⟨_, l, rfl, HP.out, HT.out.trans HE.out, HB.out, HGE.out⟩ | exact ⟨_, rfl, l, HP.out, HT.out.trans HE.out, HB.out, HGE.out⟩

end Go.Proofs.Ytildikdoimobhaa.Huf
