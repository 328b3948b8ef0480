/-
  The document's examples (miradorlaw05's works).
-/
import Derived.Test.YtildikdoimobhaaHufLens
import Derived.Test.YtildikdoimobhaaHufNext
namespace Go.Proofs.Ytildikdoimobhaa.Huf
open Go.ChangeShapes Go.WideShapes Go.ChangeAt Go.RowKit
open Go.Proofs.Ytildikdoimobhaa.Bit (tb RdAt rnew_any)
set_option linter.unusedVariables false

theorem isInts_lit (w : World) (T : TypeId) (L : List Int) : IsInts (w.alloc (.cells ((L.map fun x => Value.int .i64 x).toArray) T)) (some ⟨w.heap.size, 0, none⟩) L := by
  intro _
  refine ⟨w.heap.size, 0, rfl, by simp, fun i hi => ?_⟩
  rw [cell_of_row _ _ _ _ _ _ (heap_alloc_new _ _)]
  simp [hi]

theorem small_fin : ∀ (b c : Fin 8) (d : Fin 5), 2 ^ 14 + (2 ^ (15 - b.val) + (2 ^ (15 - c.val) + (2 ^ (15 - d.val) + 0))) = 2 ^ 15 ∧ b.val + c.val + 2 * d.val ≤ 10 ∧ 1 ≤ b.val ∧ 1 ≤ c.val ∧ 1 ≤ d.val → b.val = 3 ∧ c.val = 3 ∧ d.val = 2 := by decide +kernel
theorem small_lengths (b : Nat) (hb : b < 8) (c : Nat) (hc : c < 8) (d : Nat) (hd : d < 5) (h1 : 2 ^ 14 + (2 ^ (15 - b) + (2 ^ (15 - c) + (2 ^ (15 - d) + 0))) = 2 ^ 15) (h2 : b + c + 2 * d ≤ 10) (h3 : 1 ≤ b) (h4 : 1 ≤ c) (h5 : 1 ≤ d) : b = 3 ∧ c = 3 ∧ d = 2 :=
  small_fin ⟨b, hb⟩ ⟨c, hc⟩ ⟨d, hd⟩ ⟨h1, h2, h3, h4, h5⟩
theorem works_lengths (P : List Tr) (h : Taken [8, 1, 1, 2] 4 15 P) : often 0 P = 1 ∧ often 1 P = 3 ∧ often 3 P = 2 := by
  have hS : comeS [8, 1, 1, 2] 4 = [0, 1, 2, 3] := by decide
  rcases h with ⟨h1, _⟩ | ⟨_, Q, hQ, rfl⟩
  · rw [hS] at h1; simp at h1
  · rw [hS] at hQ ⊢
    obtain ⟨_, m1, m2, _, m4, m5⟩ := made (fun i => ([8, 1, 1, 2] : List Nat).getD i 0) [0, 1, 2, 3] (by decide) (by decide) (by decide) 15 (by decide) (by decide) Q hQ
    have m6 := m5 (fun i => ([1, 3, 3, 2] : List Nat).getD i 0) (by decide) (by decide)
    have a0 := m1 0 (by decide)
    have a1 := m1 1 (by decide)
    have a2 := m1 2 (by decide)
    have a3 := m1 3 (by decide)
    simp only [tot] at m4 m6
    generalize often 0 _ = a at *
    generalize often 1 _ = b at *
    generalize often 2 _ = c at *
    generalize often 3 _ = d at *
    clear m1 m2 m5
    simp at m6
    obtain rfl : a = 1 := by omega
    have := small_lengths b (by omega) c (by omega) d (by omega) m4 (by omega) a1 a2 a3
    exact ⟨rfl, this.1, this.2.2⟩

theorem w_codes : fine [3, 3, 3, 3, 3, 2, 4, 4] = true := by decide +kernel
theorem w_new : fine [1, 2, 2] = true := by decide +kernel
theorem w_chk1 : chk [1, 2] = .tuple #[.int .i64 8192, .int .i64 0] := by
  unfold chk
  rw [if_pos (by decide +kernel), show used (nats [1, 2]) 15 = 24576 by decide +kernel]
  rfl
theorem w_chk2 : chk [1, 1, 1] = .tuple #[.int .i64 0, .int .i64 50] := by
  unfold chk
  rw [if_neg (by decide +kernel)]
theorem w_next : (nxG [1, 2, 2] (tb ⟨#[1]⟩) 0 false 15 0 0).1 = 1 ∧ (nxG [1, 2, 2] (tb ⟨#[1]⟩) 0 false 15 0 0).2.1 = 0 := by decide +kernel

/-- Literals behind a world. -/
theorem w1_codes (W : World) : Calls Try.prog 13 #[.slice (some ⟨W.heap.size, 0, none⟩) 8 8] (W.alloc (.cells #[.int .i64 3, .int .i64 3, .int .i64 3, .int .i64 3, .int .i64 3, .int .i64 2, .int .i64 4, .int .i64 4] 3)) fun e w' =>
    ∃ b, e = .returned (.tuple #[.slice (some ⟨b, 0, none⟩) 8 8, .int .i64 0]) ∧ b < w'.heap.size ∧ Below W.heap.size W w' ∧ w'.cell? ⟨b, 0, none⟩ = some (.int .i64 2) ∧ w'.cell? ⟨b, 1, none⟩ = some (.int .i64 3) ∧ w'.cell? ⟨b, 14, none⟩ = some (.int .i64 15) ∧ w'.cell? ⟨b, 15, none⟩ = some (.int .i64 4) := by
  refine (codes_good (some ⟨W.heap.size, 0, none⟩) 8 8 [3, 3, 3, 3, 3, 2, 4, 4] _ rfl (isInts_lit W 3 [3, 3, 3, 3, 3, 2, 4, 4]) w_codes).mono ?_
  rintro e w' ⟨b, rfl, hb, ho⟩
  refine ⟨b, rfl, (ho.lt b rfl).2, ((Below.refl _ _).alloc (Nat.le_refl _) _).trans (hb.mono (by simp)), ?_, ?_, ?_, ?_⟩
  · rw [ho.cellAt 0 (by decide)]; exact (rowC_get 8 _ _ 0 (by decide)).1.trans (by rw [show codeV (nats [3, 3, 3, 3, 3, 2, 4, 4]) 0 = 2 by decide +kernel]; rfl)
  · rw [ho.cellAt 1 (by decide)]; exact (rowC_get 8 _ _ 0 (by decide)).2.trans (by rw [show (nats [3, 3, 3, 3, 3, 2, 4, 4]).getD 0 0 = 3 by decide +kernel]; rfl)
  · rw [ho.cellAt 14 (by decide)]; exact (rowC_get 8 _ _ 7 (by decide)).1.trans (by rw [show codeV (nats [3, 3, 3, 3, 3, 2, 4, 4]) 7 = 15 by decide +kernel]; rfl)
  · rw [ho.cellAt 15 (by decide)]; exact (rowC_get 8 _ _ 7 (by decide)).2.trans (by rw [show (nats [3, 3, 3, 3, 3, 2, 4, 4]).getD 7 0 = 4 by decide +kernel]; rfl)
theorem w1_lengths (W : World) : Calls Try.prog 25 #[.slice (some ⟨W.heap.size, 0, none⟩) 4 4, .int .i64 15] (W.alloc (.cells #[.int .i64 8, .int .i64 1, .int .i64 1, .int .i64 2] 3)) fun e w' =>
    ∃ b, e = .returned (.tuple #[.slice (some ⟨b, 0, none⟩) 4 4, .int .i64 0]) ∧ b < w'.heap.size ∧ Below W.heap.size W w' ∧ w'.cell? ⟨b, 0, none⟩ = some (.int .i64 1) ∧ w'.cell? ⟨b, 1, none⟩ = some (.int .i64 3) ∧ w'.cell? ⟨b, 3, none⟩ = some (.int .i64 2) := by
  refine (lengths_any (some ⟨W.heap.size, 0, none⟩) 4 4 [8, 1, 1, 2] 15 _ rfl (isInts_lit W 3 [8, 1, 1, 2]) (by decide) (by decide) (by decide) (by decide) (by decide)).mono ?_
  rintro e w' ⟨b, P, rfl, hT, ho, hb⟩
  obtain ⟨h0, h1, h3⟩ := works_lengths P hT
  have hc : ∀ i, i < 4 → w'.cell? ⟨b, i, none⟩ = some (.int .i64 (often i P : Nat)) := fun i hi => by
    rw [ho.cellAt i (by omega)]; simp [cellsN, hi]
  refine ⟨b, rfl, (ho.lt b rfl).2, ((Below.refl _ _).alloc (Nat.le_refl _) _).trans (hb.mono (by simp)), ?_, ?_, ?_⟩
  · rw [hc 0 (by decide), h0]; rfl
  · rw [hc 1 (by decide), h1]; rfl
  · rw [hc 3 (by decide), h3]; rfl
theorem w1_check1 (W : World) : Calls Try.prog 11 #[.slice (some ⟨W.heap.size, 0, none⟩) 2 2] (W.alloc (.cells #[.int .i64 1, .int .i64 2] 3)) fun e w' => e = .returned (.tuple #[.int .i64 8192, .int .i64 0]) ∧ Below W.heap.size W w' := by
  refine (check_any (some ⟨W.heap.size, 0, none⟩) 2 2 [1, 2] _ rfl (isInts_lit W 3 [1, 2]) (by decide)).mono ?_
  rintro e w' ⟨rfl, hb⟩
  rw [w_chk1]
  exact ⟨rfl, ((Below.refl _ _).alloc (Nat.le_refl _) _).trans (hb.mono (by simp))⟩
theorem w1_check2 (W : World) : Calls Try.prog 11 #[.slice (some ⟨W.heap.size, 0, none⟩) 3 3] (W.alloc (.cells #[.int .i64 1, .int .i64 1, .int .i64 1] 3)) fun e w' => e = .returned (.tuple #[.int .i64 0, .int .i64 50]) ∧ Below W.heap.size W w' := by
  refine (check_any (some ⟨W.heap.size, 0, none⟩) 3 3 [1, 1, 1] _ rfl (isInts_lit W 3 [1, 1, 1]) (by decide)).mono ?_
  rintro e w' ⟨rfl, hb⟩
  rw [w_chk2]
  exact ⟨rfl, ((Below.refl _ _).alloc (Nat.le_refl _) _).trans (hb.mono (by simp))⟩
theorem w1_new (W : World) : Calls Try.prog 16 #[.slice (some ⟨W.heap.size, 0, none⟩) 3 3] (W.alloc (.cells #[.int .i64 1, .int .i64 2, .int .i64 2] 3)) fun e w' =>
    ∃ D S, e = .returned (.tuple #[.pointer (some ⟨D, 0, none⟩), .int .i64 0]) ∧ Below W.heap.size W w' ∧ DecAt w' D S (fst [1, 2, 2]) (used [1, 2, 2] 15) (symsOf [1, 2, 2] 3) := by
  refine (new_good (some ⟨W.heap.size, 0, none⟩) 3 3 [1, 2, 2] _ rfl (isInts_lit W 3 [1, 2, 2]) w_new).mono ?_
  rintro e w' ⟨D, S, rfl, hb, _, hd⟩
  rw [show nats [1, 2, 2] = [1, 2, 2] by decide] at hd
  exact ⟨D, S, rfl, ((Below.refl _ _).alloc (Nat.le_refl _) _).trans (hb.mono (by simp)), hd⟩

set_option maxRecDepth 100000 in
set_option maxHeartbeats 4000000 in
theorem works_any (w : World) :
    Calls Try.prog 10 #[] w fun e w' => e = .returned (.bool true) ∧ Below w.heap.size w w' := by
  go_enter Try.func10, Try.ntmps10
  go_wp2_with fail
  refine (w1_codes _).mono ?_
  rintro r w1 ⟨bc, rfl, lc, b1, c0, c1, c14, c15⟩
  have CC := Lib.hid (And.intro lc (And.intro c0 (And.intro c1 (And.intro c14 c15))))
  have B1 := Lib.hid b1
  clear lc b1 c0 c1 c14 c15
  go_wp2_with fail
  refine (w1_lengths _).mono ?_
  rintro r w2 ⟨bl, rfl, ll, b2, l0, l1, l3⟩
  have LL := Lib.hid (And.intro ll (And.intro l0 (And.intro l1 l3)))
  have B2 := Lib.hid b2
  clear ll b2 l0 l1 l3
  go_wp2_with fail
  refine (w1_check1 _).mono ?_
  rintro r w3 ⟨rfl, b3⟩
  have B3 := Lib.hid b3
  clear b3
  go_wp2_with fail
  refine (w1_check2 _).mono ?_
  rintro r w4 ⟨rfl, b4⟩
  have B4 := Lib.hid b4
  clear b4
  go_wp2_with fail
  refine (w1_new _).mono ?_
  rintro r w5 ⟨D, S, rfl, b5, hd⟩
  have B5 := Lib.hid b5
  have HD := Lib.hid hd
  clear b5 hd
  go_wp2_with fail
  refine (rnew_any ⟨#[1]⟩ w5).mono ?_
  rintro r w6 ⟨rfl, hr, b6⟩
  have HR := Lib.hid hr
  have B6 := Lib.hid b6
  clear hr b6
  go_wp2_with fail
  refine (next_any D S [1, 2, 2] w5.heap.size ⟨#[1]⟩ 0 false w6 (HD.out.below B6.out (Nat.le_refl _)) HR.out (Nat.zero_le _) (by decide) (by decide) (by decide +kernel)).mono ?_
  rintro r w7 ⟨rfl, _, g7⟩
  rw [w_next.1, w_next.2]
  have b57 : Below w5.heap.size w5 w7 := B6.out.grown g7 B6.out.size (fun k hk => by cases hk; exact Nat.le_refl _)
  have b27 : Below w2.heap.size w2 w7 := B3.out.trans ((B4.out.trans ((B5.out.trans (b57.mono B5.out.size)).mono B4.out.size)).mono B3.out.size)
  have b17 : Below w1.heap.size w1 w7 := B2.out.trans (b27.mono B2.out.size)
  have B7 := Lib.hid (B1.out.trans (b17.mono B1.out.size))
  have c0 := (b17.cell (p := ⟨bc, 0, none⟩) CC.out.1).trans CC.out.2.1
  have c1 := (b17.cell (p := ⟨bc, 1, none⟩) CC.out.1).trans CC.out.2.2.1
  have c14 := (b17.cell (p := ⟨bc, 14, none⟩) CC.out.1).trans CC.out.2.2.2.1
  have c15 := (b17.cell (p := ⟨bc, 15, none⟩) CC.out.1).trans CC.out.2.2.2.2
  have l0 := (b27.cell (p := ⟨bl, 0, none⟩) LL.out.1).trans LL.out.2.1
  have l1 := (b27.cell (p := ⟨bl, 1, none⟩) LL.out.1).trans LL.out.2.2.1
  have l3 := (b27.cell (p := ⟨bl, 3, none⟩) LL.out.1).trans LL.out.2.2.2
  clear b57 b27 b17 g7 HR HD CC LL
  go_wp2_with fail
  go_ret
  exact ⟨rfl, B7.out⟩

end Go.Proofs.Ytildikdoimobhaa.Huf
