/-
  Contracts of the program's layer 13 (format): a part of a format.
-/
import Derived.Test.YtbdlmcpdplmdnaaFmtSays
namespace Go.Proofs.Ytbdlmcpdplmdnaa.Fmt
open Go.ChangeShapes Go.WideShapes Go.ChangeAt Go.RowKit RegVal Oct
set_option linter.unusedVariables false
set_option maxRecDepth 100000

theorem len64_top (k : Nat) (hk : 1 ≤ k ∧ k ≤ 16) (w : World) :
    Calls Try.prog 73 #[.int .u64 (top k : Nat)] w fun e w' => e = .returned (.int .i64 k) ∧ w = w' := by
  have hk' : k = 1 ∨ k = 2 ∨ k = 3 ∨ k = 4 ∨ k = 5 ∨ k = 6 ∨ k = 7 ∨ k = 8 ∨ k = 9 ∨ k = 10 ∨ k = 11 ∨ k = 12 ∨ k = 13 ∨ k = 14 ∨ k = 15 ∨ k = 16 := by omega
  clear hk
  rcases hk' with rfl | rfl | rfl | rfl | rfl | rfl | rfl | rfl | rfl | rfl | rfl | rfl | rfl | rfl | rfl | rfl
  all_goals
    simp only [show top 1 = 1 from rfl, show top 2 = 3 from rfl, show top 3 = 7 from rfl, show top 4 = 15 from rfl, show top 5 = 31 from rfl, show top 6 = 63 from rfl, show top 7 = 127 from rfl, show top 8 = 255 from rfl, show top 9 = 511 from rfl, show top 10 = 1023 from rfl, show top 11 = 2047 from rfl, show top 12 = 4095 from rfl, show top 13 = 8191 from rfl, show top 14 = 16383 from rfl, show top 15 = 32767 from rfl, show top 16 = 65535 from rfl]
    go_enter Try.func73, Try.ntmps73
    go_wp2_with fail
    go_ret
    exact ⟨by kernel_rfl, rfl⟩
theorem len_top (k : Nat) (hk : 1 ≤ k ∧ k ≤ 16) (w : World) :
    Calls Try.prog 57 #[.int .u64 (top k : Nat)] w fun e w' => e = .returned (.int .i64 k) ∧ w = w' := by
  have L := Lib.hid (len64_top k hk w)
  have hw : IntKind.u64.wrap (top k : Nat) = (top k : Nat) := by
    have := top_small hk.2
    exact IntWalk.u64_in _ (by omega)
  generalize top k = T at *
  go_enter Try.func57, Try.ntmps57
  go_wp2_with fail
  refine L.out.mono ?_
  rintro r w' ⟨rfl, rfl⟩
  go_wp2_with fail
  go_ret
  exact ⟨rfl, rfl⟩

/-- A part's greatest number is one of so many bits. -/
theorem top_and (k : Nat) : top k &&& (top k + 1) = 0 := by
  apply Nat.eq_of_testBit_eq
  intro i
  have h1 : top k + 1 = 2 ^ k := by unfold top; have := Nat.one_le_two_pow (n := k); omega
  rw [Nat.testBit_and, h1, top_bit, Nat.testBit_two_pow, Nat.zero_testBit]
  by_cases h : i < k
  · simp [h]; omega
  · simp [h]
theorem and_top {m : Nat} (h1 : 1 ≤ m) (h : m &&& (m + 1) = 0) : m = top (m.log2 + 1) := by
  have hl := Nat.log2_self_le (show m ≠ 0 by omega)
  have hu := Nat.lt_log2_self (n := m)
  generalize m.log2 = k at *
  apply Classical.byContradiction
  intro hn
  have hlt : m + 1 < 2 ^ (k + 1) := by unfold top at hn; omega
  have b : ∀ x, 2 ^ k ≤ x → x < 2 ^ (k + 1) → x.testBit k = true := fun x hx hx2 => by
    rw [Nat.testBit_eq_decide_div_mod_eq]
    have h3 : x / 2 ^ k = 1 := Nat.div_eq_of_lt_le (by omega) (by rw [Nat.pow_succ] at hx2; omega)
    rw [h3]; rfl
  have e := congrArg (fun n => Nat.testBit n k) h
  simp only [Nat.testBit_and, b m hl hu, b (m + 1) (by omega) hlt, Nat.zero_testBit] at e
  cases e
theorem top_le_k {k : Nat} (h : top k ≤ 65535) : k ≤ 16 := by
  apply Classical.byContradiction
  intro hn
  have h2 : 2 ^ 17 ≤ 2 ^ k := Nat.pow_le_pow_right (by decide) (by omega)
  have h3 : (2 : Nat) ^ 17 = 131072 := by decide
  unfold top at h
  omega
theorem max_top {m : Int} (h1 : 1 ≤ m) (h2 : m ≤ 65535) (h : bits .and .i64 m (m + 1) = 0) : ∃ k : Nat, (1 ≤ k ∧ k ≤ 16) ∧ m = (top k : Nat) := by
  obtain ⟨M, rfl⟩ : ∃ M : Nat, m = M := ⟨m.toNat, by omega⟩
  have e := i64_and M (M + 1) (by omega) (by omega)
  rw [Int.natCast_add] at e
  rw [show ((M : Int) + (1 : Nat)) = M + 1 from rfl, h] at e
  have h0 : M &&& (M + 1) = 0 := by omega
  have ht := and_top (by omega) h0
  refine ⟨M.log2 + 1, ⟨by omega, top_le_k (by rw [← ht]; omega)⟩, by rw [← ht]⟩
theorem part_no {b m s : Int} (h : ∀ k : Nat, 1 ≤ k ∧ k ≤ 16 → m ≠ (top k : Nat)) : partB b m s = false := by
  unfold partB
  refine decide_eq_false fun ⟨h1, _⟩ => ?_
  obtain ⟨w1, w2, w3⟩ := width_spec h1
  exact h _ ⟨w1, w2⟩ w3

set_option maxHeartbeats 1000000 in
theorem within_any (m s b : Int) (hm : (Lit.int .i64 m).wf = true) (hs : (Lit.int .i64 s).wf = true) (hb : 0 ≤ b ∧ b ≤ 32) (w : World) :
    Calls Try.prog 33 #[.agg #[.int .i64 m, .int .i64 s], .int .i64 b] w fun e w' => e = .returned (.bool (partB b m s)) ∧ Below w.heap.size w w' := by
  obtain ⟨bel, kx⟩ := box1 w #[.int .i64 m, .int .i64 s] 52
  have HB := Lib.hid bel
  obtain ⟨w1, hw1⟩ : ∃ w1, w.alloc (.cells #[.int .i64 m, .int .i64 s] 52) = w1 := ⟨_, rfl⟩
  rw [hw1] at bel kx HB
  have c0 := kx 0 _ rfl
  have c1 := kx 1 _ rfl
  clear kx hm hs bel
  by_cases h1 : m < 1
  · have hp : partB b m s = false := part_no fun k hk e => by have := top_pos hk.1; omega
    have d1 : decide (m < 1) = true := decide_eq_true h1
    rw [hp]
    go_enter Try.func33, Try.ntmps33
    go_wp2_with fail
    go_ret
    exact ⟨rfl, HB.out⟩
  have d1 : decide (m < 1) = false := decide_eq_false h1
  by_cases h2 : m ≤ 65535
  · have d2 : decide ((65535 : Int) < m) = false := decide_eq_false (by omega)
    by_cases h3 : bits .and .i64 m (m + 1) = 0
    · obtain ⟨k, hk, rfl⟩ := max_top (by omega) h2 h3
      have hp : partB b (top k : Nat) s = decide (0 ≤ s ∧ s ≤ b - k) := by
        unfold partB
        rw [width_top hk]
        exact decide_eq_decide.2 (by omega)
      have HP := Lib.hid hp
      have L : RowKit.Hid (∀ n, Calls Try.prog 57 #[.int .u64 (top k : Nat)] (w1.drewN n) fun e w' => e = .returned (.int .i64 k) ∧ ∃ m, w' = w1.drewN m) := Lib.hid (fun (n : Nat) => (len_top k hk (w1.drewN n)).mono fun _ _ ⟨he, hm⟩ => ⟨he, n, hm.symm⟩)
      have hwr : IntKind.u64.wrap (top k : Nat) = (top k : Nat) := IntWalk.u64_in _ (by omega)
      clear hp h1
      generalize partB b (top k : Nat) s = Z at *
      generalize top k = T at *
      by_cases h4 : 0 ≤ s
      · have d4 : decide (0 ≤ s) = true := decide_eq_true h4
        go_enter Try.func33, Try.ntmps33
        go_wp2_with fail
        go_quiet ((go_at_call 57; with_reducible exact L.out _))
        go_wp2_with fail
        go_ret
        refine ⟨?_, below_q HB.out _⟩
        rw [HP.out]
        exact retB (decide_eq_decide.2 (by omega))
      · have d4 : decide (0 ≤ s) = false := decide_eq_false h4
        go_enter Try.func33, Try.ntmps33
        go_wp2_with fail
        go_quiet (fail)
        go_wp2_with fail
        go_ret
        refine ⟨?_, below_q HB.out _⟩
        rw [HP.out]
        exact retB (decide_eq_false (by omega)).symm
    · have hp : partB b m s = false := part_no fun k hk e => h3 (by
        rw [e, show ((top k : Nat) : Int) + 1 = ((top k + 1 : Nat) : Int) by simp, i64_and _ _ (by have := top_small hk.2; omega) (by have := top_small hk.2; omega), top_and]; rfl)
      have d3 : (bits .and .i64 m (m + 1) != 0) = true := by simpa using h3
      rw [hp]
      go_enter Try.func33, Try.ntmps33
      go_wp2_with fail
      go_ret
      exact ⟨rfl, HB.out⟩
  · have hp : partB b m s = false := part_no fun k hk e => by have := top_small hk.2; omega
    have d2 : decide ((65535 : Int) < m) = true := decide_eq_true (by omega)
    rw [hp]
    go_enter Try.func33, Try.ntmps33
    go_wp2_with fail
    go_ret
    exact ⟨rfl, HB.out⟩

theorem mask_any (a s : Nat) (ha : a ≤ 65535) (hs : s ≤ 32) (w : World) :
    Calls Try.prog 34 #[.agg #[.int .i64 a, .int .i64 s]] w fun e w' => e = .returned (.int .i64 (a * 2 ^ s : Nat)) ∧ Below w.heap.size w w' := by
  obtain ⟨P, hP, hP2, hP3, hP4⟩ := pow_int hs
  rw [← hP2]
  have hm := mul_small ha hP4
  have HW2 := Lib.hid hm
  obtain ⟨bel, kx⟩ := box1 w #[.int .i64 a, .int .i64 s] 52
  have c0 := kx 0 _ rfl
  have c1 := kx 1 _ rfl
  have HB := Lib.hid bel
  clear hP2 hm kx bel
  go_enter Try.func34, Try.ntmps34
  go_wp2_with fail
  go_ret
  exact ⟨retI ((IntWalk.wrap64_in _ (by rw [← Int.natCast_mul]; have := HW2.out; omega)).trans (by rw [← Int.natCast_mul])), HB.out⟩

theorem store6 {w : World} {R : Nat} {z0 z1 z2 z3 z4 z5 : Value} {T : TypeId} (h : w.heap[R]? = some (.cells #[z0, z1, z2, z3, z4, z5] T (0, 0))) (a b c d e f : Value) :
    ((((((w.setCell ⟨R, 0, none⟩ a).setCell ⟨R, 1, none⟩ b).setCell ⟨R, 2, none⟩ c).setCell ⟨R, 3, none⟩ d).setCell ⟨R, 4, none⟩ e).setCell ⟨R, 5, none⟩ f).heap[R]? = some (.cells #[a, b, c, d, e, f] T (0, 0)) := by
  have h0 := setAt (cs' := #[a, z1, z2, z3, z4, z5]) (i := 0) (v := a) h rfl
  have h1 := setAt (cs' := #[a, b, z2, z3, z4, z5]) (i := 1) (v := b) h0 rfl
  have h2 := setAt (cs' := #[a, b, c, z3, z4, z5]) (i := 2) (v := c) h1 rfl
  have h3 := setAt (cs' := #[a, b, c, d, z4, z5]) (i := 3) (v := d) h2 rfl
  have h4 := setAt (cs' := #[a, b, c, d, e, z5]) (i := 4) (v := e) h3 rfl
  exact setAt (cs' := #[a, b, c, d, e, f]) (i := 5) (v := f) h4 rfl
/-- The three parts. -/
def prtV (f : Fm) : Value := .agg #[.int .i64 f.rm, .int .i64 f.rs, .int .i64 f.gm, .int .i64 f.gs, .int .i64 f.bm, .int .i64 f.bs]
theorem parts_any (f : Fm) (w : World) :
    Calls Try.prog 32 #[f.v] w fun e w' => e = .returned (prtV f) ∧ Below w.heap.size w w' := by
  have AT := FmAt.box f w 23
  have bel := (Below.refl w.heap.size w).alloc (Nat.le_refl _) (.cells #[.int .i64 f.B, .int .i64 f.D, .bool f.big, .bool f.tr, .int .i64 f.rm, .int .i64 f.gm, .int .i64 f.bm, .int .i64 f.rs, .int .i64 f.gs, .int .i64 f.bs] 23)
  have hsz : (w.alloc (.cells #[.int .i64 f.B, .int .i64 f.D, .bool f.big, .bool f.tr, .int .i64 f.rm, .int .i64 f.gm, .int .i64 f.bm, .int .i64 f.rs, .int .i64 f.gs, .int .i64 f.bs] 23)).heap.size = w.heap.size + 1 := alloc_size _ _
  obtain ⟨w1, hw1⟩ : ∃ w1, w.alloc (.cells #[.int .i64 f.B, .int .i64 f.D, .bool f.big, .bool f.tr, .int .i64 f.rm, .int .i64 f.gm, .int .i64 f.bm, .int .i64 f.rs, .int .i64 f.gs, .int .i64 f.bs] 23) = w1 := ⟨_, rfl⟩
  rw [hw1] at AT bel hsz
  have bel2 := bel.alloc bel.size (.cells #[.int .i64 0, .int .i64 0, .int .i64 0, .int .i64 0, .int .i64 0, .int .i64 0] 53)
  have AT2 := AT.below ((Below.refl w1.heap.size w1).alloc (Nat.le_refl _) (.cells #[.int .i64 0, .int .i64 0, .int .i64 0, .int .i64 0, .int .i64 0, .int .i64 0] 53)) (by omega)
  have hg := heap_alloc_new w1 (.cells #[.int .i64 0, .int .i64 0, .int .i64 0, .int .i64 0, .int .i64 0, .int .i64 0] 53)
  obtain ⟨w2, hw2⟩ : ∃ w2, w1.alloc (.cells #[.int .i64 0, .int .i64 0, .int .i64 0, .int .i64 0, .int .i64 0, .int .i64 0] 53) = w2 := ⟨_, rfl⟩
  rw [hw2] at AT2 bel2 hg
  have hle : w.heap.size ≤ w1.heap.size := bel.size
  have HB := Lib.hid bel2
  have HG := Lib.hid hg
  have HL := Lib.hid hle
  obtain ⟨B, D, big, tr, rm, gm, bm, rs, gs, bs⟩ := f
  obtain ⟨_, _, _, _, c4, c5, c6, c7, c8, c9⟩ := AT2
  have s0 := cell_of_row w2 w1.heap.size 0 _ _ _ hg
  have s1 := cell_of_row w2 w1.heap.size 1 _ _ _ hg
  have s2 := cell_of_row w2 w1.heap.size 2 _ _ _ hg
  have s3 := cell_of_row w2 w1.heap.size 3 _ _ _ hg
  have s4 := cell_of_row w2 w1.heap.size 4 _ _ _ hg
  have s5 := cell_of_row w2 w1.heap.size 5 _ _ _ hg
  have fz : ∀ i, w2.frozen? ⟨w1.heap.size, i, none⟩ = false := fun i => frozen_of_row w2 w1.heap.size i _ _ hg
  simp at s0 s1 s2 s3 s4 s5
  unfold Fm.v prtV
  simp only at *
  clear AT bel bel2 hg hle hsz
  go_enter Try.func32, Try.ntmps32
  go_wp2_with fail
  refine bodyPost_ret (Ret.ret_cell rfl _ _ w1.heap.size 53 _ (0, 0) _ rfl (store6 HG.out _ _ _ _ _ _) Try.underlying53 rfl (by kernel_rfl)) rfl ⟨rfl, below_set (below_set (below_set (below_set (below_set (below_set HB.out HL.out _ _) HL.out _ _) HL.out _ _) HL.out _ _) HL.out _ _) HL.out _ _⟩
end Go.Proofs.Ytbdlmcpdplmdnaa.Fmt
