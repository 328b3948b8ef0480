/-
  Texts in one: FmtPrgA, FmtPrgB, FmtPrgC, FmtPrgD, FmtPrgE, FmtPrgF.
-/
import Derived.Test.YtmjjbapahgejmaaAllFmtM
import Derived.Deep.DeepCutAuto
namespace Go.Proofs.Ytmjjbapahgejmaa.Fmt
open Go.ChangeShapes Go.WideShapes Go.ChangeAt Go.RowKit RegVal Oct
set_option linter.unusedVariables false
set_option maxRecDepth 100000

theorem len64_top (k : Nat) (hk : 1 ≤ k ∧ k ≤ 16) (w : World) :
    Calls Try.prog 104 #[.int .u64 (top k : Nat)] w fun e w' => e = .returned (.int .i64 k) ∧ w = w' := by
  have hk' : k = 1 ∨ k = 2 ∨ k = 3 ∨ k = 4 ∨ k = 5 ∨ k = 6 ∨ k = 7 ∨ k = 8 ∨ k = 9 ∨ k = 10 ∨ k = 11 ∨ k = 12 ∨ k = 13 ∨ k = 14 ∨ k = 15 ∨ k = 16 := by omega
  clear hk
  rcases hk' with rfl | rfl | rfl | rfl | rfl | rfl | rfl | rfl | rfl | rfl | rfl | rfl | rfl | rfl | rfl | rfl
  all_goals
    simp only [show top 1 = 1 from rfl, show top 2 = 3 from rfl, show top 3 = 7 from rfl, show top 4 = 15 from rfl, show top 5 = 31 from rfl, show top 6 = 63 from rfl, show top 7 = 127 from rfl, show top 8 = 255 from rfl, show top 9 = 511 from rfl, show top 10 = 1023 from rfl, show top 11 = 2047 from rfl, show top 12 = 4095 from rfl, show top 13 = 8191 from rfl, show top 14 = 16383 from rfl, show top 15 = 32767 from rfl, show top 16 = 65535 from rfl]
    go_enter Try.func104, Try.ntmps104
    go_wp2_with fail
    go_ret
    exact ⟨by kernel_rfl, rfl⟩
theorem len_top (k : Nat) (hk : 1 ≤ k ∧ k ≤ 16) (w : World) :
    Calls Try.prog 99 #[.int .u64 (top k : Nat)] w fun e w' => e = .returned (.int .i64 k) ∧ w = w' := by
  have L := Lib.hid (len64_top k hk w)
  have hw : IntKind.u64.wrap (top k : Nat) = (top k : Nat) := by
    have := top_small hk.2
    exact IntWalk.u64_in _ (by omega)
  generalize top k = T at *
  go_enter Try.func99, Try.ntmps99
  go_wp2_with fail
  refine L.out.mono ?_
  rintro r w' ⟨rfl, rfl⟩
  go_wp2_with fail
  go_ret
  exact ⟨rfl, rfl⟩

/-- A part's greatest number is one of so many bits. -/
theorem top_and (k : Nat) : top k &&& (top k + 1) = 0 := by
  apply Nat.eq_of_testBit_eq
  intro i
  have h1 : top k + 1 = 2 ^ k := by unfold top; have := Nat.one_le_two_pow (n := k); omega
  rw [Nat.testBit_and, h1, top_bit, Nat.testBit_two_pow, Nat.zero_testBit]
  by_cases h : i < k
  · simp [h]; omega
  · simp [h]
theorem and_top {m : Nat} (h1 : 1 ≤ m) (h : m &&& (m + 1) = 0) : m = top (m.log2 + 1) := by
  have hl := Nat.log2_self_le (show m ≠ 0 by omega)
  have hu := Nat.lt_log2_self (n := m)
  generalize m.log2 = k at *
  apply Classical.byContradiction
  intro hn
  have hlt : m + 1 < 2 ^ (k + 1) := by unfold top at hn; omega
  have b : ∀ x, 2 ^ k ≤ x → x < 2 ^ (k + 1) → x.testBit k = true := fun x hx hx2 => by
    rw [Nat.testBit_eq_decide_div_mod_eq]
    have h3 : x / 2 ^ k = 1 := Nat.div_eq_of_lt_le (by omega) (by rw [Nat.pow_succ] at hx2; omega)
    rw [h3]; rfl
  have e := congrArg (fun n => Nat.testBit n k) h
  simp only [Nat.testBit_and, b m hl hu, b (m + 1) (by omega) hlt, Nat.zero_testBit] at e
  cases e
theorem top_le_k {k : Nat} (h : top k ≤ 65535) : k ≤ 16 := by
  apply Classical.byContradiction
  intro hn
  have h2 : 2 ^ 17 ≤ 2 ^ k := Nat.pow_le_pow_right (by decide) (by omega)
  have h3 : (2 : Nat) ^ 17 = 131072 := by decide
  unfold top at h
  omega
theorem max_top {m : Int} (h1 : 1 ≤ m) (h2 : m ≤ 65535) (h : bits .and .i64 m (m + 1) = 0) : ∃ k : Nat, (1 ≤ k ∧ k ≤ 16) ∧ m = (top k : Nat) := by
  obtain ⟨M, rfl⟩ : ∃ M : Nat, m = M := ⟨m.toNat, by omega⟩
  have e := i64_and M (M + 1) (by omega) (by omega)
  rw [Int.natCast_add] at e
  rw [show ((M : Int) + (1 : Nat)) = M + 1 from rfl, h] at e
  have h0 : M &&& (M + 1) = 0 := by omega
  have ht := and_top (by omega) h0
  refine ⟨M.log2 + 1, ⟨by omega, top_le_k (by rw [← ht]; omega)⟩, by rw [← ht]⟩
theorem part_no {b m s : Int} (h : ∀ k : Nat, 1 ≤ k ∧ k ≤ 16 → m ≠ (top k : Nat)) : partB b m s = false := by
  unfold partB
  refine decide_eq_false fun ⟨h1, _⟩ => ?_
  obtain ⟨w1, w2, w3⟩ := width_spec h1
  exact h _ ⟨w1, w2⟩ w3

set_option maxHeartbeats 1000000 in
theorem within_any (m s b : Int) (hm : (Lit.int .i64 m).wf = true) (hs : (Lit.int .i64 s).wf = true) (hb : 0 ≤ b ∧ b ≤ 32) (w : World) :
    Calls Try.prog 78 #[.agg #[.int .i64 m, .int .i64 s], .int .i64 b] w fun e w' => e = .returned (.bool (partB b m s)) ∧ Below w.heap.size w w' := by
  obtain ⟨bel, kx⟩ := box1 w #[.int .i64 m, .int .i64 s] 105
  have HB := Lib.hid bel
  obtain ⟨w1, hw1⟩ : ∃ w1, w.alloc (.cells #[.int .i64 m, .int .i64 s] 105) = w1 := ⟨_, rfl⟩
  rw [hw1] at bel kx HB
  have c0 := kx 0 _ rfl
  have c1 := kx 1 _ rfl
  clear kx hm hs bel
  by_cases h1 : m < 1
  · have hp : partB b m s = false := part_no fun k hk e => by have := top_pos hk.1; omega
    have d1 : decide (m < 1) = true := decide_eq_true h1
    rw [hp]
    go_enter Try.func78, Try.ntmps78
    go_wp2_with fail
    go_ret
    exact ⟨rfl, HB.out⟩
  have d1 : decide (m < 1) = false := decide_eq_false h1
  by_cases h2 : m ≤ 65535
  · have d2 : decide ((65535 : Int) < m) = false := decide_eq_false (by omega)
    by_cases h3 : bits .and .i64 m (m + 1) = 0
    · obtain ⟨k, hk, rfl⟩ := max_top (by omega) h2 h3
      have hp : partB b (top k : Nat) s = decide (0 ≤ s ∧ s ≤ b - k) := by
        unfold partB
        rw [width_top hk]
        exact decide_eq_decide.2 (by omega)
      have HP := Lib.hid hp
      have L : RowKit.Hid (∀ n, Calls Try.prog 99 #[.int .u64 (top k : Nat)] (w1.drewN n) fun e w' => e = .returned (.int .i64 k) ∧ ∃ m, w' = w1.drewN m) := Lib.hid (fun (n : Nat) => (len_top k hk (w1.drewN n)).mono fun _ _ ⟨he, hm⟩ => ⟨he, n, hm.symm⟩)
      have hwr : IntKind.u64.wrap (top k : Nat) = (top k : Nat) := IntWalk.u64_in _ (by omega)
      clear hp h1
      generalize partB b (top k : Nat) s = Z at *
      generalize top k = T at *
      by_cases h4 : 0 ≤ s
      · have d4 : decide (0 ≤ s) = true := decide_eq_true h4
        go_enter Try.func78, Try.ntmps78
        go_wp2_with fail
        go_quiet ((go_at_call 99; with_reducible exact L.out _))
        go_wp2_with fail
        go_ret
        refine ⟨?_, below_q HB.out _⟩
        rw [HP.out]
        exact retB (decide_eq_decide.2 (by omega))
      · have d4 : decide (0 ≤ s) = false := decide_eq_false h4
        go_enter Try.func78, Try.ntmps78
        go_wp2_with fail
        go_quiet (fail)
        go_wp2_with fail
        go_ret
        refine ⟨?_, below_q HB.out _⟩
        rw [HP.out]
        exact retB (decide_eq_false (by omega)).symm
    · have hp : partB b m s = false := part_no fun k hk e => h3 (by
        rw [e, show ((top k : Nat) : Int) + 1 = ((top k + 1 : Nat) : Int) by simp, i64_and _ _ (by have := top_small hk.2; omega) (by have := top_small hk.2; omega), top_and]; rfl)
      have d3 : (bits .and .i64 m (m + 1) != 0) = true := by simpa using h3
      rw [hp]
      go_enter Try.func78, Try.ntmps78
      go_wp2_with fail
      go_ret
      exact ⟨rfl, HB.out⟩
  · have hp : partB b m s = false := part_no fun k hk e => by have := top_small hk.2; omega
    have d2 : decide ((65535 : Int) < m) = true := decide_eq_true (by omega)
    rw [hp]
    go_enter Try.func78, Try.ntmps78
    go_wp2_with fail
    go_ret
    exact ⟨rfl, HB.out⟩

theorem mask_any (a s : Nat) (ha : a ≤ 65535) (hs : s ≤ 32) (w : World) :
    Calls Try.prog 79 #[.agg #[.int .i64 a, .int .i64 s]] w fun e w' => e = .returned (.int .i64 (a * 2 ^ s : Nat)) ∧ Below w.heap.size w w' := by
  obtain ⟨P, hP, hP2, hP3, hP4⟩ := pow_int hs
  rw [← hP2]
  have hm := mul_small ha hP4
  have HW2 := Lib.hid hm
  obtain ⟨bel, kx⟩ := box1 w #[.int .i64 a, .int .i64 s] 105
  have c0 := kx 0 _ rfl
  have c1 := kx 1 _ rfl
  have HB := Lib.hid bel
  clear hP2 hm kx bel
  go_enter Try.func79, Try.ntmps79
  go_wp2_with fail
  go_ret
  exact ⟨retI ((IntWalk.wrap64_in _ (by rw [← Int.natCast_mul]; have := HW2.out; omega)).trans (by rw [← Int.natCast_mul])), HB.out⟩

theorem store6 {w : World} {R : Nat} {z0 z1 z2 z3 z4 z5 : Value} {T : TypeId} (h : w.heap[R]? = some (.cells #[z0, z1, z2, z3, z4, z5] T (0, 0))) (a b c d e f : Value) :
    ((((((w.setCell ⟨R, 0, none⟩ a).setCell ⟨R, 1, none⟩ b).setCell ⟨R, 2, none⟩ c).setCell ⟨R, 3, none⟩ d).setCell ⟨R, 4, none⟩ e).setCell ⟨R, 5, none⟩ f).heap[R]? = some (.cells #[a, b, c, d, e, f] T (0, 0)) := by
  have h0 := setAt (cs' := #[a, z1, z2, z3, z4, z5]) (i := 0) (v := a) h rfl
  have h1 := setAt (cs' := #[a, b, z2, z3, z4, z5]) (i := 1) (v := b) h0 rfl
  have h2 := setAt (cs' := #[a, b, c, z3, z4, z5]) (i := 2) (v := c) h1 rfl
  have h3 := setAt (cs' := #[a, b, c, d, z4, z5]) (i := 3) (v := d) h2 rfl
  have h4 := setAt (cs' := #[a, b, c, d, e, z5]) (i := 4) (v := e) h3 rfl
  exact setAt (cs' := #[a, b, c, d, e, f]) (i := 5) (v := f) h4 rfl
/-- The three parts. -/
def prtV (f : Fm) : Value := .agg #[.int .i64 f.rm, .int .i64 f.rs, .int .i64 f.gm, .int .i64 f.gs, .int .i64 f.bm, .int .i64 f.bs]
theorem parts_any (f : Fm) (w : World) :
    Calls Try.prog 75 #[f.v] w fun e w' => e = .returned (prtV f) ∧ Below w.heap.size w w' := by
  have AT := FmAt.box f w 37
  have bel := (Below.refl w.heap.size w).alloc (Nat.le_refl _) (.cells #[.int .i64 f.B, .int .i64 f.D, .bool f.big, .bool f.tr, .int .i64 f.rm, .int .i64 f.gm, .int .i64 f.bm, .int .i64 f.rs, .int .i64 f.gs, .int .i64 f.bs] 37)
  have hsz : (w.alloc (.cells #[.int .i64 f.B, .int .i64 f.D, .bool f.big, .bool f.tr, .int .i64 f.rm, .int .i64 f.gm, .int .i64 f.bm, .int .i64 f.rs, .int .i64 f.gs, .int .i64 f.bs] 37)).heap.size = w.heap.size + 1 := alloc_size _ _
  obtain ⟨w1, hw1⟩ : ∃ w1, w.alloc (.cells #[.int .i64 f.B, .int .i64 f.D, .bool f.big, .bool f.tr, .int .i64 f.rm, .int .i64 f.gm, .int .i64 f.bm, .int .i64 f.rs, .int .i64 f.gs, .int .i64 f.bs] 37) = w1 := ⟨_, rfl⟩
  rw [hw1] at AT bel hsz
  have bel2 := bel.alloc bel.size (.cells #[.int .i64 0, .int .i64 0, .int .i64 0, .int .i64 0, .int .i64 0, .int .i64 0] 106)
  have AT2 := AT.below ((Below.refl w1.heap.size w1).alloc (Nat.le_refl _) (.cells #[.int .i64 0, .int .i64 0, .int .i64 0, .int .i64 0, .int .i64 0, .int .i64 0] 106)) (by omega)
  have hg := heap_alloc_new w1 (.cells #[.int .i64 0, .int .i64 0, .int .i64 0, .int .i64 0, .int .i64 0, .int .i64 0] 106)
  obtain ⟨w2, hw2⟩ : ∃ w2, w1.alloc (.cells #[.int .i64 0, .int .i64 0, .int .i64 0, .int .i64 0, .int .i64 0, .int .i64 0] 106) = w2 := ⟨_, rfl⟩
  rw [hw2] at AT2 bel2 hg
  have hle : w.heap.size ≤ w1.heap.size := bel.size
  have HB := Lib.hid bel2
  have HG := Lib.hid hg
  have HL := Lib.hid hle
  obtain ⟨B, D, big, tr, rm, gm, bm, rs, gs, bs⟩ := f
  obtain ⟨_, _, _, _, c4, c5, c6, c7, c8, c9⟩ := AT2
  have s0 := cell_of_row w2 w1.heap.size 0 _ _ _ hg
  have s1 := cell_of_row w2 w1.heap.size 1 _ _ _ hg
  have s2 := cell_of_row w2 w1.heap.size 2 _ _ _ hg
  have s3 := cell_of_row w2 w1.heap.size 3 _ _ _ hg
  have s4 := cell_of_row w2 w1.heap.size 4 _ _ _ hg
  have s5 := cell_of_row w2 w1.heap.size 5 _ _ _ hg
  have fz : ∀ i, w2.frozen? ⟨w1.heap.size, i, none⟩ = false := fun i => frozen_of_row w2 w1.heap.size i _ _ hg
  simp at s0 s1 s2 s3 s4 s5
  unfold Fm.v prtV
  simp only at *
  clear AT bel bel2 hg hle hsz
  go_enter Try.func75, Try.ntmps75
  go_wp2_with fail
  refine bodyPost_ret (Ret.ret_cell rfl _ _ w1.heap.size 106 _ (0, 0) _ rfl (store6 HG.out _ _ _ _ _ _) Try.underlying106 rfl (by kernel_rfl)) rfl ⟨rfl, below_set (below_set (below_set (below_set (below_set (below_set HB.out HL.out _ _) HL.out _ _) HL.out _ _) HL.out _ _) HL.out _ _) HL.out _ _⟩
end Go.Proofs.Ytmjjbapahgejmaa.Fmt
namespace Go.Proofs.Ytmjjbapahgejmaa.Fmt
open Go.ChangeShapes Go.WideShapes Go.ChangeAt Go.RowKit RegVal Oct
set_option linter.unusedVariables false
set_option maxRecDepth 100000

/-- The parts' numbers, one by one. -/
def Fm.pm (f : Fm) (j : Nat) : Int := [f.rm, f.gm, f.bm].getD j 0
def Fm.ps (f : Fm) (j : Nat) : Int := [f.rs, f.gs, f.bs].getD j 0
def Fm.mk1 (f : Fm) (j : Nat) : Nat := top (width (f.pm j)) * 2 ^ (f.ps j).toNat
def Fm.orN (f : Fm) : Nat → Nat
  | 0 => 0
  | j + 1 => f.orN j ||| f.mk1 j
def Fm.okTo (f : Fm) : Nat → Bool
  | 0 => true
  | j + 1 => f.okTo j && (partB f.B (f.pm j) (f.ps j) && decide (f.orN j &&& f.mk1 j = 0))
theorem or_zero {a b : Nat} : a ||| b = 0 ↔ a = 0 ∧ b = 0 := by
  constructor
  · intro h
    have h1 : a ≤ a ||| b := Nat.left_le_or
    have h2 : b ≤ a ||| b := Nat.right_le_or
    omega
  · rintro ⟨rfl, rfl⟩; rfl
theorem ok_to (f : Fm) : f.ok = (f.head && f.okTo 3) := by
  unfold Fm.ok
  cases f.head with
  | false => rfl
  | true =>
  show (true && (partB f.B f.rm f.rs && partB f.B f.gm f.gs && partB f.B f.bm f.bs) && f.side) = (true && (((true && (partB f.B f.rm f.rs && decide (0 &&& f.mk1 0 = 0))) && (partB f.B f.gm f.gs && decide ((0 ||| f.mk1 0) &&& f.mk1 1 = 0))) && (partB f.B f.bm f.bs && decide ((0 ||| f.mk1 0 ||| f.mk1 1) &&& f.mk1 2 = 0))))
  cases h1 : partB f.B f.rm f.rs with
  | false => rfl
  | true =>
  cases h2 : partB f.B f.gm f.gs with
  | false => simp
  | true =>
  cases h3 : partB f.B f.bm f.bs with
  | false => simp
  | true =>
  obtain ⟨k, s, hk, rm, rs, wk, _, _⟩ := part_spec h1
  obtain ⟨j, t, hj, gm, gs, wj, _, _⟩ := part_spec h2
  obtain ⟨l, u, hl, bm, bs, wl, _, _⟩ := part_spec h3
  have e0 : f.mk1 0 = top k * 2 ^ s := by show top (width f.rm) * 2 ^ f.rs.toNat = _; rw [wk, rs]; rfl
  have e1 : f.mk1 1 = top j * 2 ^ t := by show top (width f.gm) * 2 ^ f.gs.toNat = _; rw [wj, gs]; rfl
  have e2 : f.mk1 2 = top l * 2 ^ u := by show top (width f.bm) * 2 ^ f.bs.toNat = _; rw [wl, bs]; rfl
  have z1 := and_zero (s := s) (t := t) hk.1 hj.1
  have z2 := and_zero (s := s) (t := u) hk.1 hl.1
  have z3 := and_zero (s := t) (t := u) hj.1 hl.1
  unfold Fm.side
  rw [wk, wj, wl, rs, gs, bs, e0, e1, e2]
  simp only [Int.toNat_natCast, Nat.zero_or, Nat.zero_and, Nat.and_or_distrib_right, or_zero, z1, z2, z3]
  by_cases a1 : apart s k t j <;> by_cases a2 : apart s k u l <;> by_cases a3 : apart t j u l <;> simp [a1, a2, a3]
theorem okTo_less {f : Fm} {n m : Nat} (h : f.okTo m = true) (hn : n ≤ m) : f.okTo n = true := by
  induction m with
  | zero => have : n = 0 := by omega
            rw [this]; rfl
  | succ m ih =>
    unfold Fm.okTo at h
    rw [Bool.and_eq_true] at h
    rcases Nat.lt_or_ge n (m + 1) with h1 | h1
    · exact ih h.1 (by omega)
    · rw [show n = m + 1 by omega]
      unfold Fm.okTo
      rw [Bool.and_eq_true]
      exact h
theorem okTo_no {f : Fm} {j : Nat} (hj : j < 3) (h : f.okTo (j + 1) = false) : f.ok = false := by
  rw [ok_to]
  have : f.okTo 3 ≠ true := fun h3 => by
    rw [okTo_less h3 (show j + 1 ≤ 3 by omega)] at h
    cases h
  simp at this
  rw [this, Bool.and_false]
theorem orN_lt {f : Fm} {n : Nat} (h : f.okTo n = true) (hb : f.B ≤ 32) : f.orN n < 2 ^ 62 := by
  induction n with
  | zero => exact Nat.two_pow_pos _
  | succ n ih =>
    unfold Fm.okTo at h
    simp only [Bool.and_eq_true] at h
    refine Nat.or_lt_two_pow (ih h.1) ?_
    obtain ⟨k, s, hk, rm, rs, wk, _, ks⟩ := part_spec h.2.1
    unfold Fm.mk1
    rw [wk, rs]
    exact shl_small hk.2 (by omega)
theorem parts_wf {f : Fm} (hf : f.Wf) (j : Nat) : (Lit.int .i64 (f.pm j)).wf = true ∧ (Lit.int .i64 (f.ps j)).wf = true := by
  match j with
  | 0 => exact ⟨hf.rm, hf.rs⟩
  | 1 => exact ⟨hf.gm, hf.gs⟩
  | 2 => exact ⟨hf.bm, hf.bs⟩
  | n + 3 => exact ⟨(by decide : (Lit.int .i64 0).wf = true), (by decide : (Lit.int .i64 0).wf = true)⟩
theorem parts_ix0 (a b c d e g : Int) (w : World) : (Instr.index 106 (.agg #[.int .i64 a, .int .i64 b, .int .i64 c, .int .i64 d, .int .i64 e, .int .i64 g]) (.int .i64 0)).run Try.prog w = .ok (.agg #[.int .i64 a, .int .i64 b]) w := by kernel_rfl
theorem parts_ix1 (a b c d e g : Int) (w : World) : (Instr.index 106 (.agg #[.int .i64 a, .int .i64 b, .int .i64 c, .int .i64 d, .int .i64 e, .int .i64 g]) (.int .i64 1)).run Try.prog w = .ok (.agg #[.int .i64 c, .int .i64 d]) w := by kernel_rfl
theorem parts_ix2 (a b c d e g : Int) (w : World) : (Instr.index 106 (.agg #[.int .i64 a, .int .i64 b, .int .i64 c, .int .i64 d, .int .i64 e, .int .i64 g]) (.int .i64 2)).run Try.prog w = .ok (.agg #[.int .i64 e, .int .i64 g]) w := by kernel_rfl
theorem parts_ix (f : Fm) (j : Nat) (hj : j < 3) (w : World) : (Instr.index 106 (prtV f) (.int .i64 (j : Nat))).run Try.prog w = .ok (.agg #[.int .i64 (f.pm j), .int .i64 (f.ps j)]) w := by
  have h : j = 0 ∨ j = 1 ∨ j = 2 := by omega
  rcases h with rfl | rfl | rfl
  · exact parts_ix0 _ _ _ _ _ _ w
  · exact parts_ix1 _ _ _ _ _ _ w
  · exact parts_ix2 _ _ _ _ _ _ w
theorem i64_orN (a b : Nat) (ha : a < 2 ^ 62) (hb : b < 2 ^ 62) : bits .or .i64 (a : Int) (b : Int) = ((a ||| b : Nat) : Int) := by
  show IntKind.i64.wrap ((BitVec.ofInt 64 (a : Int) ||| BitVec.ofInt 64 (b : Int)).toNat : Int) = _
  rw [BitVec.toNat_or, ofInt_u64 _ (by omega), ofInt_u64 _ (by omega)]
  have : a ||| b < 2 ^ 62 := Nat.or_lt_two_pow ha hb
  exact IntWalk.i64_in _ (by omega)

set_option maxHeartbeats 4000000 in
theorem valid_any (f : Fm) (hf : f.Wf) (w : World) :
    Calls Try.prog 55 #[f.v] w fun e w' => e = .returned (.bool f.ok) ∧ Below w.heap.size w w' := by
  have AT := FmAt.box f w 37
  have bel := (Below.refl w.heap.size w).alloc (Nat.le_refl _) (.cells #[.int .i64 f.B, .int .i64 f.D, .bool f.big, .bool f.tr, .int .i64 f.rm, .int .i64 f.gm, .int .i64 f.bm, .int .i64 f.rs, .int .i64 f.gs, .int .i64 f.bs] 37)
  have hsz : (w.alloc (.cells #[.int .i64 f.B, .int .i64 f.D, .bool f.big, .bool f.tr, .int .i64 f.rm, .int .i64 f.gm, .int .i64 f.bm, .int .i64 f.rs, .int .i64 f.gs, .int .i64 f.bs] 37)).heap.size = w.heap.size + 1 := alloc_size _ _
  obtain ⟨w1, hw1⟩ : ∃ w1, w.alloc (.cells #[.int .i64 f.B, .int .i64 f.D, .bool f.big, .bool f.tr, .int .i64 f.rm, .int .i64 f.gm, .int .i64 f.bm, .int .i64 f.rs, .int .i64 f.gs, .int .i64 f.bs] 37) = w1 := ⟨_, rfl⟩
  rw [hw1] at AT bel hsz
  have HA := Lib.hid (fun W (hW : Below w1.heap.size w1 W) => AT.below hW (by omega))
  have HPM := Lib.hid (fun j => parts_wf hf j)
  have HIX := Lib.hid (fun j hj w => parts_ix f j hj w)
  have HP := Lib.hid (fun w => parts_any f w)
  have HOK := Lib.hid (ok_to f)
  have HNO := Lib.hid (fun j (hj : j < 3) (h : f.okTo (j + 1) = false) => okTo_no hj h)
  have HH : RowKit.Hid (f.head = decide ((f.B = 8 ∨ f.B = 16 ∨ f.B = 32) ∧ 1 ≤ f.D ∧ f.D ≤ f.B ∧ f.tr = true)) := Lib.hid rfl
  have HLT := Lib.hid (fun n (h : f.okTo n = true) (hb : f.B ≤ 32) => orN_lt h hb)
  have HST : RowKit.Hid (∀ j, f.okTo (j + 1) = (f.okTo j && (partB f.B (f.pm j) (f.ps j) && decide (f.orN j &&& f.mk1 j = 0)))) := Lib.hid (fun _ => rfl)
  have HOR : RowKit.Hid (∀ j, f.orN (j + 1) = f.orN j ||| f.mk1 j) := Lib.hid (fun _ => rfl)
  have HMK : RowKit.Hid (∀ j, f.mk1 j = top (width (f.pm j)) * 2 ^ (f.ps j).toNat) := Lib.hid (fun _ => rfl)
  have HO0 : RowKit.Hid (f.orN 0 = 0 ∧ f.okTo 0 = true) := Lib.hid ⟨rfl, rfl⟩
  have HV : f.v = .agg #[.int .i64 f.B, .int .i64 f.D, .bool f.big, .bool f.tr, .int .i64 f.rm, .int .i64 f.gm, .int .i64 f.bm, .int .i64 f.rs, .int .i64 f.gs, .int .i64 f.bs] := rfl
  rw [HV] at HP ⊢
  generalize f.orN = orN at *
  generalize f.okTo = okTo at *
  generalize f.mk1 = mk1 at *
  generalize f.pm = pm at *
  generalize f.ps = ps at *
  generalize prtV f = PV at *
  generalize f.ok = OK at *
  generalize f.head = hd at *
  obtain ⟨c0, c1, c2, c3, c4, c5, c6, c7, c8, c9⟩ := AT
  obtain ⟨B, D, big, tr, rm, gm, bm, rs, gs, bs⟩ := f
  simp only at *
  clear hf HV
  obtain ⟨b8, hb8⟩ : ∃ b8, decide (B = 8 ∨ B = 16 ∨ B = 32) = b8 := ⟨_, rfl⟩
  go_enter Try.func55, Try.ntmps55
  go_upto_region 1 with fail
  go_cut [18] (fun o wx => w1 = wx ∧ o = .bool (!b8))
  case first =>
    by_cases h : B = 8 ∨ B = 16 ∨ B = 32
    · have : b8 = true := by rw [← hb8]; exact decide_eq_true h
      subst this
      clear HA HPM HIX HP HOK HNO HH HLT HST HOR HMK HO0
      rcases h with rfl | rfl | rfl
      all_goals
        go_wp2_with fail
        go_meet
        exact ⟨rfl, rfl⟩
    · have : b8 = false := by rw [← hb8]; exact decide_eq_false h
      subst this
      have x1 : (B != 8) = true := by simpa using fun e => h (.inl e)
      have x2 : (B != 16) = true := by simpa using fun e => h (.inr (.inl e))
      have x3 : (B != 32) = true := by simpa using fun e => h (.inr (.inr e))
      clear HA HPM HIX HP HOK HNO HH HLT HST HOR HMK HO0 h hb8
      go_wp2_with fail
      go_meet
      exact ⟨rfl, rfl⟩
  case rest =>
  obtain ⟨rfl, rfl⟩ := hcut
  have HBB := Lib.hid bel
  cases b8 with
  | false =>
    have hh : hd = false := by rw [HH.out]; exact decide_eq_false fun h => (of_decide_eq_false hb8) h.1
    have hk := HOK.out
    rw [hh] at hk
    have HK := Lib.hid hk
    clear hk hh HA HPM HIX HP HOK HNO HH HLT HST HOR HMK HO0
    go_wp2_with fail
    go_ret
    exact ⟨retB (by rw [HK.out]; rfl), HBB.out⟩
  | true =>
  have hB := of_decide_eq_true hb8
  have hB32 : 0 ≤ B ∧ B ≤ 32 := by omega
  have HB32 := Lib.hid hB32
  clear hB32
  have HBE := Lib.hid hB
  clear hB hb8
  by_cases h1 : D < 1
  · have d1 : decide (D < 1) = true := decide_eq_true h1
    have hh : hd = false := by rw [HH.out]; exact decide_eq_false fun h => by omega
    have hk := HOK.out
    rw [hh] at hk
    have HK := Lib.hid hk
    clear hk hh HA HPM HIX HP HOK HNO HH HLT HST HOR HMK HO0
    go_wp2_with fail
    go_ret
    exact ⟨retB (by rw [HK.out]; rfl), HBB.out⟩
  have d1 : decide (D < 1) = false := decide_eq_false h1
  by_cases h2 : B < D
  · have d2 : decide (B < D) = true := decide_eq_true h2
    have hh : hd = false := by rw [HH.out]; exact decide_eq_false fun h => by omega
    have hk := HOK.out
    rw [hh] at hk
    have HK := Lib.hid hk
    clear hk hh HA HPM HIX HP HOK HNO HH HLT HST HOR HMK HO0
    go_wp2_with fail
    go_ret
    exact ⟨retB (by rw [HK.out]; rfl), HBB.out⟩
  have d2 : decide (B < D) = false := decide_eq_false h2
  cases tr with
  | false =>
    have hh : hd = false := by rw [HH.out]; exact decide_eq_false fun h => by simp at h
    have hk := HOK.out
    rw [hh] at hk
    have HK := Lib.hid hk
    clear hk hh HA HPM HIX HP HOK HNO HH HLT HST HOR HMK HO0
    go_wp2_with fail
    go_ret
    exact ⟨retB (by rw [HK.out]; rfl), HBB.out⟩
  | true =>
  have hh : hd = true := by rw [HH.out]; exact decide_eq_true ⟨HBE.out, by omega, by omega, rfl⟩
  have hk := HOK.out
  rw [hh, Bool.true_and] at hk
  have HK := Lib.hid hk
  clear hk hh HOK HH h1 h2
  go_wp2_with fail
  refine (HP.out _).mono ?_
  rintro r w2 ⟨rfl, b2⟩
  have HB2 := Lib.hid b2
  clear b2 c0 c1 c2 c3 c4 c5 c6 c7 c8 c9 HP
  go_wp2_with fail
  go_loopw [3, 36] (fun u k wr => Below w1.heap.size w1 wr ∧ ∃ j : Nat, j ≤ 3 ∧ k = .int .i64 j ∧ u = .int .i64 (orN j : Nat) ∧ RowKit.Hid (okTo j = true)) (fun _ k _ => 3 - (intOf k).toNat)
  case atStart => exact ⟨HB2.out, 0, by omega, rfl, by rw [HO0.out.1]; rfl, Lib.hid HO0.out.2⟩
  case round =>
    obtain ⟨hbr, j, hj, rfl, rfl, hok⟩ := hrel
    by_cases h3 : j < 3
    · have d3 : decide (j < 3) = true := decide_eq_true h3
      have d3' : decide ((j : Int) < 3) = true := decide_eq_true (by omega)
      have HRB := Lib.hid hbr
      have IX := HIX.out j h3
      have hlt1 := HLT.out j hok.out HB32.out.2
      obtain ⟨bx, kx⟩ := box1 wr #[.int .i64 (pm j), .int .i64 (ps j)] 105
      obtain ⟨W1, hW1⟩ : ∃ W1, wr.alloc (.cells #[.int .i64 (pm j), .int .i64 (ps j)] 105) = W1 := ⟨_, rfl⟩
      rw [hW1] at bx kx
      have k0 := kx 0 _ rfl
      have k1 := kx 1 _ rfl
      have bW := hbr.trans (bx.mono hbr.size)
      obtain ⟨c0, _, _, _, _, _, _, _, _, _⟩ := HA.out W1 bW
      have hszW : W1.heap.size = wr.heap.size + 1 := by rw [← hW1]; exact alloc_size _ _
      have W := Lib.hid (within_any (pm j) (ps j) B (HPM.out j).1 (HPM.out j).2 HB32.out W1)
      have HMKj := HMK.out j
      have HSTj := HST.out j
      have HORj := HOR.out j
      have HSTJ := Lib.hid HSTj
      have HORJ := Lib.hid HORj
      have HMKJ := Lib.hid HMKj
      have KB := Lib.hid (fun W' (h : Below W1.heap.size W1 W') => And.intro ((h.cell (p := ⟨wr.heap.size, 0, none⟩) (by show wr.heap.size < _; omega)).trans k0) ((h.cell (p := ⟨wr.heap.size, 1, none⟩) (by show wr.heap.size < _; omega)).trans k1))
      have BW := Lib.hid bW
      have HLT1 := Lib.hid hlt1
      clear kx bx hbr bW HMKj HSTj HORj hszW hlt1 HIX HPM HRB
      obtain ⟨p, hp⟩ : ∃ p, partB B (pm j) (ps j) = p := ⟨_, rfl⟩
      have HP := Lib.hid hp
      rw [hp] at W
      clear hp
      go_wp2_with fail
      refine W.out.mono ?_
      rintro r w3 ⟨rfl, b3⟩
      have B3 := Lib.hid (BW.out.trans (b3.mono BW.out.size))
      obtain ⟨q0, q1⟩ := KB.out _ b3
      have BB3 := Lib.hid b3
      clear W b3 c0 k0 k1 hW1
      cases p with
      | false =>
        have hno := HNO.out j h3 (by rw [HSTJ.out, HP.out]; simp)
        have HN := Lib.hid hno
        clear hno
        go_wp2_with fail
        go_ret
        exact ⟨retB (by rw [HN.out]), HBB.out.trans (B3.out.mono HBB.out.size)⟩
      | true =>
      obtain ⟨k, s, hk, rm', rs', wk, s1, ks⟩ := part_spec HP.out
      have hmk : mk1 j = top k * 2 ^ s := by rw [HMKJ.out, wk, rs']; rfl
      have M := Lib.hid (fun w => mask_any (top k) s (top_small hk.2) s1 w)
      have hsm := shl_small hk.2 s1
      have ha := i64_and (orN j) (top k * 2 ^ s) HLT1.out hsm
      have ho := i64_orN (orN j) (top k * 2 ^ s) HLT1.out hsm
      rw [rm', rs'] at q0 q1 KB
      rw [← hmk] at M ha ho
      clear hmk hsm HMKJ HMK rm' rs' IX
      generalize top k = tk at *
      have HHO := Lib.hid ho
      clear ho
      go_wp2_with fail
      refine (M.out _).mono ?_
      rintro r w4 ⟨rfl, b4⟩
      have b34 := BB3.out.trans (b4.mono BB3.out.size)
      obtain ⟨r0, r1⟩ := KB.out _ b34
      have B34 := Lib.hid b34
      have B4 := Lib.hid (BW.out.trans (b34.mono BW.out.size))
      clear b34 b4 q0 q1
      by_cases hz : orN j &&& mk1 j = 0
      · rw [hz] at ha
        have ho := HHO.out
        rw [← HORJ.out] at ho
        have hok2 : okTo (j + 1) = true := by rw [HSTJ.out, hok.out, HP.out, hz]; simp
        have HOK2 := Lib.hid hok2
        clear hok2 HSTJ HORJ HHO
        go_wp2_with fail
        refine (M.out _).mono ?_
        rintro r w5 ⟨rfl, b5⟩
        have B5 := Lib.hid (B4.out.trans (b5.mono B4.out.size))
        clear b5
        go_wp2_with fail
        exact ⟨⟨B5.out, j + 1, by omega, by go_num, rfl, HOK2⟩, by simp [intOf]; omega⟩
      · have hne : (bits .and .i64 (orN j : Nat) (mk1 j : Nat) != 0) = true := by
          rw [ha]
          simpa using hz
        have hno := HNO.out j h3 (by rw [HSTJ.out]; simp [hz])
        have HN := Lib.hid hno
        clear hno ha
        go_wp2_with fail
        go_ret
        exact ⟨retB (by rw [HN.out]), HBB.out.trans (B4.out.mono HBB.out.size)⟩
    · obtain rfl : j = 3 := by omega
      have HR := Lib.hid hbr
      clear hbr
      go_wp2_with fail
      go_ret
      exact ⟨retB (by rw [HK.out, hok.out]), HBB.out.trans (HR.out.mono HBB.out.size)⟩
end Go.Proofs.Ytmjjbapahgejmaa.Fmt
namespace Go.Proofs.Ytmjjbapahgejmaa.Fmt
open Go.ChangeShapes Go.WideShapes Go.ChangeAt Go.RowKit RegVal Oct
set_option linter.unusedVariables false
set_option maxRecDepth 100000

theorem standard_any (w : World) :
    Calls Try.prog 25 #[] w fun e w' => e = .returned Fm.std.v ∧ Below w.heap.size w w' := by
  have bel := (Below.refl w.heap.size w).alloc (Nat.le_refl _) (.cells #[.int .i64 32, .int .i64 24, .bool false, .bool true, .int .i64 255, .int .i64 255, .int .i64 255, .int .i64 16, .int .i64 8, .int .i64 0] 37)
  go_enter Try.func25, Try.ntmps25
  go_wp2_with fail
  refine bodyPost_ret (Ret.ret_cell rfl _ _ w.heap.size 37 _ (0, 0) _ rfl (heap_alloc_new _ _) Try.underlying37 rfl (by kernel_rfl)) rfl ⟨rfl, bel⟩

theorem size_any (f : Fm) (hf : f.Wf) (w : World) :
    Calls Try.prog 24 #[f.v] w fun e w' => e = .returned (.int .i64 (f.size : Nat)) ∧ Below w.heap.size w w' := by
  have AT := FmAt.box f w 37
  have bel := (Below.refl w.heap.size w).alloc (Nat.le_refl _) (.cells #[.int .i64 f.B, .int .i64 f.D, .bool f.big, .bool f.tr, .int .i64 f.rm, .int .i64 f.gm, .int .i64 f.bm, .int .i64 f.rs, .int .i64 f.gs, .int .i64 f.bs] 37)
  have hsz : (w.alloc (.cells #[.int .i64 f.B, .int .i64 f.D, .bool f.big, .bool f.tr, .int .i64 f.rm, .int .i64 f.gm, .int .i64 f.bm, .int .i64 f.rs, .int .i64 f.gs, .int .i64 f.bs] 37)).heap.size = w.heap.size + 1 := alloc_size _ _
  obtain ⟨w1, hw1⟩ : ∃ w1, w.alloc (.cells #[.int .i64 f.B, .int .i64 f.D, .bool f.big, .bool f.tr, .int .i64 f.rm, .int .i64 f.gm, .int .i64 f.bm, .int .i64 f.rs, .int .i64 f.gs, .int .i64 f.bs] 37) = w1 := ⟨_, rfl⟩
  rw [hw1] at AT bel hsz
  have HA := Lib.hid (fun W (hW : Below w1.heap.size w1 W) => AT.below hW (by omega))
  have V := Lib.hid (fun w => valid_any f hf w)
  have HS : RowKit.Hid (f.size = if f.ok then (f.B / 8).toNat else 0) := Lib.hid rfl
  have HBD : RowKit.Hid (f.ok = true → 8 ≤ f.B ∧ f.B ≤ 32) := Lib.hid (fun h => by
    obtain ⟨k, j, l, s, t, u, n, H⟩ := f.is h
    have := H.B
    have := H.hn
    omega)
  have HV : f.v = .agg #[.int .i64 f.B, .int .i64 f.D, .bool f.big, .bool f.tr, .int .i64 f.rm, .int .i64 f.gm, .int .i64 f.bm, .int .i64 f.rs, .int .i64 f.gs, .int .i64 f.bs] := rfl
  rw [HV] at V ⊢
  generalize f.ok = OK at *
  generalize f.size = Z at *
  obtain ⟨c0, c1, c2, c3, c4, c5, c6, c7, c8, c9⟩ := AT
  obtain ⟨B, D, big, tr, rm, gm, bm, rs, gs, bs⟩ := f
  simp only at *
  have BEL := Lib.hid bel
  clear hf HV
  go_enter Try.func24, Try.ntmps24
  go_wp2_with fail
  refine (V.out _).mono ?_
  rintro r w2 ⟨rfl, b2⟩
  have B2 := Lib.hid (BEL.out.trans (b2.mono BEL.out.size))
  obtain ⟨e0, _⟩ := HA.out _ b2
  clear b2 V c0 c1 c2 c3 c4 c5 c6 c7 c8 c9 HA
  cases OK with
  | false =>
    have hs := HS.out
    simp only [Bool.false_eq_true, if_false] at hs
    have HZ := Lib.hid hs
    clear hs HS
    go_wp2_with fail
    go_ret
    exact ⟨retI (by rw [HZ.out]; rfl), B2.out⟩
  | true =>
    have hb := HBD.out rfl
    have hs := HS.out
    simp only [if_true] at hs
    have HZ := Lib.hid hs
    have HB := Lib.hid hb
    have q1 : IntKind.i64.wrap (B.tdiv 8) = B / 8 := IntWalk.i64_quo _ _ (by omega)
    clear hs HS
    go_wp2_with fail
    go_ret
    exact ⟨retI (by rw [HZ.out]; have := HB.out; omega), B2.out⟩
end Go.Proofs.Ytmjjbapahgejmaa.Fmt
namespace Go.Proofs.Ytmjjbapahgejmaa.Fmt
open Go.ChangeShapes Go.WideShapes Go.ChangeAt Go.RowKit RegVal Oct
set_option linter.unusedVariables false
set_option maxRecDepth 100000

theorem valN {k : IntKind} {a b : Int} (h : a = b) : Value.int k a = Value.int k b := by rw [h]
/-- What a round computes of a part p, with a the greatest number and P the place. -/
theorem down_round {p a s : Nat} (hp : p ≤ 255) (ha : a ≤ 65535) (hs : s ≤ 32) :
    ∃ P X D : Nat, (2 : Int) ^ s = P ∧ (p : Int) * a = X ∧ X ≤ 16711425 ∧ ((X : Int) + 127) / 255 = D ∧ IntKind.i64.wrap ((D : Int) * P) = (downN p a * 2 ^ s : Nat) ∧ wrap64 ((D : Int) * P) = (downN p a * 2 ^ s : Nat) ∧ downN p a * 2 ^ s < 2 ^ 62 := by
  obtain ⟨P, hP, hP2, hP3, hP4⟩ := pow_int hs
  have hd := down_le (m := a) hp
  have hm := mul_small (show downN p a ≤ 65535 by omega) hP4
  have hpa : p * a ≤ 255 * 65535 := Nat.mul_le_mul hp ha
  refine ⟨P, p * a, downN p a, hP, by simp, hpa, by unfold downN; simp, ?_, ?_, by rw [← hP2]; omega⟩
  · rw [← Int.natCast_mul, hP2]; exact IntWalk.i64_in _ (by rw [← hP2]; omega)
  · rw [← Int.natCast_mul, hP2]; exact IntWalk.wrap64_in _ (by rw [← hP2]; omega)

set_option maxHeartbeats 4000000 in
theorem value_any (f : Fm) (hf : f.Wf) (c : Int) (hc : (Lit.int .i64 c).wf = true) (w : World) :
    Calls Try.prog 81 #[f.v, .int .i64 c] w fun e w' => e = .returned (.int .i64 (f.valI c)) ∧ Below w.heap.size w w' := by
  have AT := FmAt.box f w 37
  have bel := (Below.refl w.heap.size w).alloc (Nat.le_refl _) (.cells #[.int .i64 f.B, .int .i64 f.D, .bool f.big, .bool f.tr, .int .i64 f.rm, .int .i64 f.gm, .int .i64 f.bm, .int .i64 f.rs, .int .i64 f.gs, .int .i64 f.bs] 37)
  have hsz : (w.alloc (.cells #[.int .i64 f.B, .int .i64 f.D, .bool f.big, .bool f.tr, .int .i64 f.rm, .int .i64 f.gm, .int .i64 f.bm, .int .i64 f.rs, .int .i64 f.gs, .int .i64 f.bs] 37)).heap.size = w.heap.size + 1 := alloc_size _ _
  obtain ⟨w1, hw1⟩ : ∃ w1, w.alloc (.cells #[.int .i64 f.B, .int .i64 f.D, .bool f.big, .bool f.tr, .int .i64 f.rm, .int .i64 f.gm, .int .i64 f.bm, .int .i64 f.rs, .int .i64 f.gs, .int .i64 f.bs] 37) = w1 := ⟨_, rfl⟩
  rw [hw1] at AT bel hsz
  have HA := Lib.hid (fun W (hW : Below w1.heap.size w1 W) => AT.below hW (by omega))
  have V := Lib.hid (fun w => valid_any f hf w)
  have PT := Lib.hid (fun w => parts_any f w)
  have HVI : RowKit.Hid (f.valI c = if f.ok then ((f.val c : Nat) : Int) else 0) := Lib.hid rfl
  have HV : f.v = .agg #[.int .i64 f.B, .int .i64 f.D, .bool f.big, .bool f.tr, .int .i64 f.rm, .int .i64 f.gm, .int .i64 f.bm, .int .i64 f.rs, .int .i64 f.gs, .int .i64 f.bs] := rfl
  have HIS := Lib.hid (fun (h : f.ok = true) => f.is h)
  have HVE : RowKit.Hid (∀ k j l s t u n : Nat, f.Is k j l s t u n → f.val c = valueN k j l s t u (colZ c)) := Lib.hid (fun k j l s t u n H => H.val_eq c)
  have HPV : prtV f = .agg #[.int .i64 f.rm, .int .i64 f.rs, .int .i64 f.gm, .int .i64 f.gs, .int .i64 f.bm, .int .i64 f.bs] := rfl
  rw [HV] at V PT ⊢
  rw [HPV] at PT
  have BEL := Lib.hid bel
  have AT' := AT
  obtain ⟨c0, c1, c2, c3, c4, c5, c6, c7, c8, c9⟩ := AT'
  clear hf HV AT HPV
  generalize f.val c = VC at *
  generalize f.valI c = VI at *
  cases hok : f.ok with
  | false =>
    have hs := HVI.out
    rw [hok] at hs V
    simp only [Bool.false_eq_true, if_false] at hs
    have HZ := Lib.hid hs
    clear hs HVI HIS HVE hok PT
    go_enter Try.func81, Try.ntmps81
    go_wp2_with fail
    refine (V.out _).mono ?_
    rintro r w2 ⟨rfl, b2⟩
    have B2 := Lib.hid (BEL.out.trans (b2.mono BEL.out.size))
    clear b2 c0 c1 c2 c3 c4 c5 c6 c7 c8 c9
    go_wp2_with fail
    go_ret
    exact ⟨retI (by rw [HZ.out]), B2.out⟩
  | true =>
  obtain ⟨k, j, l, s, t, u, n, H⟩ := HIS.out hok
  have hs := HVI.out
  rw [hok] at hs V
  simp only [if_true] at hs
  rw [HVE.out _ _ _ _ _ _ _ H] at hs
  have hN := H.three.hn
  have s1 : s ≤ 32 := by have := H.three.hs; omega
  have s2 : t ≤ 32 := by have := H.three.ht; omega
  have s3 : u ≤ 32 := by have := H.three.hu; omega
  have hsum := sum_or H.three (a := downN (colZ c / 65536 % 256) (top k)) (b := downN (colZ c / 256 % 256) (top j)) (c := downN (colZ c % 256) (top l)) (down_le (byte_le _)) (down_le (byte_le _)) (down_le (byte_le _))
  obtain ⟨P0, X0, D0, g0, m0, x0, y0, z0, u0, l0⟩ := down_round (byte_le (colZ c)) (top_small H.hl.2) s3
  obtain ⟨P1, X1, D1, g1, m1, x1, y1, z1, u1, l1⟩ := down_round (byte_le (colZ c / 256)) (top_small H.hj.2) s2
  obtain ⟨P2, X2, D2, g2, m2, x2, y2, z2, u2, l2⟩ := down_round (byte_le (colZ c / 65536)) (top_small H.hk.2) s1
  obtain ⟨q2, q1, q0⟩ := colZ_parts c
  have hp0 := byte_le (colZ c)
  have hp1 := byte_le (colZ c / 256)
  have hp2 := byte_le (colZ c / 65536)
  have hval : VI = (downN (colZ c % 256) (top l) * 2 ^ u ||| downN (colZ c / 256 % 256) (top j) * 2 ^ t ||| downN (colZ c / 65536 % 256) (top k) * 2 ^ s : Nat) := by
    rw [hs]
    unfold valueN
    rw [hsum, Nat.or_comm (downN (colZ c / 65536 % 256) (top k) * 2 ^ s), Nat.or_comm, ← Nat.or_assoc]
  have HVAL := Lib.hid hval
  have tk := top_small H.hk.2
  have tj := top_small H.hj.2
  have tl := top_small H.hl.2
  have hf1 := H.rm
  have hf2 := H.gm
  have hf3 := H.bm
  have hf4 := H.rs
  have hf5 := H.gs
  have hf6 := H.bs
  clear hval hs hsum HVI HIS HVE hok H hN
  obtain ⟨B, D, big, tr, rm, gm, bm, rs, gs, bs⟩ := f
  simp only at *
  subst hf1 hf2 hf3 hf4 hf5 hf6
  generalize downN (colZ c % 256) (top l) * 2 ^ u = e0 at *
  generalize downN (colZ c / 256 % 256) (top j) * 2 ^ t = e1 at *
  generalize downN (colZ c / 65536 % 256) (top k) * 2 ^ s = e2 at *
  generalize colZ c % 256 = p0 at *
  generalize colZ c / 256 % 256 = p1 at *
  generalize colZ c / 65536 % 256 = p2 at *
  generalize top l = ml at *
  generalize top j = mj at *
  generalize top k = mk at *
  go_enter Try.func81, Try.ntmps81
  go_wp2_with fail
  refine (V.out _).mono ?_
  rintro r w2 ⟨rfl, b2⟩
  have B2 := Lib.hid (BEL.out.trans (b2.mono BEL.out.size))
  obtain ⟨c0, c1, c2, c3, c4, c5, c6, c7, c8, c9⟩ := HA.out _ b2
  clear b2 HA
  go_wp2_with fail
  refine (PT.out _).mono ?_
  rintro r w3 ⟨rfl, b3⟩
  have B3 := Lib.hid (B2.out.trans (b3.mono B2.out.size))
  clear b3 V PT c0 c1 c2 c3 c4 c5 c6 c7 c8 c9
  obtain ⟨bx, kx⟩ := box1 w3 #[.int .i64 mk, .int .i64 s, .int .i64 mj, .int .i64 t, .int .i64 ml, .int .i64 u] 106
  have hsz4 := alloc_size w3 (.cells #[.int .i64 mk, .int .i64 s, .int .i64 mj, .int .i64 t, .int .i64 ml, .int .i64 u] 106)
  have hW4 : ∃ W4, w3.alloc (.cells #[.int .i64 mk, .int .i64 s, .int .i64 mj, .int .i64 t, .int .i64 ml, .int .i64 u] 106) = W4 := ⟨_, rfl⟩
  have B4 := Lib.hid (B3.out.trans (bx.mono B3.out.size))
  have K := Lib.hid (fun i v (h : #[Value.int .i64 mk, .int .i64 s, .int .i64 mj, .int .i64 t, .int .i64 ml, .int .i64 u][i]? = some v) W' (hb : Below (w3.alloc (.cells #[.int .i64 mk, .int .i64 s, .int .i64 mj, .int .i64 t, .int .i64 ml, .int .i64 u] 106)).heap.size (w3.alloc (.cells #[.int .i64 mk, .int .i64 s, .int .i64 mj, .int .i64 t, .int .i64 ml, .int .i64 u] 106)) W') => (hb.cell (p := ⟨w3.heap.size, i, none⟩) (by rw [hsz4]; exact Nat.lt_succ_self _)).trans (kx i v h))
  clear kx bx hsz4
  go_wp2_with fail
  generalize w3.heap.size = g at *
  obtain ⟨W4, hW4⟩ := hW4
  rw [hW4] at B4 K ⊢
  clear hW4 hw1 hsz
  go_loopw [6, 15] (fun v i wr => Below W4.heap.size W4 wr ∧ ((i = .int .i64 0 ∧ v = .int .i64 0) ∨ (i = .int .i64 1 ∧ v = .int .i64 e0) ∨ (i = .int .i64 2 ∧ v = .int .i64 (e0 ||| e1 : Nat)) ∨ (i = .int .i64 3 ∧ v = .int .i64 (e0 ||| e1 ||| e2 : Nat)))) (fun _ i _ => 3 - (intOf i).toNat)
  case atStart => exact ⟨Below.refl _ _, .inl ⟨rfl, rfl⟩⟩
  case round =>
    obtain ⟨hbr, hj⟩ := hrel
    have HR := Lib.hid hbr
    have l01 : e0 ||| e1 < 2 ^ 62 := Nat.or_lt_two_pow l0 l1
    have o0 := i64_orN 0 e0 (by decide) l0
    have o1 := i64_orN e0 e1 l0 l1
    have o2 := i64_orN (e0 ||| e1) e2 l01 l2
    rw [Nat.zero_or] at o0
    have z := hbr.size
    clear l01 l0 l1 l2
    rcases hj with ⟨rfl, rfl⟩ | ⟨rfl, rfl⟩ | ⟨rfl, rfl⟩ | ⟨rfl, rfl⟩
    · have k4 := K.out 4 _ rfl wr hbr
      have k5 := K.out 5 _ rfl wr hbr
      clear hbr
      go_wp2_with fail
      exact ⟨⟨HR.out.alloc z _, .inr (.inl ⟨rfl, valN o0⟩)⟩, by simp [intOf]⟩
    · have k2 := K.out 2 _ rfl wr hbr
      have k3 := K.out 3 _ rfl wr hbr
      clear hbr
      go_wp2_with fail
      exact ⟨⟨HR.out.alloc z _, .inr (.inr (.inl ⟨rfl, rfl⟩))⟩, by simp [intOf]⟩
    · have k0 := K.out 0 _ rfl wr hbr
      have k1 := K.out 1 _ rfl wr hbr
      clear hbr
      go_wp2_with fail
      exact ⟨⟨HR.out.alloc z _, .inr (.inr (.inr ⟨rfl, rfl⟩))⟩, by simp [intOf]⟩
    · clear hbr
      go_wp2_with fail
      go_ret
      exact ⟨retI HVAL.out.symm, B4.out.trans (HR.out.mono B4.out.size)⟩
end Go.Proofs.Ytmjjbapahgejmaa.Fmt
namespace Go.Proofs.Ytmjjbapahgejmaa.Fmt
open Go.ChangeShapes Go.WideShapes Go.ChangeAt Go.RowKit RegVal Oct
set_option linter.unusedVariables false
set_option maxRecDepth 100000

/-- What a round reads of a value v: a part, and what it computes of it. -/
theorem up_round {v : Int} {k s : Nat} (hk : 1 ≤ k ∧ k ≤ 16) (hs : s ≤ 32) :
    ∃ P h : Nat, (2 : Int) ^ s = P ∧ 1 ≤ P ∧ P ≤ 4294967296 ∧ bits .and .i64 (v / P) (top k : Nat) = (getZ v k s : Nat) ∧ ((top k : Nat) : Int) / 2 = h ∧ h ≤ 65535 ∧ ((getZ v k s : Int) * 255 + h) / (top k : Nat) = (upN (getZ v k s) (top k) : Nat) ∧ upN (getZ v k s) (top k) ≤ 255 ∧ getZ v k s ≤ 65535 ∧ 1 ≤ top k ∧ top k ≤ 65535 := by
  obtain ⟨P, hP, hP2, hP3, hP4⟩ := pow_int hs
  have hg := getZ_le v k s
  have ht := top_small hk.2
  have ht1 := top_pos hk.1
  refine ⟨P, top k / 2, hP, hP3, hP4, ?_, by simp, by omega, by unfold upN; simp, up_le hg ht1, by omega, ht1, ht⟩
  have h1 : ((top k : Nat) : Int) = 2 ^ k - 1 := by
    unfold top
    have := Nat.one_le_two_pow (n := k)
    have e : ((2 ^ k : Nat) : Int) = 2 ^ k := by simp
    omega
  rw [h1, Bit.i64_mask _ k (by omega)]
  unfold getZ
  rw [← hP]
  have : 0 ≤ v / 2 ^ s % 2 ^ k := Int.emod_nonneg _ (Int.ne_of_gt (Int.pow_pos (by decide)))
  omega
theorem or_low {x b : Nat} (hx : x ≤ 65535) (hb : b ≤ 255) : bits .or .i64 ((x : Int) * 256) (b : Int) = ((x * 256 + b : Nat) : Int) := by
  rw [bits_or_comm, show (x : Int) * 256 = ((x * 256 : Nat) : Int) by simp, Bit.i64_or b (x * 256) 8 (by omega) (by omega) (by omega) (by decide), Nat.add_comm]

set_option maxHeartbeats 4000000 in
theorem colour_any (f : Fm) (hf : f.Wf) (c : Int) (hc : (Lit.int .i64 c).wf = true) (w : World) :
    Calls Try.prog 48 #[f.v, .int .i64 c] w fun e w' => e = .returned (.int .i64 (f.colI c)) ∧ Below w.heap.size w w' := by
  have AT := FmAt.box f w 37
  have bel := (Below.refl w.heap.size w).alloc (Nat.le_refl _) (.cells #[.int .i64 f.B, .int .i64 f.D, .bool f.big, .bool f.tr, .int .i64 f.rm, .int .i64 f.gm, .int .i64 f.bm, .int .i64 f.rs, .int .i64 f.gs, .int .i64 f.bs] 37)
  have hsz : (w.alloc (.cells #[.int .i64 f.B, .int .i64 f.D, .bool f.big, .bool f.tr, .int .i64 f.rm, .int .i64 f.gm, .int .i64 f.bm, .int .i64 f.rs, .int .i64 f.gs, .int .i64 f.bs] 37)).heap.size = w.heap.size + 1 := alloc_size _ _
  obtain ⟨w1, hw1⟩ : ∃ w1, w.alloc (.cells #[.int .i64 f.B, .int .i64 f.D, .bool f.big, .bool f.tr, .int .i64 f.rm, .int .i64 f.gm, .int .i64 f.bm, .int .i64 f.rs, .int .i64 f.gs, .int .i64 f.bs] 37) = w1 := ⟨_, rfl⟩
  rw [hw1] at AT bel hsz
  have HA := Lib.hid (fun W (hW : Below w1.heap.size w1 W) => AT.below hW (by omega))
  have V := Lib.hid (fun w => valid_any f hf w)
  have PT := Lib.hid (fun w => parts_any f w)
  have HVI : RowKit.Hid (f.colI c = if f.ok then ((f.col c : Nat) : Int) else 0) := Lib.hid rfl
  have HV : f.v = .agg #[.int .i64 f.B, .int .i64 f.D, .bool f.big, .bool f.tr, .int .i64 f.rm, .int .i64 f.gm, .int .i64 f.bm, .int .i64 f.rs, .int .i64 f.gs, .int .i64 f.bs] := rfl
  have HIS := Lib.hid (fun (h : f.ok = true) => f.is h)
  have HVE : RowKit.Hid (∀ k j l s t u n : Nat, f.Is k j l s t u n → f.col c = colourZ k j l s t u c) := Lib.hid (fun k j l s t u n H => H.col_eq c)
  have HPV : prtV f = .agg #[.int .i64 f.rm, .int .i64 f.rs, .int .i64 f.gm, .int .i64 f.gs, .int .i64 f.bm, .int .i64 f.bs] := rfl
  rw [HV] at V PT ⊢
  rw [HPV] at PT
  have BEL := Lib.hid bel
  have AT' := AT
  obtain ⟨c0, c1, c2, c3, c4, c5, c6, c7, c8, c9⟩ := AT'
  clear hf HV AT HPV
  generalize f.col c = VC at *
  generalize f.colI c = VI at *
  cases hok : f.ok with
  | false =>
    have hs := HVI.out
    rw [hok] at hs V
    simp only [Bool.false_eq_true, if_false] at hs
    have HZ := Lib.hid hs
    clear hs HVI HIS HVE hok PT
    go_enter Try.func48, Try.ntmps48
    go_wp2_with fail
    refine (V.out _).mono ?_
    rintro r w2 ⟨rfl, b2⟩
    have B2 := Lib.hid (BEL.out.trans (b2.mono BEL.out.size))
    clear b2 c0 c1 c2 c3 c4 c5 c6 c7 c8 c9
    go_wp2_with fail
    go_ret
    exact ⟨retI (by rw [HZ.out]), B2.out⟩
  | true =>
  obtain ⟨k, j, l, s, t, u, n, H⟩ := HIS.out hok
  have hs := HVI.out
  rw [hok] at hs V
  simp only [if_true] at hs
  rw [HVE.out _ _ _ _ _ _ _ H] at hs
  have hN := H.three.hn
  have s1 : s ≤ 32 := by have := H.three.hs; omega
  have s2 : t ≤ 32 := by have := H.three.ht; omega
  have s3 : u ≤ 32 := by have := H.three.hu; omega
  obtain ⟨P0, h0, g0, a0, b0, n0, d0, i0, u0, v0, x0, y0, z0⟩ := up_round (v := c) H.hk s1
  obtain ⟨P1, h1, g1, a1, b1, n1, d1, i1, u1, v1, x1, y1, z1⟩ := up_round (v := c) H.hj s2
  obtain ⟨P2, h2, g2, a2, b2, n2, d2, i2, u2, v2, x2, y2, z2⟩ := up_round (v := c) H.hl s3
  have hval : VI = ((upN (getZ c k s) (top k) * 256 + upN (getZ c j t) (top j)) * 256 + upN (getZ c l u) (top l) : Nat) := by
    rw [hs]
    unfold colourZ colN
    omega
  have HVAL := Lib.hid hval
  have hf1 := H.rm
  have hf2 := H.gm
  have hf3 := H.bm
  have hf4 := H.rs
  have hf5 := H.gs
  have hf6 := H.bs
  clear hval hs HVI HIS HVE hok H hN
  obtain ⟨B, D, big, tr, rm, gm, bm, rs, gs, bs⟩ := f
  simp only at *
  subst hf1 hf2 hf3 hf4 hf5 hf6
  generalize upN (getZ c k s) (top k) = U0 at *
  generalize upN (getZ c j t) (top j) = U1 at *
  generalize upN (getZ c l u) (top l) = U2 at *
  generalize getZ c k s = p0 at *
  generalize getZ c j t = p1 at *
  generalize getZ c l u = p2 at *
  generalize top l = ml at *
  generalize top j = mj at *
  generalize top k = mk at *
  have O1 := or_low (x := U0) (b := U1) (by omega) v1
  obtain ⟨X, hX⟩ : ∃ X, U0 * 256 + U1 = X := ⟨_, rfl⟩
  have hXb : X ≤ 65535 := by omega
  have O2 := or_low (x := X) (b := U2) (by omega) v2
  rw [hX] at O1
  have hv := HVAL.out
  rw [hX] at hv
  have HVX := Lib.hid hv
  have O0 := i64_orN 0 U0 (by decide) (by omega)
  rw [Nat.zero_or] at O0
  clear hv HVAL hX
  have j0 := fun w => parts_ix0 mk s mj t ml u w
  have j1 := fun w => parts_ix1 mk s mj t ml u w
  have j2 := fun w => parts_ix2 mk s mj t ml u w
  go_enter Try.func48, Try.ntmps48
  go_wp2_with fail
  refine (V.out _).mono ?_
  rintro r w2 ⟨rfl, b2⟩
  have B2 := Lib.hid (BEL.out.trans (b2.mono BEL.out.size))
  obtain ⟨c0, c1, c2, c3, c4, c5, c6, c7, c8, c9⟩ := HA.out _ b2
  clear b2 HA
  go_wp2_with fail
  refine (PT.out _).mono ?_
  rintro r w3 ⟨rfl, b3⟩
  have B3 := Lib.hid (B2.out.trans (b3.mono B2.out.size))
  clear b3 V PT c0 c1 c2 c3 c4 c5 c6 c7 c8 c9
  go_wp2_with fail
  clear hw1 hsz
  go_loopw [5, 14] (fun v i wr => Below w3.heap.size w3 wr ∧ ((i = .int .i64 0 ∧ v = .int .i64 0) ∨ (i = .int .i64 1 ∧ v = .int .i64 U0) ∨ (i = .int .i64 2 ∧ v = .int .i64 X) ∨ (i = .int .i64 3 ∧ v = .int .i64 (X * 256 + U2 : Nat)))) (fun _ i _ => 3 - (intOf i).toNat)
  case atStart => exact ⟨Below.refl _ _, .inl ⟨rfl, rfl⟩⟩
  case round =>
    obtain ⟨hbr, hj⟩ := hrel
    have HR := Lib.hid hbr
    have z := hbr.size
    clear hbr
    rcases hj with ⟨rfl, rfl⟩ | ⟨rfl, rfl⟩ | ⟨rfl, rfl⟩ | ⟨rfl, rfl⟩
    · go_wp2_with fail
      go_quiet (fail)
      go_wp2_with fail
      exact ⟨⟨below_q (HR.out.alloc z _) _, .inr (.inl ⟨rfl, valN O0⟩)⟩, by simp [intOf]⟩
    · go_wp2_with fail
      go_quiet (fail)
      go_wp2_with fail
      exact ⟨⟨below_q (HR.out.alloc z _) _, .inr (.inr (.inl ⟨rfl, rfl⟩))⟩, by simp [intOf]⟩
    · go_wp2_with fail
      go_quiet (fail)
      go_wp2_with fail
      exact ⟨⟨below_q (HR.out.alloc z _) _, .inr (.inr (.inr ⟨rfl, rfl⟩))⟩, by simp [intOf]⟩
    · go_wp2_with fail
      go_ret
      exact ⟨retI HVX.out.symm, B3.out.trans (HR.out.mono B3.out.size)⟩

theorem valI_wf (f : Fm) (c : Int) : (Lit.int .i64 (f.valI c)).wf = true := by
  unfold Fm.valI
  cases hok : f.ok with
  | false => exact (by decide : (Lit.int .i64 0).wf = true)
  | true =>
    obtain ⟨k, j, l, s, t, u, n, H⟩ := f.is hok
    have h := (val_le H c).2.2
    have h32 : 2 ^ n ≤ 2 ^ 32 := Nat.pow_le_pow_right (by decide) H.three.hn
    have h33 : (2 : Nat) ^ 32 = 4294967296 := by decide
    simp only [if_true]
    generalize f.val c = x at *
    simp only [Lit.wf, IntKind.min, IntKind.max, IntKind.signed, IntKind.bits, Bool.and_eq_true, decide_eq_true_eq, if_true]
    omega
theorem colI_valI (f : Fm) (c : Int) : f.colI (f.valI c) = f.leftI c := by
  unfold Fm.colI Fm.valI Fm.leftI
  by_cases h : f.ok = true
  · rw [if_pos h, if_pos h, if_pos h]; rfl
  · rw [if_neg h, if_neg h]
end Go.Proofs.Ytmjjbapahgejmaa.Fmt
namespace Go.Proofs.Ytmjjbapahgejmaa.Fmt
open Go.ChangeShapes Go.WideShapes Go.ChangeAt Go.RowKit RegVal Oct
set_option linter.unusedVariables false
set_option maxRecDepth 100000

theorem byt_cong {x y : Int} {i : Nat} (h : x / 2 ^ (8 * i) % 256 = y / 2 ^ (8 * i) % 256) : byt x i = byt y i := by unfold byt; rw [h]
theorem leL_cong {n : Nat} (hn : n ≤ 4) {x y : Int} (h : x % 2 ^ (8 * n) = y % 2 ^ (8 * n)) : leL n x = leL n y := by
  unfold leL
  apply List.map_congr_left
  intro i hi
  rw [List.mem_range] at hi
  have hc : n = 0 ∨ n = 1 ∨ n = 2 ∨ n = 3 ∨ n = 4 := by omega
  have ic : i = 0 ∨ i = 1 ∨ i = 2 ∨ i = 3 := by omega
  apply byt_cong
  rcases hc with rfl | rfl | rfl | rfl | rfl <;> rcases ic with rfl | rfl | rfl | rfl <;> first | omega | (simp at h ⊢; omega)
theorem putL_cong (big : Bool) {n : Nat} (hn : n ≤ 4) {x y : Int} (h : x % 2 ^ (8 * n) = y % 2 ^ (8 * n)) : putL big n x = putL big n y := by
  unfold putL beL
  rw [leL_cong hn h]
theorem mod_bd (v : Int) {n : Nat} (hn : n ≤ 4) : 0 ≤ v % 2 ^ (8 * n) ∧ v % 2 ^ (8 * n) < 4294967296 := by
  have hc : n = 0 ∨ n = 1 ∨ n = 2 ∨ n = 3 ∨ n = 4 := by omega
  rcases hc with rfl | rfl | rfl | rfl | rfl <;> simp <;> omega
theorem put_wide (v : Int) {n : Nat} (hn : n ≤ 4) :
    (putS 4 (v % 2 ^ (8 * n))).extract (4 - n) 4 = ⟨(putL true n v).toArray⟩ ∧ (litS 4 (v % 2 ^ (8 * n))).extract 0 n = ⟨(putL false n v).toArray⟩ ∧ (putS 4 (v % 2 ^ (8 * n))).size = 4 ∧ (litS 4 (v % 2 ^ (8 * n))).size = 4 := by
  obtain ⟨h0, h1⟩ := mod_bd v hn
  have hM : v % 2 ^ (8 * n) % 2 ^ (8 * n) = v % 2 ^ (8 * n) := Int.emod_emod _ _
  rw [← putL_cong true hn hM, ← putL_cong false hn hM]
  generalize v % 2 ^ (8 * n) = M at *
  have e1 : putS 4 M = ⟨#[byt M 3, byt M 2, byt M 1, byt M 0]⟩ := by unfold putS; rw [if_pos (ok4 h0 h1)]; rfl
  have e2 : litS 4 M = ⟨#[byt M 0, byt M 1, byt M 2, byt M 3]⟩ := by unfold litS; rw [if_pos (ok4 h0 h1)]; rfl
  rw [e1, e2]
  have hc : n = 0 ∨ n = 1 ∨ n = 2 ∨ n = 3 ∨ n = 4 := by omega
  rcases hc with rfl | rfl | rfl | rfl | rfl <;> exact ⟨rfl, rfl, rfl, rfl⟩

set_option maxHeartbeats 1000000 in
theorem write_any (big : Bool) (n : Nat) (hn : n ≤ 4) (v : Int) (w : World) :
    Calls Try.prog 62 #[.bool big, .int .i64 n, .int .i64 v] w fun e w' => e = .returned (.string ⟨(putL big n v).toArray⟩) ∧ Below w.heap.size w w' := by
  obtain ⟨h1, h2, h3, h4⟩ := put_wide v hn
  have hm := Bit.i64_mask v (8 * n) (by omega)
  have PT := Lib.hid (fun w => put_any 4 (v % 2 ^ (8 * n)) w)
  have LT := Lib.hid (fun w => little_any 4 (v % 2 ^ (8 * n)) w)
  have hp : 2 ^ (8 * n) ≤ 2 ^ 32 := Nat.pow_le_pow_right (by decide) (by omega)
  have hp1 : 1 ≤ 2 ^ (8 * n) := Nat.one_le_two_pow
  have e32 : (2 : Nat) ^ 32 = 4294967296 := by decide
  rw [e32] at hp
  have hP : (2 : Int) ^ (8 * n) = (2 ^ (8 * n) : Nat) := by simp
  obtain ⟨P, hPP⟩ : ∃ P : Nat, 2 ^ (8 * n) = P := ⟨_, rfl⟩
  rw [hPP] at hp hp1 hP
  obtain ⟨M, hM⟩ : ∃ M, v % 2 ^ (8 * n) = M := ⟨_, rfl⟩
  have hMP : v % (P : Int) = M := by rw [← hM, hP]
  rw [hM] at h1 h2 h3 h4 PT LT
  rw [hM, hP] at hm
  clear hM
  generalize putS 4 M = TB at *
  generalize litS 4 M = TL at *
  generalize putE 4 M = E at *
  obtain ⟨e, he⟩ : ∃ e, 8 * n = e := ⟨_, rfl⟩
  have hei : (8 : Int) * n = e := by omega
  rw [he] at hP
  have hw1 : IntKind.i64.wrap (P : Nat) = (P : Nat) := IntWalk.i64_in _ (by omega)
  have hw2 : IntKind.i64.wrap ((P : Int) - 1) = (P : Int) - 1 := IntWalk.i64_in _ (by omega)
  have hw3 : wrap64 (P : Nat) = (P : Nat) := IntWalk.wrap64_in _ (by omega)
  have he32 : e ≤ 32 := by omega
  obtain ⟨k, hk⟩ : ∃ k, 4 - n = k := ⟨_, rfl⟩
  have hki : (4 : Int) - n = k := by omega
  have hk4 : k ≤ 4 := by omega
  rw [hk] at h1
  have H1 := Lib.hid h1
  have H2 := Lib.hid h2
  clear hPP he hk h1 h2
  cases big with
  | true =>
    go_enter Try.func62, Try.ntmps62
    go_wp2_with fail
    refine (PT.out _).mono ?_
    rintro r w1 ⟨rfl, b1⟩
    have B1 := Lib.hid b1
    clear b1 PT LT
    go_wp2_with fail
    go_ret
    exact ⟨by rw [H1.out]; rfl, B1.out⟩
  | false =>
    go_enter Try.func62, Try.ntmps62
    go_wp2_with fail
    refine (LT.out _).mono ?_
    rintro r w1 ⟨rfl, b1⟩
    have B1 := Lib.hid b1
    clear b1 PT LT
    go_wp2_with fail
    go_ret
    exact ⟨by rw [H2.out]; rfl, B1.out⟩

/-- What is read. -/
def rdI (big : Bool) (n : Nat) (t : ByteArray) : Int := if n = 0 ∨ t.size < n then 0 else getL big (t.data.toList.take n)
def rdE (n : Nat) (t : ByteArray) : Int := if n = 0 then 130 else if t.size < n then 2 else 0
theorem valL_zeros (l : List UInt8) (k : Nat) : valL (l ++ List.replicate k 0) = valL l := by
  induction k with
  | zero => simp
  | succ k ih =>
    rw [List.replicate_succ', ← List.append_assoc, valL_snoc, ih]
    simp
theorem whole4 {t : ByteArray} (h : t.size = 4) : intV t 0 0 4 = valL t.data.toList.reverse ∧ litV t 0 0 4 = valL t.data.toList := by
  have hs : sizeB 4 = true := by decide
  have he : byE t 0 0 4 = 0 := by unfold byE; rw [h]; rfl
  have hb : byS t 0 0 4 = t := by
    unfold byS
    rw [if_pos he]
    apply ByteArray.ext
    rw [ByteArray.data_extract]
    have : t.data.size = 4 := h
    show t.data.extract 0 4 = t.data
    rw [← this, Array.extract_size]
  unfold intV litV
  rw [if_pos hs, if_pos hs, hb]
  exact ⟨rfl, rfl⟩
theorem zeros_list {n : Nat} (hn : n ≤ 4) : ((⟨#[0, 0, 0, 0]⟩ : ByteArray).extract n 4).data.toList = List.replicate (4 - n) 0 ∧ ((⟨#[0, 0, 0, 0]⟩ : ByteArray).extract n 4).size = 4 - n := by
  have hc : n = 0 ∨ n = 1 ∨ n = 2 ∨ n = 3 ∨ n = 4 := by omega
  rcases hc with rfl | rfl | rfl | rfl | rfl <;> exact ⟨rfl, rfl⟩
theorem get_wide {t : ByteArray} {n : Nat} (hn : n ≤ 4) (ht : n ≤ t.size) :
    ((⟨#[0, 0, 0, 0]⟩ : ByteArray).extract n 4 ++ t.extract 0 n).size = 4 ∧ (t.extract 0 n ++ (⟨#[0, 0, 0, 0]⟩ : ByteArray).extract n 4).size = 4 ∧ intV ((⟨#[0, 0, 0, 0]⟩ : ByteArray).extract n 4 ++ t.extract 0 n) 0 0 4 = getL true (t.data.toList.take n) ∧ litV (t.extract 0 n ++ (⟨#[0, 0, 0, 0]⟩ : ByteArray).extract n 4) 0 0 4 = getL false (t.data.toList.take n) := by
  obtain ⟨z1, z2⟩ := zeros_list hn
  have hx : (t.extract 0 n).data.toList = t.data.toList.take n := by simp [ByteArray.data_extract]
  have hxs : (t.extract 0 n).size = n := by rw [ByteArray.size_extract]; omega
  have s1 : ((⟨#[0, 0, 0, 0]⟩ : ByteArray).extract n 4 ++ t.extract 0 n).size = 4 := by rw [ByteArray.size_append, z2, hxs]; omega
  have s2 : (t.extract 0 n ++ (⟨#[0, 0, 0, 0]⟩ : ByteArray).extract n 4).size = 4 := by rw [ByteArray.size_append, z2, hxs]; omega
  refine ⟨s1, s2, ?_, ?_⟩
  · rw [(whole4 s1).1, ByteArray.data_append, Array.toList_append, z1, hx, List.reverse_append, List.reverse_replicate, valL_zeros]
    rfl
  · rw [(whole4 s2).2, ByteArray.data_append, Array.toList_append, z1, hx, valL_zeros]
    rfl

set_option maxHeartbeats 1000000 in
theorem read_any (big : Bool) (n : Nat) (hn : n ≤ 4) (t : ByteArray) (ht : t.size ≤ 100000) (w : World) :
    Calls Try.prog 95 #[.bool big, .int .i64 n, .string t] w fun e w' => e = .returned (.tuple #[.int .i64 (rdI big n t), .int .i64 (rdE n t)]) ∧ Below w.heap.size w w' := by
  by_cases h0 : n = 0
  · subst h0
    have e1 : rdI big 0 t = 0 := by unfold rdI; rw [if_pos (.inl rfl)]
    have e2 : rdE 0 t = 130 := by unfold rdE; rw [if_pos rfl]
    rw [e1, e2]
    go_enter Try.func95, Try.ntmps95
    go_wp2_with fail
    go_ret2
    exact ⟨rfl, Below.refl _ _⟩
  have d0 : ((n : Int) == 0) = false := by simpa using h0
  by_cases h1 : t.size < n
  · have e1 : rdI big n t = 0 := by unfold rdI; rw [if_pos (.inr h1)]
    have e2 : rdE n t = 2 := by unfold rdE; rw [if_neg h0, if_pos h1]
    have d1 : decide (t.size < n) = true := decide_eq_true h1
    have d1' : decide ((t.size : Int) < n) = true := decide_eq_true (by omega)
    rw [e1, e2]
    go_enter Try.func95, Try.ntmps95
    go_wp2_with fail
    go_ret2
    exact ⟨rfl, Below.refl _ _⟩
  have d1 : decide (t.size < n) = false := decide_eq_false h1
  have d1' : decide ((t.size : Int) < n) = false := decide_eq_false (by omega)
  obtain ⟨s1, s2, v1, v2⟩ := get_wide hn (show n ≤ t.size by omega)
  have e1 : rdI big n t = getL big (t.data.toList.take n) := by unfold rdI; rw [if_neg (by omega)]
  have e2 : rdE n t = 0 := by unfold rdE; rw [if_neg h0, if_neg h1]
  rw [e2]
  have E1 := Lib.hid e1
  have V1 := Lib.hid v1
  have V2 := Lib.hid v2
  have z2 := (zeros_list hn).2
  have hz : ((⟨#[0, 0, 0, 0]⟩ : ByteArray).extract n 4).size ≤ 4 := by omega
  have hx : (t.extract 0 n).size ≤ 4 := by rw [ByteArray.size_extract]; omega
  have hnt : n ≤ t.size := by omega
  generalize rdI big n t = R at *
  clear e1 v1 v2 z2 h0 h1
  cases big with
  | true =>
    go_enter Try.func95, Try.ntmps95
    go_wp2_with fail
    generalize (⟨#[0, 0, 0, 0]⟩ : ByteArray).extract n 4 ++ t.extract 0 n = T at *
    refine (new_any T w).mono ?_
    rintro r w1 ⟨rfl, cu, b1⟩
    have B1 := Lib.hid b1
    have I := Lib.hid (int_any w.heap.size T 0 0 4 w1 cu (Int.le_refl 0) (by omega) (by omega))
    clear b1 cu V2
    go_wp2_with fail
    refine I.out.mono ?_
    rintro r w2 ⟨rfl, _, g2⟩
    have B2 := Lib.hid (below_grown B1.out g2 (Nat.le_refl _))
    clear g2 I
    go_wp2_with fail
    go_ret2
    exact ⟨by rw [V1.out, E1.out]; rfl, B2.out⟩
  | false =>
    go_enter Try.func95, Try.ntmps95
    go_wp2_with fail
    generalize t.extract 0 n ++ (⟨#[0, 0, 0, 0]⟩ : ByteArray).extract n 4 = T at *
    refine (new_any T w).mono ?_
    rintro r w1 ⟨rfl, cu, b1⟩
    have B1 := Lib.hid b1
    have I := Lib.hid (lit_any w.heap.size T 0 0 4 w1 cu (Int.le_refl 0) (by omega) (by omega))
    clear b1 cu V1
    go_wp2_with fail
    refine I.out.mono ?_
    rintro r w2 ⟨rfl, _, g2⟩
    have B2 := Lib.hid (below_grown B1.out g2 (Nat.le_refl _))
    clear g2 I
    go_wp2_with fail
    go_ret2
    exact ⟨by rw [V2.out, E1.out]; rfl, B2.out⟩

theorem size_le4 (f : Fm) : f.size ≤ 4 ∧ (f.ok = true → 1 ≤ f.size ∧ f.size = (f.B / 8).toNat) ∧ (f.ok = false → f.size = 0) := by
  unfold Fm.size
  cases hok : f.ok with
  | false => exact ⟨by simp, fun h => by simp at h, fun _ => rfl⟩
  | true =>
    obtain ⟨k, j, l, s, t, u, n, H⟩ := f.is hok
    have := H.B
    have := H.hn
    exact ⟨by simp; omega, fun _ => ⟨by simp; omega, by simp⟩, fun h => by simp at h⟩
theorem put_eq (f : Fm) (v : Int) : f.put v = ⟨(putL f.big f.size v).toArray⟩ := by
  obtain ⟨_, h1, h2⟩ := size_le4 f
  unfold Fm.put
  cases hok : f.ok with
  | false => rw [h2 hok]; cases f.big <;> rfl
  | true => rw [(h1 hok).2]; rfl
theorem get_eq (f : Fm) (t : ByteArray) : f.get t = rdI f.big f.size t ∧ f.getE t = rdE f.size t := by
  obtain ⟨_, h1, h2⟩ := size_le4 f
  unfold Fm.get Fm.getE rdI rdE
  cases hok : f.ok with
  | false => rw [h2 hok]; exact ⟨rfl, rfl⟩
  | true =>
    have h := (h1 hok).1
    have h0 : ¬ f.size = 0 := by omega
    by_cases ht : t.size < f.size
    · simp [h0, ht]
    · simp [h0, ht]
def ptV (F : Value) (big : Bool) (n : Nat) (v : Int) (s : ByteArray) (b : Nat) : Nat → Value
  | 0 => .pointer (some ⟨b, 2, none⟩)
  | 1 => .bool big
  | 2 => F
  | 3 => .int .i64 n
  | 4 => .int .i64 v
  | 5 => .string s
  | 6 => .string s
  | _ => undef
def gtV (F : Value) (big : Bool) (n : Nat) (t : ByteArray) (x e : Int) (b : Nat) : Nat → Value
  | 0 => .pointer (some ⟨b, 2, none⟩)
  | 1 => .bool big
  | 2 => F
  | 3 => .int .i64 n
  | 4 => .string t
  | 5 => .tuple #[.int .i64 x, .int .i64 e]
  | 6 => .int .i64 x
  | 7 => .int .i64 e
  | 8 => .int .i64 x
  | 9 => .int .i64 e
  | _ => undef
set_option maxHeartbeats 1000000 in
theorem fput_any (f : Fm) (hf : f.Wf) (v : Int) (hv : (Lit.int .i64 v).wf = true) (w : World) :
    Calls Try.prog 35 #[f.v, .int .i64 v] w fun e w' => e = .returned (.string (f.put v)) ∧ Below w.heap.size w w' := by
  have Z := Lib.hid (fun w => size_any f hf w)
  have W := Lib.hid (fun w => write_any f.big f.size (size_le4 f).1 v w)
  rw [← put_eq] at W
  generalize f.put v = S at *
  generalize f.size = N at *
  have AT := FmAt.box f w 37
  have bel := (Below.refl w.heap.size w).alloc (Nat.le_refl _) (.cells #[.int .i64 f.B, .int .i64 f.D, .bool f.big, .bool f.tr, .int .i64 f.rm, .int .i64 f.gm, .int .i64 f.bm, .int .i64 f.rs, .int .i64 f.gs, .int .i64 f.bs] 37)
  have hsz : (w.alloc (.cells #[.int .i64 f.B, .int .i64 f.D, .bool f.big, .bool f.tr, .int .i64 f.rm, .int .i64 f.gm, .int .i64 f.bm, .int .i64 f.rs, .int .i64 f.gs, .int .i64 f.bs] 37)).heap.size = w.heap.size + 1 := alloc_size _ _
  obtain ⟨w1, hw1⟩ : ∃ w1, w.alloc (.cells #[.int .i64 f.B, .int .i64 f.D, .bool f.big, .bool f.tr, .int .i64 f.rm, .int .i64 f.gm, .int .i64 f.bm, .int .i64 f.rs, .int .i64 f.gs, .int .i64 f.bs] 37) = w1 := ⟨_, rfl⟩
  rw [hw1] at AT bel hsz
  have HA := Lib.hid (fun W (hW : Below w1.heap.size w1 W) => AT.below hW (by omega))
  have HF : f.v = .agg #[.int .i64 f.B, .int .i64 f.D, .bool f.big, .bool f.tr, .int .i64 f.rm, .int .i64 f.gm, .int .i64 f.bm, .int .i64 f.rs, .int .i64 f.gs, .int .i64 f.bs] := rfl
  rw [HF] at Z ⊢
  clear AT HF hsz hf hv
  obtain ⟨B, D, big, tr, rm, gm, bm, rs, gs, bs⟩ := f
  simp only at *
  go_enter Try.func35, Try.ntmps35
  go_wp2_with fail
  refine region_all (by kernel_rfl) (ptV (.agg #[.int .i64 B, .int .i64 D, .bool big, .bool tr, .int .i64 rm, .int .i64 gm, .int .i64 bm, .int .i64 rs, .int .i64 gs, .int .i64 bs]) big N v S w.heap.size) (fun W => Below w1.heap.size w1 W) [1, 2] [none, none, none, none, some 6, some 0, some 1, some 2, some 3, some 4, some 5] (by kernel_rfl) (by kernel_rfl) (by rfl) (by kernel_rfl) (by kernel_rfl) (by kernel_rfl) ((Below.refl _ _).drew) ⟨?_, ?_, ?_, ?_, ?_, ?_, ?_, trivial⟩ ?_
  case refine_8 =>
    intro W hS
    simp only [zipF, ptV]
    go_wp2_with fail
    go_ret
    exact ⟨rfl, bel.trans (hS.mono bel.size)⟩
  all_goals
    intro ℓ act Wd hl hS hw hr hd
    obtain ⟨d0, d1, d2, d3, d4, d5, d6, d7, d8, d9⟩ := HA.out Wd hS
    dsimp only at d0 d1 d2 d3 d4 d5 d6 d7 d8 d9
    clear hw
    simp [readFacts, depFacts, dstOf, Region.binds, ptV] at hr hd
    refine ⟨by first | exact wanted_none (by rfl) | exact wanted_guard (by rfl) (by rfl) (by assumption), fun K hK => ?_⟩
    go_simp
    first
      | exact hK _ hS
      | (with_reducible refine (Z.out _).mono ?_
         rintro r w' ⟨rfl, b⟩
         exact hK _ (hS.trans (b.mono hS.size)))
      | (with_reducible refine (W.out _).mono ?_
         rintro r w' ⟨rfl, b⟩
         exact hK _ (hS.trans (b.mono hS.size)))
set_option maxHeartbeats 1000000 in
theorem fget_any (f : Fm) (hf : f.Wf) (t : ByteArray) (ht : t.size ≤ 100000) (w : World) :
    Calls Try.prog 70 #[f.v, .string t] w fun e w' => e = .returned (.tuple #[.int .i64 (f.get t), .int .i64 (f.getE t)]) ∧ Below w.heap.size w w' := by
  have Z := Lib.hid (fun w => size_any f hf w)
  have W := Lib.hid (fun w => read_any f.big f.size (size_le4 f).1 t ht w)
  rw [(get_eq f t).1, (get_eq f t).2]
  generalize rdI f.big f.size t = X at *
  generalize rdE f.size t = E at *
  generalize f.size = N at *
  have AT := FmAt.box f w 37
  have bel := (Below.refl w.heap.size w).alloc (Nat.le_refl _) (.cells #[.int .i64 f.B, .int .i64 f.D, .bool f.big, .bool f.tr, .int .i64 f.rm, .int .i64 f.gm, .int .i64 f.bm, .int .i64 f.rs, .int .i64 f.gs, .int .i64 f.bs] 37)
  have hsz : (w.alloc (.cells #[.int .i64 f.B, .int .i64 f.D, .bool f.big, .bool f.tr, .int .i64 f.rm, .int .i64 f.gm, .int .i64 f.bm, .int .i64 f.rs, .int .i64 f.gs, .int .i64 f.bs] 37)).heap.size = w.heap.size + 1 := alloc_size _ _
  obtain ⟨w1, hw1⟩ : ∃ w1, w.alloc (.cells #[.int .i64 f.B, .int .i64 f.D, .bool f.big, .bool f.tr, .int .i64 f.rm, .int .i64 f.gm, .int .i64 f.bm, .int .i64 f.rs, .int .i64 f.gs, .int .i64 f.bs] 37) = w1 := ⟨_, rfl⟩
  rw [hw1] at AT bel hsz
  have HA := Lib.hid (fun W (hW : Below w1.heap.size w1 W) => AT.below hW (by omega))
  have HF : f.v = .agg #[.int .i64 f.B, .int .i64 f.D, .bool f.big, .bool f.tr, .int .i64 f.rm, .int .i64 f.gm, .int .i64 f.bm, .int .i64 f.rs, .int .i64 f.gs, .int .i64 f.bs] := rfl
  rw [HF] at Z ⊢
  clear AT HF hsz hf ht
  obtain ⟨B, D, big, tr, rm, gm, bm, rs, gs, bs⟩ := f
  simp only at *
  go_enter Try.func70, Try.ntmps70
  go_wp2_with fail
  refine region_all (by kernel_rfl) (gtV (.agg #[.int .i64 B, .int .i64 D, .bool big, .bool tr, .int .i64 rm, .int .i64 gm, .int .i64 bm, .int .i64 rs, .int .i64 gs, .int .i64 bs]) big N t X E w.heap.size) (fun W => Below w1.heap.size w1 W) [1, 2] [none, none, none, none, some 8, some 9, some 0, some 1, some 2, some 3, some 4, some 5, some 6, some 7] (by kernel_rfl) (by kernel_rfl) (by rfl) (by kernel_rfl) (by kernel_rfl) (by kernel_rfl) ((Below.refl _ _).drew) ⟨?_, ?_, ?_, ?_, ?_, ?_, ?_, ?_, ?_, ?_, trivial⟩ ?_
  case refine_11 =>
    intro W hS
    simp only [zipF, gtV]
    go_wp2_with fail
    go_ret2
    exact ⟨rfl, bel.trans (hS.mono bel.size)⟩
  all_goals
    intro ℓ act Wd hl hS hw hr hd
    obtain ⟨d0, d1, d2, d3, d4, d5, d6, d7, d8, d9⟩ := HA.out Wd hS
    dsimp only at d0 d1 d2 d3 d4 d5 d6 d7 d8 d9
    clear hw
    simp [readFacts, depFacts, dstOf, Region.binds, gtV] at hr hd
    refine ⟨by first | exact wanted_none (by rfl) | exact wanted_guard (by rfl) (by rfl) (by assumption), fun K hK => ?_⟩
    go_simp
    first
      | exact hK _ hS
      | (with_reducible refine (Z.out _).mono ?_
         rintro r w' ⟨rfl, b⟩
         exact hK _ (hS.trans (b.mono hS.size)))
      | (with_reducible refine (W.out _).mono ?_
         rintro r w' ⟨rfl, b⟩
         exact hK _ (hS.trans (b.mono hS.size)))
end Go.Proofs.Ytmjjbapahgejmaa.Fmt
