/-
  Contracts of huffman.Check and of the reference's Check.
-/
import Derived.Test.YtikfenimgjeplaaHufBase
namespace Go.Proofs.Ytikfenimgjeplaa.Huf
open Go.ChangeShapes Go.WideShapes Go.ChangeAt Go.RowKit
set_option linter.unusedVariables false

def nats (L : List Int) : List Nat := L.map Int.toNat
/-- May lengths be? -/
def fine (L : List Int) : Bool := decide (L.length ≤ 320) && allIn 15 L && decide (used (nats L) 15 ≤ 32768)
/-- What Check tells. -/
def chk (L : List Int) : Value := if fine L then .tuple #[.int .i64 (32768 - used (nats L) 15 : Nat), .int .i64 0] else .tuple #[.int .i64 0, .int .i64 50]

theorem allIn_iff {m : Int} {L : List Int} : allIn m L = true ↔ ∀ x ∈ L, 0 ≤ x ∧ x ≤ m := by
  unfold allIn
  rw [List.all_eq_true]
  simp
theorem nats_cast {L : List Int} {m : Int} (h : allIn m L = true) : L = (nats L).map fun (x : Nat) => (x : Int) := by
  unfold nats
  rw [List.map_map]
  have h2 := allIn_iff.1 h
  conv => lhs; rw [← List.map_id L]
  apply List.map_congr_left
  intro x hx
  have := (h2 x hx).1
  simp; omega
theorem nats_le {L : List Int} (h : allIn 15 L = true) : ∀ x ∈ nats L, x ≤ 15 := by
  intro x hx
  obtain ⟨y, hy, rfl⟩ := List.mem_map.1 hx
  have := allIn_iff.1 h y hy
  omega
theorem nats_length (L : List Int) : (nats L).length = L.length := by simp [nats]

theorem used_le (N : List Nat) : ∀ l, l ≤ 15 → used N l ≤ l * (N.length * 32768) := by
  intro l
  induction l with
  | zero => intro _; exact Nat.zero_le _
  | succ l ih =>
    intro h
    have h1 := ih (by omega)
    have h2 : cn N (l + 1) * 2 ^ (15 - (l + 1)) ≤ N.length * 32768 := Nat.mul_le_mul (cn_le N _) (by
      have : (2 : Nat) ^ (15 - (l + 1)) ≤ 2 ^ 15 := Nat.pow_le_pow_right (by decide) (by omega)
      exact Nat.le_trans this (by decide))
    show used N l + cn N (l + 1) * 2 ^ (15 - (l + 1)) ≤ _
    rw [Nat.add_mul, Nat.one_mul]
    omega

/-- The room that codes of less bits take. -/
def usedB (N : List Nat) : Nat → Nat
  | 0 => 0
  | k + 1 => used N k
theorem usedB_succ (N : List Nat) (k : Nat) : usedB N (k + 1) = usedB N k + cn N k * 2 ^ (15 - k) := by
  cases k with
  | zero => simp [usedB, used, cn]
  | succ k => rfl
theorem usedB_le (N : List Nat) (k : Nat) (hk : k ≤ 16) (hl : N.length ≤ 320) : usedB N k ≤ 157286400 := by
  cases k with
  | zero => exact Nat.zero_le _
  | succ k =>
    have h1 := used_le N k (by omega)
    have h2 : k * (N.length * 32768) ≤ 15 * (320 * 32768) := Nat.mul_le_mul (by omega) (Nat.mul_le_mul_right _ hl)
    exact Nat.le_trans h1 h2

theorem check_bad (a : Option Addr) (n cap : Nat) (L : List Int) (w : World) (hn : L.length = n) (h : IsInts w a L) (hl : n ≤ 1000000) (hb : 320 < n ∨ allIn 15 L = false) :
    Calls Try.prog 71 #[.slice a n cap] w fun e w' => e = .returned (.tuple #[.int .i64 0, .int .i64 50]) ∧ w = w' := by
  have C1 := Lib.hid (within_any a n cap L 15 w hn h hl)
  clear h
  by_cases h1 : 320 < n
  · clear hb
    have d1 : decide (320 < n) = true := decide_eq_true h1
    have d2 : decide (320 < (n : Int)) = true := decide_eq_true (by omega)
    go_enter Try.func71, Try.ntmps71
    go_wp2_with fail
    go_ret2
    exact ⟨rfl, rfl⟩
  · have h2 : allIn 15 L = false := by rcases hb with h | h; · omega
                                       · exact h
    rw [h2] at C1
    clear hb
    have d1 : decide (320 < n) = false := decide_eq_false h1
    have d2 : decide (320 < (n : Int)) = false := decide_eq_false (by omega)
    go_enter Try.func71, Try.ntmps71
    go_wp2_with fail
    refine C1.out.mono ?_
    rintro r w' ⟨rfl, rfl⟩
    go_wp2_with fail
    go_ret2
    exact ⟨rfl, rfl⟩

set_option maxHeartbeats 1000000 in
theorem check_good (a : Option Addr) (n cap : Nat) (L : List Int) (w : World) (hn : L.length = n) (h : IsInts w a L) (hl : n ≤ 320) (hb : allIn 15 L = true) :
    Calls Try.prog 71 #[.slice a n cap] w fun e w' => e = .returned (chk L) ∧ Below w.heap.size w w' := by
  have C1 := Lib.hid (within_any a n cap L 15 w hn h (by omega))
  have HF : Hid (fine L = decide (used (nats L) 15 ≤ 32768)) := by
    show fine L = _
    unfold fine; rw [hb, decide_eq_true (by omega)]; simp
  have HC : Hid (chk L = if used (nats L) 15 ≤ 32768 then .tuple #[.int .i64 (32768 - used (nats L) 15 : Nat), .int .i64 0] else .tuple #[.int .i64 0, .int .i64 50]) := by
    show chk L = _
    unfold chk; rw [HF.out]; simp
  rw [hb] at C1
  have hN : (nats L).length = n := by rw [nats_length]; exact hn
  have C2 := Lib.hid (tally_any a n cap (nats L) w hN (by rw [← nats_cast hb]; exact h) (by omega) (nats_le hb))
  generalize nats L = N at *
  clear h hb HF
  have hcn := cn_le N
  have hus := fun k (hk : k ≤ 16) => usedB_le N k hk (by omega)
  have hst := usedB_succ N
  have HCN := Lib.hid hcn
  have HUS := Lib.hid hus
  have HST := Lib.hid hst
  clear hcn hus hst
  go_enter Try.func71, Try.ntmps71
  go_wp2_with fail
  refine C1.out.mono ?_
  rintro r w' ⟨rfl, rfl⟩
  go_wp2_with fail
  refine C2.out.mono ?_
  rintro r w1 ⟨rfl, b1⟩
  go_wp2_with fail
  go_loop [4, 17] (fun x i => ∃ k : Nat, k ≤ 16 ∧ i = .int .i64 k ∧ x = .int .i64 (32768 - (usedB N k : Nat))) (fun _ i => 16 - (intOf i).toNat)
  case atStart => exact ⟨0, Nat.zero_le _, rfl, rfl⟩
  case round =>
    obtain ⟨k, hk, rfl, rfl⟩ := hrel
    have u0 := HUS.out k hk
    by_cases hlt : k < 16
    · have hg := row16_get (cn N) k hlt
      have u1 := HUS.out (k + 1) (by omega)
      have e1 := HST.out k
      have C3 := Lib.hid (room_any k (by omega) w1)
      have hc := HCN.out k
      generalize usedB N k = U at *
      obtain ⟨U1, hU1⟩ : ∃ U1, usedB N (k + 1) = U1 := ⟨_, rfl⟩
      rw [hU1] at u1 e1
      have HU1 := Lib.hid hU1
      clear hU1
      have hr : 2 ^ (15 - k) ≤ 32768 := Nat.le_trans (Nat.pow_le_pow_right (by decide) (show 15 - k ≤ 15 by omega)) (by decide)
      generalize (2 : Nat) ^ (15 - k) = R at *
      obtain ⟨c, hcc⟩ : ∃ c, cn N k = c := ⟨_, rfl⟩
      rw [hcc] at e1 hc
      have HCC := Lib.hid hcc
      clear hcc
      have HE : Hid ((32768 : Int) - U - c * R = 32768 - U1) := by
        show (32768 : Int) - U - c * R = 32768 - U1
        rw [e1]; push_cast; omega
      obtain ⟨m, hm⟩ : ∃ m, c * R = m := ⟨_, rfl⟩
      have hmi : (c : Int) * R = m := by rw [← hm]; push_cast; rfl
      have hw1 : wrap64 (m : Int) = m := IntWalk.wrap64_in _ (by omega)
      have hw2 : wrap64 (32768 - (U : Int) - m) = 32768 - (U : Int) - m := IntWalk.wrap64_in _ (by omega)
      rw [hmi] at HE
      have HWW : Hid (wrap64 (32768 - (U1 : Int)) = 32768 - (U1 : Int)) := IntWalk.wrap64_in _ (by omega)
      clear e1 hm u0 u1 hr hc
      go_wp2_with (refine wpl_index16 rfl _ _ rfl (cn N) k rfl rfl hlt ?_; rw [HCC.out])
      refine C3.out.mono ?_
      rintro r w' ⟨rfl, rfl⟩
      go_wp2_with fail
      refine ⟨⟨k + 1, by omega, by go_num, ?_⟩, ?_⟩
      · rw [HE.out, HWW.out, HU1.out]
      · simp [intOf]; omega
    · obtain rfl : k = 16 := by omega
      have u15 : usedB N 16 = used N 15 := rfl
      rw [u15] at u0 ⊢
      by_cases hov : used N 15 ≤ 32768
      · have HX : Hid ((32768 : Int) - (used N 15 : Nat) = ((32768 - used N 15 : Nat) : Int)) := by
          show (32768 : Int) - (used N 15 : Nat) = _
          omega
        have HC2 : Hid (chk L = .tuple #[.int .i64 (32768 - used N 15 : Nat), .int .i64 0]) := by
          show chk L = _
          rw [HC.out, if_pos hov]
        clear HC u0 u15
        have hlt0 : ¬ ((32768 : Int) - (used N 15 : Nat) < 0) := by omega
        generalize used N 15 = U at *
        go_wp2_with fail
        go_ret2
        rw [HC2.out, HX.out]
        exact ⟨rfl, b1⟩
      · have HC2 : Hid (chk L = .tuple #[.int .i64 0, .int .i64 50]) := by
          show chk L = _
          rw [HC.out, if_neg hov]
        clear HC u0 u15
        have hlt0 : (32768 : Int) - (used N 15 : Nat) < 0 := by omega
        generalize used N 15 = U at *
        go_wp2_with fail
        go_ret2
        rw [HC2.out]
        exact ⟨rfl, b1⟩

theorem chk_bad {L : List Int} (h : 320 < L.length ∨ allIn 15 L = false) : chk L = .tuple #[.int .i64 0, .int .i64 50] := by
  have : fine L = false := by
    unfold fine
    rcases h with h | h
    · rw [decide_eq_false (by omega)]; rfl
    · rw [h]; simp
  unfold chk; rw [this]; rfl

theorem check_any (a : Option Addr) (n cap : Nat) (L : List Int) (w : World) (hn : L.length = n) (h : IsInts w a L) (hl : n ≤ 1000000) :
    Calls Try.prog 71 #[.slice a n cap] w fun e w' => e = .returned (chk L) ∧ Below w.heap.size w w' := by
  by_cases hb : 320 < n ∨ allIn 15 L = false
  · rw [chk_bad (by rw [hn]; exact hb)]
    refine (check_bad a n cap L w hn h hl hb).mono ?_
    rintro e w' ⟨he, rfl⟩
    exact ⟨he, Below.refl _ _⟩
  · refine check_good a n cap L w hn h (by omega) ?_
    cases hx : allIn 15 L with
    | true => rfl
    | false => exact absurd (Or.inr hx) hb

end Go.Proofs.Ytikfenimgjeplaa.Huf
