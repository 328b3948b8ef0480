/-
  Contract of miradorref05.Cost; what the best lengths of so many times as much cost.
-/
import Derived.Test.YtildikdoimobhaaHufLenB
namespace Go.Proofs.Ytildikdoimobhaa.Huf
open Go.ChangeShapes Go.WideShapes Go.ChangeAt Go.RowKit
set_option linter.unusedVariables false

/-- What is written, among the first k. -/
def costN (N l : List Nat) (k : Nat) : Nat := tot (fun i => N.getD i 0 * l.getD i 0) (List.range k)
theorem costN_succ (N l : List Nat) (k : Nat) : costN N l (k + 1) = costN N l k + N.getD k 0 * l.getD k 0 := by
  unfold costN; rw [List.range_succ, tot_append]; simp [tot]
theorem costN_le (N l : List Nat) (hN : ∀ i, N.getD i 0 ≤ 1073741824) (hl : ∀ i, l.getD i 0 ≤ 15) : ∀ k, costN N l k ≤ k * 16106127360
  | 0 => by simp [costN, tot]
  | k + 1 => by
    have := costN_le N l hN hl k
    have h := Nat.mul_le_mul (hN k) (hl k)
    rw [costN_succ]; omega

theorem getD_cell {w : World} {a : Option Addr} {N : List Nat} (h : IsInts w a (N.map fun (x : Nat) => (x : Int))) (h0 : 0 < N.length) : ∃ b off, a = some ⟨b, off, none⟩ ∧ b < w.heap.size ∧ ∀ i, i < N.length → w.cell? ⟨b, off + i, none⟩ = some (.int .i64 (N.getD i 0 : Nat)) := by
  obtain ⟨b, off, e, hb, hc⟩ := h (by simpa using h0)
  refine ⟨b, off, e, hb, fun i hi => ?_⟩
  rw [hc i (by simpa using hi)]
  simp [List.getElem_map, List.getD_eq_getElem?_getD, hi]

set_option maxHeartbeats 2000000 in
theorem cost_any (a b : Option Addr) (n c1 c2 T : Nat) (N l : List Nat) (w : World) (hn : N.length = n) (hln : l.length = n) (h : IsInts w a (N.map fun (x : Nat) => (x : Int))) (h2 : IsInts w b (l.map fun (x : Nat) => (x : Int))) (hl : n ≤ 1000)
    (hN : ∀ i, N.getD i 0 ≤ 1073741824) (h15 : ∀ i, l.getD i 0 ≤ 15) (hT : costN N l n = T) :
    Calls Try.prog 26 #[.slice a n c1, .slice b n c2] w fun e w' => e = .returned (.int .i64 T) ∧ ∃ q, w' = w.drewN q := by
  have H1 := Lib.hid h
  have H2 := Lib.hid h2
  have HN := Lib.hid hN
  have HL := Lib.hid h15
  have HT := Lib.hid hT
  clear h h2 hN h15 hT
  go_enter Try.func26, Try.ntmps26
  go_wp2_with fail
  go_loopw [5, 6] (fun v i wr => ∃ k s U : Nat, k ≤ n ∧ i = .int .i64 k ∧ v = .int .i64 U ∧ costN N l k = U ∧ wr = w.drewN s) (fun _ i _ => n - (intOf i).toNat)
  case atStart => exact ⟨0, 0, 0, Nat.zero_le _, rfl, rfl, rfl, rfl⟩
  case round =>
    obtain ⟨k, s, U, hk, rfl, rfl, hU, rfl⟩ := hrel
    have hUb := costN_le N l HN.out HL.out k
    rw [hU] at hUb
    by_cases hlt : k < n
    · have hlt' : (k : Int) < n := by omega
      obtain ⟨b1, o1, rfl, _, f1⟩ := getD_cell H1.out (by omega)
      obtain ⟨b2, o2, rfl, _, f2⟩ := getD_cell H2.out (by omega)
      have e1 := f1 k (by omega)
      have e2 := f2 k (by omega)
      clear f1 f2
      have hx := HN.out k
      have hy := HL.out k
      have HS : Hid (costN N l (k + 1) = U + N.getD k 0 * l.getD k 0) := Lib.hid (by rw [costN_succ, hU])
      clear hU
      generalize N.getD k 0 = x at *
      generalize l.getD k 0 = y at *
      obtain ⟨z, hz⟩ : ∃ z, x * y = z := ⟨_, rfl⟩
      have hzI : (x : Int) * y = z := by rw [← hz]; simp
      have hzb : z ≤ 16106127360 := by rw [← hz]; exact Nat.mul_le_mul hx hy
      have hw1 : IntKind.i64.wrap ((x : Int) * y) = z := by rw [hzI]; exact IntWalk.i64_in _ (by omega)
      have hw2 : IntKind.i64.wrap ((U : Int) + z) = (U : Int) + z := IntWalk.i64_in _ (by omega)
      rw [hz] at HS
      clear hz hzI
      go_wp2_with fail
      go_quiet (fail)
      go_wp2_with fail
      refine ⟨⟨k + 1, s + nq, U + z, by omega, by go_num, by go_num, HS.out, rfl⟩, ?_⟩
      simp [intOf]; omega
    · obtain rfl : k = n := by omega
      obtain rfl : U = T := hU.symm.trans HT.out
      go_wp2_with fail
      go_ret
      exact ⟨rfl, s, rfl⟩

/-- The sum over all is that over those that come. -/
theorem cost_come (N : List Nat) (n : Nat) (g : Nat → Nat) : tot (fun i => N.getD i 0 * g i) (List.range n) = tot (fun i => N.getD i 0 * g i) (comeS N n) := by
  unfold comeS
  rw [tot_filter]
  apply tot_congr
  intro i _
  by_cases h : 0 < N.getD i 0
  · rw [if_pos (by simpa using h)]
  · rw [if_neg (by simpa using h), show N.getD i 0 = 0 by omega, Nat.zero_mul]
theorem costN_often (N : List Nat) (n : Nat) (P : List Tr) : costN N ((List.range n).map fun i => often i P) n = tot (fun i => N.getD i 0 * often i P) (comeS N n) := by
  rw [← cost_come]
  unfold costN
  apply tot_congr
  intro i hi
  have := List.mem_range.1 hi
  simp [List.getD_eq_getElem?_getD, this]

theorem comeS_scale (N N' : List Nat) (n k : Nat) (hk : 1 ≤ k) (h : ∀ i, N'.getD i 0 = N.getD i 0 * k) : comeS N' n = comeS N n := by
  unfold comeS
  apply List.filter_congr
  intro i _
  rw [h]
  by_cases h0 : 0 < N.getD i 0
  · rw [decide_eq_true h0, decide_eq_true (Nat.mul_pos h0 hk)]
  · rw [decide_eq_false h0, show N.getD i 0 = 0 by omega, Nat.zero_mul]; rfl

theorem scale_eq (N N' : List Nat) (n k L : Nat) (P P' : List Tr) (hk : 1 ≤ k) (h : ∀ i, N'.getD i 0 = N.getD i 0 * k) (hL : 1 ≤ L) (hL2 : L ≤ 15) (hs : (comeS N n).length ≤ 2 ^ L) (hT : Taken N n L P) (hT' : Taken N' n L P') :
    costN N ((List.range n).map fun i => often i P) n = costN N ((List.range n).map fun i => often i P') n ∧
    costN N' ((List.range n).map fun i => often i P') n = costN N ((List.range n).map fun i => often i P') n * k := by
  have hC := comeS_scale N N' n k hk h
  have hmem : ∀ i, i ∈ comeS N n ↔ i < n ∧ 0 < N.getD i 0 := comeS_mem N n
  constructor
  · rcases hT with ⟨h1, rfl⟩ | ⟨h1, Q, hQ, rfl⟩
    · rcases hT' with ⟨h2, rfl⟩ | ⟨h2, _⟩
      · rw [hC]
      · rw [hC] at h2; omega
    · rcases hT' with ⟨h2, rfl⟩ | ⟨h2, Q', hQ', rfl⟩
      · rw [hC] at h2; omega
      · rw [hC] at hQ' ⊢
        rw [costN_often, costN_often]
        obtain ⟨_, _, a2, _, a4, a5⟩ := made (fun i => N.getD i 0) (comeS N n) (comeS_nodup N n) h1 (fun i hi => ((hmem i).1 hi).2) L hL hs Q hQ
        obtain ⟨_, _, b2, _, b4, b5⟩ := made (fun i => N'.getD i 0) (comeS N n) (comeS_nodup N n) h1 (fun i hi => by rw [h]; exact Nat.mul_pos ((hmem i).1 hi).2 hk) L hL hs Q' hQ'
        have c1 := a5 _ (fun i _ => b2 i) (Nat.le_of_eq b4)
        have c2 := b5 _ (fun i _ => a2 i) (Nat.le_of_eq a4)
        have e : ∀ g : Nat → Nat, tot (fun i => N'.getD i 0 * g i) (comeS N n) = k * tot (fun i => N.getD i 0 * g i) (comeS N n) := fun g => by
          rw [← tot_mul]
          apply tot_congr
          intro i _
          rw [h, Nat.mul_comm (N.getD i 0) k, Nat.mul_assoc]
        rw [e, e] at c2
        have c3 := Nat.le_of_mul_le_mul_left c2 hk
        exact Nat.le_antisymm c1 c3
  · unfold costN
    rw [Nat.mul_comm, ← tot_mul]
    apply tot_congr
    intro i _
    rw [h, Nat.mul_comm (N.getD i 0) k, Nat.mul_assoc]

end Go.Proofs.Ytildikdoimobhaa.Huf
