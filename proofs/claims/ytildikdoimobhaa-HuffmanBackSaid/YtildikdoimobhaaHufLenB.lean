/-
  Contract of huffman.Lengths where it tells that there are none; all of it.
-/
import Derived.Test.YtildikdoimobhaaHufView
namespace Go.Proofs.Ytildikdoimobhaa.Huf
open Go.ChangeShapes Go.WideShapes Go.ChangeAt Go.RowKit
set_option linter.unusedVariables false

/-- What is asked for may not be. -/
def lenBad (n : Nat) (L : List Int) (most : Int) : Bool := decide (320 < n) || decide (most < 1) || decide (15 < most) || !allIn 1073741824 L

set_option maxRecDepth 10000 in
set_option maxHeartbeats 1000000 in
theorem lengths_bad (a : Option Addr) (n cap : Nat) (L : List Int) (most : Int) (w : World) (hn : L.length = n) (h : IsInts w a L) (hl : n ≤ 1000000) (hb : lenBad n L most = true) :
    Calls Try.prog 25 #[.slice a n cap, .int .i64 most] w fun e w' => e = .returned (.tuple #[.slice none 0 0, .int .i64 1]) ∧ Below w.heap.size w w' := by
  have CW := Lib.hid (within_any a n cap L 1073741824 w hn h (by omega))
  clear h
  unfold lenBad at hb
  by_cases h1 : 320 < n
  · have h1' : (320 : Int) < n := by omega
    clear hb
    go_enter Try.func25, Try.ntmps25
    go_wp2_with fail
    go_ret2
    exact ⟨rfl, Below.refl _ _⟩
  have h1' : ¬ ((320 : Int) < n) := by omega
  have d1 : decide (320 < n) = false := by simp; omega
  rw [d1] at hb
  by_cases h2 : allIn 1073741824 L = true
  · rw [h2] at CW hb
    by_cases h3 : most < 1
    · clear hb
      go_enter Try.func25, Try.ntmps25
      go_wp2_with fail
      refine CW.out.mono ?_
      rintro r w1 ⟨rfl, rfl⟩
      go_wp2_with fail
      go_ret2
      exact ⟨rfl, Below.refl _ _⟩
    have d3 : decide (most < 1) = false := by simp; omega
    have h4 : 15 < most := by
      rw [d3] at hb
      simpa using hb
    clear hb
    go_enter Try.func25, Try.ntmps25
    go_wp2_with fail
    refine CW.out.mono ?_
    rintro r w1 ⟨rfl, rfl⟩
    go_wp2_with fail
    go_ret2
    exact ⟨rfl, Below.refl _ _⟩
  have h2' : allIn 1073741824 L = false := by simpa using h2
  rw [h2'] at CW
  clear hb
  go_enter Try.func25, Try.ntmps25
  go_wp2_with fail
  refine CW.out.mono ?_
  rintro r w1 ⟨rfl, rfl⟩
  go_wp2_with fail
  go_ret2
  exact ⟨rfl, Below.refl _ _⟩

theorem pow_int (L : Nat) (h : L ≤ 15) : ∃ P2 : Int, (2 : Int) ^ L = P2 ∧ P2 = ((2 ^ L : Nat) : Int) ∧ 1 ≤ P2 ∧ P2 ≤ 32768 ∧ IntKind.i64.wrap P2 = P2 := by
  have h1 : (2 : Int) ^ L = ((2 ^ L : Nat) : Int) := by simp
  have h2 : 2 ^ L ≤ 2 ^ 15 := Nat.pow_le_pow_right (by decide) h
  have h3 : 0 < 2 ^ L := Nat.pow_pos (by decide)
  have h4 : (2 : Nat) ^ 15 = 32768 := by decide
  exact ⟨_, rfl, h1, by rw [h1]; omega, by rw [h1]; omega, IntWalk.i64_in _ (by rw [h1]; omega)⟩

set_option maxRecDepth 10000 in
set_option maxHeartbeats 1000000 in
theorem lengths_many (a : Option Addr) (n cap : Nat) (N : List Nat) (L : Nat) (w : World) (hn : N.length = n) (h : IsInts w a (N.map fun (x : Nat) => (x : Int))) (hl : n ≤ 320) (hx : ∀ x ∈ N, x ≤ 1073741824) (hL : 1 ≤ L) (hL2 : L ≤ 15)
    (hs : 2 ^ L < (comeS N n).length) :
    Calls Try.prog 25 #[.slice a n cap, .int .i64 L] w fun e w' => e = .returned (.tuple #[.slice none 0 0, .int .i64 50]) ∧ Below w.heap.size w w' := by
  have hall : allIn 1073741824 (N.map fun (x : Nat) => (x : Int)) = true := by
    unfold allIn
    rw [List.all_eq_true]
    intro x hx'
    obtain ⟨y, hy, rfl⟩ := List.mem_map.1 hx'
    have := hx y hy
    simp; omega
  have CW := Lib.hid (within_any a n cap (N.map fun (x : Nat) => (x : Int)) 1073741824 w (by simpa using hn) h (by omega))
  rw [hall] at CW
  have CS := Lib.hid (singles_any a n cap N w hn h (by omega) hx)
  have HS := Lib.hid hs
  have hn1 : ¬ ((n : Int) > 320) := by omega
  have hL3 : ¬ ((L : Int) < 1) := by omega
  have hL4 : ¬ ((L : Int) > 15) := by omega
  have hL5 : decide ((15 : Int) < L) = false := by simp; omega
  clear hall h hx hs
  go_enter Try.func25, Try.ntmps25
  go_wp2_with fail
  refine CW.out.mono ?_
  rintro r w1 ⟨rfl, rfl⟩
  go_wp2_with fail
  refine CS.out.mono ?_
  rintro r w1 ⟨v, d, rfl, hp, hd, hb⟩
  obtain ⟨av, cv, hv⟩ := hp.sees.form
  subst hv
  obtain ⟨P2, hP2, hP3, _, _, hPw⟩ := pow_int L hL2
  obtain ⟨D, hD⟩ : ∃ D, d.length = D := ⟨_, rfl⟩
  have hDP : P2 < (D : Int) := by
    have h2 := congrArg List.length hd
    simp only [List.length_map] at h2
    have h3 := HS.out
    rw [hP3, ← hD]; omega
  have HB := Lib.hid hb
  rw [hD]
  clear hp hd hb CW CS hP3
  go_wp2_with fail
  go_ret2
  exact ⟨rfl, HB.out⟩

/-- What 'Lengths' answers, whatever is asked. -/
def lenOut (n : Nat) (L : List Int) (most : Int) (B : Nat) (w : World) (ad : Option Addr) (m c : Nat) (er : Int) : Prop :=
  (lenBad n L most = true ∧ er = 1 ∧ m = 0 ∧ c = 0 ∧ ad = none) ∨
  (lenBad n L most = false ∧ 2 ^ most.toNat < (comeS (nats L) n).length ∧ er = 50 ∧ m = 0 ∧ c = 0 ∧ ad = none) ∨
  (lenBad n L most = false ∧ (comeS (nats L) n).length ≤ 2 ^ most.toNat ∧ er = 0 ∧ m = n ∧ c = n ∧ ∃ b P, ad = some ⟨b, 0, none⟩ ∧ Taken (nats L) n most.toNat P ∧
    w.ownsRow B 3 1 (.slice (some ⟨b, 0, none⟩) n n) n (cellsN ((List.range n).map fun i => often i P)))

theorem lenGood {n : Nat} {L : List Int} {most : Int} (h : lenBad n L most = false) : n ≤ 320 ∧ 1 ≤ most ∧ most ≤ 15 ∧ allIn 1073741824 L = true := by
  unfold lenBad at h
  simp only [Bool.or_eq_false_iff, decide_eq_false_iff_not, Bool.not_eq_false'] at h
  exact ⟨by omega, by omega, by omega, h.2⟩

theorem lengths_all (a : Option Addr) (n cap : Nat) (L : List Int) (most : Int) (w : World) (hn : L.length = n) (h : IsInts w a L) (hl : n ≤ 1000000) :
    Calls Try.prog 25 #[.slice a n cap, .int .i64 most] w fun e w' => ∃ ad m c er, e = .returned (.tuple #[.slice ad m c, .int .i64 er]) ∧ lenOut n L most w.heap.size w' ad m c er ∧ Below w.heap.size w w' := by
  by_cases hb : lenBad n L most = true
  · refine (lengths_bad a n cap L most w hn h hl hb).mono ?_
    rintro e w' ⟨rfl, hbe⟩
    exact ⟨none, 0, 0, 1, rfl, .inl ⟨hb, rfl, rfl, rfl, rfl⟩, hbe⟩
  have hb' : lenBad n L most = false := by simpa using hb
  obtain ⟨g1, g2, g3, g4⟩ := lenGood hb'
  obtain ⟨Lm, rfl⟩ : ∃ k : Nat, most = k := ⟨most.toNat, by omega⟩
  have hx : ∀ x ∈ nats L, x ≤ 1073741824 := by
    intro x hx
    obtain ⟨y, hy, rfl⟩ := List.mem_map.1 hx
    have := allIn_iff.1 g4 y hy
    omega
  have hI : IsInts w a ((nats L).map fun (x : Nat) => (x : Int)) := by rw [← nats_cast g4]; exact h
  have hN : (nats L).length = n := by rw [nats_length]; exact hn
  by_cases hs : (comeS (nats L) n).length ≤ 2 ^ Lm
  · refine (lengths_any a n cap (nats L) Lm w hN hI g1 hx (by omega) (by omega) hs).mono ?_
    rintro e w' ⟨b, P, rfl, hT, ho, hbe⟩
    exact ⟨_, n, n, 0, rfl, .inr (.inr ⟨hb', hs, rfl, rfl, rfl, b, P, rfl, hT, ho⟩), hbe⟩
  · refine (lengths_many a n cap (nats L) Lm w hN hI g1 hx (by omega) (by omega) (by omega)).mono ?_
    rintro e w' ⟨rfl, hbe⟩
    exact ⟨none, 0, 0, 50, rfl, .inr (.inl ⟨hb', by show 2 ^ Lm < _; omega, rfl, rfl, rfl, rfl⟩), hbe⟩

/-- What is known of the lengths that are taken. -/
theorem taken_full (N : List Nat) (n L : Nat) (P : List Tr) (h : Taken N n L P) (hL : 1 ≤ L) (hL2 : L ≤ 15) (hs : (comeS N n).length ≤ 2 ^ L) :
    (∀ i, i < n → (often i P = 0 ↔ N.getD i 0 = 0)) ∧ (∀ i, often i P ≤ L) ∧
    tot gU ((List.range n).map fun i => often i P) = (if (comeS N n).length = 0 then 0 else if (comeS N n).length = 1 then 16384 else 32768) := by
  have hmem : ∀ i, i ∈ comeS N n ↔ i < n ∧ 0 < N.getD i 0 := comeS_mem N n
  have hsum : (∀ i, i < n → i ∉ comeS N n → often i P = 0) → tot gU ((List.range n).map fun i => often i P) = tot (fun i => gU (often i P)) (comeS N n) := fun h0 => by
    rw [tot_map]
    unfold comeS
    rw [tot_filter]
    apply tot_congr
    intro i hi
    have hi' := List.mem_range.1 hi
    by_cases hp : 0 < N.getD i 0
    · rw [if_pos (by simpa using hp)]
    · rw [if_neg (by simpa using hp), h0 i hi' (fun hm => hp ((hmem i).1 hm).2)]; rfl
  rcases h with ⟨h2, rfl⟩ | ⟨h2, Q, hQ, rfl⟩
  · have ho : ∀ i, often i ((comeS N n).map .leaf) = (comeS N n).count i := fun i => leaf_often i _
    have hz : ∀ i, i ∉ comeS N n → (comeS N n).count i = 0 := fun i hi => List.count_eq_zero_of_not_mem hi
    have h1 : ∀ i, i ∈ comeS N n → (comeS N n).count i = 1 := fun i hi => by
      have a := List.count_pos_iff.2 hi
      have b : (comeS N n).count i ≤ 1 := List.nodup_iff_count.1 (comeS_nodup N n) i
      omega
    refine ⟨fun i hi => ?_, fun i => ?_, ?_⟩
    · rw [ho]
      by_cases hm : i ∈ comeS N n
      · rw [h1 i hm]; have := ((hmem i).1 hm).2; omega
      · rw [hz i hm]
        have : ¬ (0 < N.getD i 0) := fun hp => hm ((hmem i).2 ⟨hi, hp⟩)
        omega
    · rw [ho]
      by_cases hm : i ∈ comeS N n
      · rw [h1 i hm]; exact hL
      · rw [hz i hm]; exact Nat.zero_le _
    · rw [hsum (fun i _ hm => by rw [ho]; exact hz i hm), tot_congr _ (fun _ => 16384) _ (fun i hi => by rw [ho, h1 i hi]; rfl), tot_const]
      by_cases h0 : (comeS N n).length = 0
      · rw [if_pos h0, h0]
      · rw [if_neg h0, if_pos (by omega)]
        rw [show (comeS N n).length = 1 by omega]
  · obtain ⟨_, m1, m2, m3, m4, _⟩ := made (fun i => N.getD i 0) (comeS N n) (comeS_nodup N n) h2 (fun i hi => ((hmem i).1 hi).2) L hL hs Q hQ
    refine ⟨fun i hi => ?_, m2, ?_⟩
    · by_cases hm : i ∈ comeS N n
      · have := m1 i hm; have := ((hmem i).1 hm).2; omega
      · rw [m3 i hm]
        have : ¬ (0 < N.getD i 0) := fun hp => hm ((hmem i).2 ⟨hi, hp⟩)
        omega
    · rw [hsum (fun i _ hm => m3 i hm), if_neg (by omega), if_neg (by omega),
        tot_congr _ (fun i => 2 ^ (15 - L) * 2 ^ (L - often i (Q.take (2 * (comeS N n).length - 2)))) _ (fun i hi => by
          have := m1 i hi
          have := m2 i
          unfold gU
          rw [if_neg (by omega), ← Nat.pow_add, show 15 - L + (L - often i (Q.take (2 * (comeS N n).length - 2))) = 15 - often i (Q.take (2 * (comeS N n).length - 2)) by omega]), tot_mul, m4, ← Nat.pow_add, show 15 - L + L = 15 by omega]

end Go.Proofs.Ytildikdoimobhaa.Huf
