/-
  Contract of huffman.cheapest.
-/
import Derived.Test.YtildikdoimobhaaHufRank
namespace Go.Proofs.Ytildikdoimobhaa.Huf
open Go.ChangeShapes Go.WideShapes Go.ChangeAt Go.RowKit Go.Sort
set_option linter.unusedVariables false

theorem lv_bound (f : Nat → Nat) (S : List Nat) (M : Nat) (hf : ∀ i ∈ S, f i ≤ M) : ∀ (d : Nat) (P : List Tr), Lv f S (d + 1) P → ∀ t ∈ P, t.syms.length ≤ 2 ^ d ∧ t.wt f ≤ 2 ^ d * M := by
  intro d
  induction d with
  | zero =>
    rintro P ⟨P', h', hp, _⟩ t ht
    cases h'
    have := hp.mem_iff.1 ht
    simp [pairs] at this
    obtain ⟨i, hi, rfl⟩ := this
    exact ⟨Nat.le_refl _, by show f i ≤ _; have := hf i hi; omega⟩
  | succ d ih =>
    rintro P ⟨P', h', hp, _⟩ t ht
    have h2 := hp.mem_iff.1 ht
    rcases List.mem_append.1 h2 with h2 | h2
    · obtain ⟨i, hi, rfl⟩ := List.mem_map.1 h2
      refine ⟨Nat.succ_le_of_lt (Nat.pow_pos (by decide)), ?_⟩
      show f i ≤ _
      have h3 := hf i hi
      have : 1 * M ≤ 2 ^ (d + 1) * M := Nat.mul_le_mul_right M (Nat.succ_le_of_lt (Nat.pow_pos (by decide)))
      omega
    · obtain ⟨a, b, rfl, ha, hb⟩ := pairs_mem P' t h2
      have x := ih P' h' a ha
      have y := ih P' h' b hb
      rw [Nat.pow_succ]
      refine ⟨by simp only [Tr.syms, List.length_append]; omega, ?_⟩
      show a.wt f + b.wt f ≤ 2 ^ d * 2 * M
      rw [Nat.mul_assoc, Nat.mul_left_comm]
      omega
theorem lv_length (f : Nat → Nat) (S : List Nat) : ∀ (d : Nat) (P : List Tr), Lv f S d P → P.length ≤ 2 * S.length := by
  intro d
  induction d with
  | zero => rintro P h; cases h; simp
  | succ d ih =>
    rintro P ⟨P', h', hp, _⟩
    have := ih P' h'
    rw [hp.length_eq, List.length_append, List.length_map, pairs_length]; omega

/-- A level of packages in memory. -/
structure Level (f : Nat → Nat) (S : List Nat) (k : Nat) (w : World) (b m cap : Nat) (l : List Pk) : Prop where
  lv : Lv f S k (l.map (·.t))
  len : l.length = m
  cap : m ≤ cap ∧ cap ≤ maxLen
  row : RowAt f w b l
  sym : ∀ p ∈ l, SymAt w p

theorem lv_next {f : Nat → Nat} {S : List Nat} {k : Nat} {d l l2 d' : List Pk} (hd : d.map (·.t) = S.map .leaf) (h : Lv f S k (l.map (·.t))) (h2 : l2.map (·.t) = pairs (l.map (·.t))) (hp : d'.Perm (d ++ l2)) (hs : d'.Pairwise (fun p q => p.t.wt f ≤ q.t.wt f)) :
    Lv f S (k + 1) (d'.map (·.t)) := by
  refine ⟨_, h, ?_, List.pairwise_map.2 hs⟩
  rw [← h2, ← hd, ← List.map_append]
  exact hp.map _

theorem cheapest_few (v : Value) (a : Option Addr) (n cap : Nat) (L : Nat) (w : World) (hv : v = .slice a n cap) (h : n < 2) :
    Calls Try.prog 41 #[v, .int .i64 L] w fun e w' => e = .returned v ∧ w' = w := by
  subst hv
  have hn : (n : Int) < 2 := by omega
  go_enter Try.func41, Try.ntmps41
  go_wp2_with fail
  go_ret
  exact ⟨rfl, rfl⟩

set_option maxHeartbeats 2000000 in
theorem cheapest_any (f : Nat → Nat) (S : List Nat) (v : Value) (d : List Pk) (n L B M : Nat) (w : World) (hM : 2 * n - 2 = M) (hd : d.length = n) (hS : d.map (·.t) = S.map .leaf) (h2 : 2 ≤ n) (hn : n ≤ 320) (hL : 1 ≤ L) (hL2 : L ≤ 15) (hf : ∀ i ∈ S, f i ≤ 1073741824)
    (hP : Packs f w B v d) (hlen : ∀ P, Lv f S L P → 2 * n - 2 ≤ P.length) (z : Nat) (hz : z < w.heap.size) (hzd : ∀ p ∈ d, p.g ≠ z) :
    Calls Try.prog 41 #[v, .int .i64 L] w fun e w' => ∃ b m cap l, e = .returned (.slice (some ⟨b, 0, none⟩) M cap) ∧ Level f S L w' b m cap l ∧ Below w.heap.size w w' ∧ b ≠ z ∧ ∀ p ∈ l, p.g ≠ z := by
  have hSn : S.length = n := by have := congrArg List.length hS; simp only [List.length_map] at this; omega
  have C0 := Lib.hid (ranked_any f v (.slice none 0 0) d [] n w (by simpa using hd) h2 hP.sees (sees_nil _ _) (by omega) (by simp))
  have HP := Lib.hid hP
  have HS := Lib.hid hS
  have HF := Lib.hid hf
  have HLEN := Lib.hid hlen
  have HZD := Lib.hid hzd
  obtain ⟨a0, c0, hv0⟩ := hP.sees.form
  rw [hd] at hv0
  subst hv0
  clear hP hS hf hlen hzd
  have hn2 : ¬ ((n : Int) < 2) := by omega
  obtain ⟨m1, hm1⟩ : ∃ m, L - 1 = m := ⟨_, rfl⟩
  have hm2 : (L : Int) - 1 = m1 := by omega
  go_enter Try.func41, Try.ntmps41
  go_wp2_with fail
  refine C0.out.mono ?_
  rintro r w1 ⟨b1, cap1, d1, rfl, q1, q2, q3, q4, q5, q6, q7⟩
  have Z1 : Hid (b1 ≠ z ∧ ∀ p ∈ d1, p.g ≠ z) := Lib.hid ⟨by omega, fun p hp => HZD.out p (by simpa using q3.mem_iff.1 hp)⟩
  have H1 : Hid (Level f S 1 w1 b1 n cap1 d1) := Lib.hid ⟨lv_next (l := []) (l2 := []) HS.out rfl rfl q3 q4, by rw [q3.length_eq]; simpa using hd, ⟨q1, q2⟩, q5, fun p hp => (HP.out.sym p (by simpa using q3.mem_iff.1 hp)).below q6 (Nat.le_refl _)⟩
  have B1 := Lib.hid q6
  clear q1 q2 q3 q4 q5 q6 q7 C0
  go_wp2_with fail
  go_loopw [5, 14] (fun x i wr => ∃ (k b m cap : Nat) (l : List Pk), k ≤ m1 ∧ i = .int .i64 k ∧ x = .slice (some ⟨b, 0, none⟩) m cap ∧ Level f S (k + 1) wr b m cap l ∧ Below w.heap.size w wr ∧ b ≠ z ∧ ∀ p ∈ l, p.g ≠ z) (fun _ i _ => m1 - (intOf i).toNat)
  case atStart => exact ⟨0, b1, n, cap1, d1, Nat.zero_le _, rfl, rfl, H1.out, B1.out, Z1.out.1, Z1.out.2⟩
  case round =>
    obtain ⟨k, b, m, cap, l, hk, rfl, rfl, hl, hb, hz1, hz2⟩ := hrel
    clear H1 B1 Z1
    have HZ := Lib.hid (And.intro hz1 hz2)
    clear hz1 hz2
    have HL := Lib.hid hl
    have HB := Lib.hid hb
    clear hl hb
    have hml : m ≤ 2 * n := by have := lv_length f S _ _ HL.out.lv; rw [List.length_map, HL.out.len, hSn] at this; exact this
    by_cases hlt : k < m1
    · have hlt' : (k : Int) < m1 := by omega
      have hbd := lv_bound f S 1073741824 HF.out k _ HL.out.lv
      have hpw : 2 ^ k ≤ 16384 := Nat.le_trans (Nat.pow_le_pow_right (by decide) (show k ≤ 14 by omega)) (by decide)
      have C2 := Lib.hid (pairs_call f b m cap l wr HL.out.len (by omega) HL.out.row HL.out.sym (fun p hp => by
        have h := hbd p.t (List.mem_map_of_mem hp)
        have : 2 ^ k * 1073741824 ≤ 16384 * 1073741824 := Nat.mul_le_mul_right _ hpw
        exact ⟨by omega, by omega⟩))
      clear hbd hpw
      go_wp2_with fail
      refine C2.out.mono ?_
      rintro r w2 ⟨v2, l2, rfl, p2, t2, b2, ge2⟩
      have GE2 : Hid (∀ p ∈ l2, p.g ≠ z) := Lib.hid fun p hp => by have := ge2 p hp; have := HB.out.size; omega
      clear ge2
      have hl2 : l2.length ≤ n := by have := congrArg List.length t2; rw [List.length_map, pairs_length, List.length_map, HL.out.len] at this; omega
      have bb := HB.out.trans (b2.mono HB.out.size)
      have C3 := Lib.hid (ranked_any f (.slice a0 n c0) v2 d l2 (n + l2.length) w2 (by rw [hd]) (by omega) (HP.out.sees.below bb (Nat.le_refl _)) p2.sees (by omega) (by omega))
      have P2 := Lib.hid p2
      have T2 := Lib.hid t2
      have B2 := Lib.hid bb
      have LS2 : Hid (∀ p ∈ l, SymAt w2 p) := Lib.hid fun p hp => (HL.out.sym p hp).below b2 (Nat.le_refl _)
      clear p2 t2 b2 bb C2
      obtain ⟨a3, c3, hv3⟩ := P2.out.sees.form
      subst hv3
      generalize hm2e : l2.length = m2 at *
      have HM2 := Lib.hid hm2e
      clear hm2e
      go_wp2_with fail
      refine C3.out.mono ?_
      rintro r w3 ⟨b3, cap3, d3, rfl, q1, q2, q3, q4, q5, q6, q7⟩
      have Z3 : Hid (b3 ≠ z ∧ ∀ p ∈ d3, p.g ≠ z) := Lib.hid ⟨by have := B2.out.size; omega, fun p hp => by
        rcases List.mem_append.1 (q3.mem_iff.1 hp) with h | h
        · exact HZD.out p h
        · exact GE2.out p h⟩
      have H3 : Hid (Level f S (k + 1 + 1) w3 b3 (n + m2) cap3 d3) := Lib.hid ⟨lv_next HS.out HL.out.lv T2.out q3 q4, by rw [q3.length_eq, List.length_append, hd, HM2.out], ⟨q1, q2⟩, q5, fun p hp => by
        rcases List.mem_append.1 (q3.mem_iff.1 hp) with h | h
        · exact (HP.out.sym p h).below (B2.out.trans (q6.mono B2.out.size)) (Nat.le_refl _)
        · exact (P2.out.sym p h).below q6 (Nat.le_refl _)⟩
      have B3 := Lib.hid (B2.out.trans (q6.mono B2.out.size))
      clear q1 q2 q3 q4 q5 q6 q7 C3 P2 T2 LS2 B2 HL HB
      go_wp2_with fail
      refine ⟨⟨k + 1, b3, n + m2, cap3, d3, by omega, by go_num, rfl, H3.out, B3.out, Z3.out.1, Z3.out.2⟩, ?_⟩
      simp [intOf]; omega
    · obtain rfl : k = m1 := by omega
      have hMm : M ≤ m := by
        have := HLEN.out _ (by have := HL.out.lv; rw [show k + 1 = L by omega] at this; exact this)
        rw [List.length_map, HL.out.len, hM] at this; exact this
      have hMc : (M : Int) ≤ cap := by have := HL.out.cap.1; omega
      have hM2 : 2 * (n : Int) - 2 = M := by omega
      have HLL : Hid (Level f S L wr b m cap l) := Lib.hid (by have := HL.out; rw [show k + 1 = L by omega] at this; exact this)
      have hc63 := HL.out.cap.2
      unfold maxLen at hc63
      clear HL
      go_wp2_with fail
      go_ret
      exact ⟨b, m, cap, l, rfl, HLL.out, HB.out, HZ.out.1, HZ.out.2⟩

end Go.Proofs.Ytildikdoimobhaa.Huf
