/-
  Contracts of the document's own answer (miradorref05): Bit, begins, Find.
-/
import Derived.Test.YtikfenimgjeplaaHufRef2S
namespace Go.Proofs.Ytikfenimgjeplaa.Huf
open Go.ChangeShapes Go.WideShapes Go.ChangeAt Go.RowKit
set_option linter.unusedVariables false

theorem quiet_f {P : Program} {f : FuncId} {args : Array Value} {w : World} {n : Nat} {v : Value}
    (h : Calls P f args (w.drewN n) fun e w' => e = .returned v ∧ w.drewN n = w') : Calls P f args (w.drewN n) fun e w'' => e = .returned v ∧ ∃ m, w'' = w.drewN m :=
  h.mono fun _ _ ⟨he, hm⟩ => ⟨he, n, hm.symm⟩

/-- What is told of a slice of bits. -/
def IsBits (w : World) (a : Option Addr) (l : List Bool) : Prop :=
  0 < l.length → ∃ b off, a = some ⟨b, off, none⟩ ∧ b < w.heap.size ∧ ∀ i (h : i < l.length), w.cell? ⟨b, off + i, none⟩ = some (.bool l[i])
theorem IsBits.below {w w' : World} {a : Option Addr} {l : List Bool} {n : Nat} (h : IsBits w a l) (k : Below n w w') (hn : w.heap.size ≤ n) : IsBits w' a l := by
  intro h0
  obtain ⟨b, off, e, hb, hc⟩ := h h0
  exact ⟨b, off, e, Nat.lt_of_lt_of_le hb k.size, fun i hi => (k.cell (by show b < n; omega)).trans (hc i hi)⟩

def bitV (c l i : Nat) : Bool := decide (c / 2 ^ (l - 1 - i) % 2 = 1)

set_option maxHeartbeats 1000000 in
theorem refBit_any (c l i : Nat) (w : World) (hi : i < l) (hl : l ≤ 15) (hc : c < 32768) :
    Calls Try.prog 90 #[.agg #[.int .i64 c, .int .i64 l], .int .i64 i] w fun e w' => e = .returned (.bool (bitV c l i)) ∧ Below w.heap.size w w' := by
  obtain ⟨E, hE⟩ : ∃ E, l - 1 - i = E := ⟨_, rfl⟩
  obtain ⟨P, hP⟩ : ∃ P, 2 ^ E = P := ⟨_, rfl⟩
  obtain ⟨q, hq⟩ : ∃ q, c / P = q := ⟨_, rfl⟩
  obtain ⟨m, hm⟩ : ∃ m, q % 2 = m := ⟨_, rfl⟩
  have HV : Hid (bitV c l i = decide (m = 1)) := Lib.hid (by unfold bitV; rw [hE, hP, hq, hm])
  have CP := Lib.hid (fun (w : World) (n : Nat) => power_any E P (w.drewN n) hP (by omega))
  have hPb : 1 ≤ P := by rw [← hP]; exact Nat.pow_pos (by decide)
  have hP0 : ((P : Int) == 0) = false := by simp; omega
  have hP0' : ¬ ((P : Int) = 0) := by omega
  have hPb2 : P ≤ 32768 := by rw [← hP]; exact Nat.le_trans (Nat.pow_le_pow_right (by decide) (show E ≤ 15 by omega)) (by decide)
  have w1 : IntKind.i64.wrap ((l : Int) - 1) = (l : Int) - 1 := IntWalk.i64_in _ (by omega)
  have w2 : IntKind.i64.wrap ((l : Int) - 1 - i) = E := by rw [show (l : Int) - 1 - i = E by omega]; exact IntWalk.i64_in _ (by omega)
  have hqb : q ≤ 32768 := by rw [← hq]; exact Nat.le_trans (Nat.div_le_self _ _) (by omega)
  have t1 : (c : Int).tdiv P = q := by rw [← hq]; simp
  have t2 : IntKind.i64.wrap (q : Int) = q := IntWalk.i64_in _ (by omega)
  have t3 : (q : Int).tmod 2 = m := by rw [← hm, Int.tmod_eq_emod_of_nonneg (by omega)]; omega
  have t4 : IntKind.i64.wrap (m : Int) = m := IntWalk.i64_in _ (by omega)
  rw [HV.out]
  clear HV hE hP hq hm hPb
  go_enter Try.func90, Try.ntmps90
  go_wp2_with fail
  go_quiet ((go_at_call 69; exact quiet_f (CP.out _ _)))
  go_wp2_with fail
  go_ret
  have hb : ((m : Int) == 1) = decide (m = 1) := by
    by_cases h : m = 1
    · subst h; rfl
    · rw [decide_eq_false h]; simp; omega
  have bA := (Below.refl w.heap.size w).alloc (Nat.le_refl _) (.cells #[.int .i64 c, .int .i64 l] 81)
  refine ⟨?_, bA.os, bA.tape, bA.output, bA.size, bA.block⟩
  show Ending.returned (.bool ((m : Int) == 1)) = _
  rw [hb]

set_option maxRecDepth 10000 in
set_option maxHeartbeats 2000000 in
theorem refBegins_any (c l n cap : Nat) (a : Option Addr) (bs : List Bool) (w : World) (hn : bs.length = n) (hl : l ≤ 15) (hc : c < 32768) (hb : IsBits w a bs) (hnm : n ≤ 1000) :
    Calls Try.prog 85 #[.agg #[.int .i64 c, .int .i64 l], .slice a n cap] w fun e w' => e = .returned (.bool (decide (n ≤ l) && (List.range n).all fun i => bitV c l i == bs.getD i false)) ∧ Below w.heap.size w w' := by
  have HB := Lib.hid hb
  clear hb
  by_cases h1 : l < n
  · have h1' : (l : Int) < n := by omega
    rw [decide_eq_false (show ¬ n ≤ l by omega)]
    go_enter Try.func85, Try.ntmps85
    go_wp2_with fail
    go_ret
    exact ⟨rfl, (Below.refl _ _).alloc (Nat.le_refl _) _⟩
  have h1' : ¬ ((l : Int) < n) := by omega
  rw [decide_eq_true (show n ≤ l by omega), Bool.true_and]
  generalize hres : ((List.range n).all fun i => bitV c l i == bs.getD i false) = res
  have HR := Lib.hid hres
  clear hres
  go_enter Try.func85, Try.ntmps85
  go_wp2_with fail
  go_loopw [5] (fun i wr => ∃ k : Nat, k ≤ n ∧ i = .int .i64 k ∧ ((List.range k).all fun i => bitV c l i == bs.getD i false) = true ∧ Below (w.heap.size + 1) (w.alloc (.cells #[.int .i64 c, .int .i64 l] 81)) wr) (fun i _ => n - (intOf i).toNat)
  case atStart => exact ⟨0, Nat.zero_le _, rfl, rfl, Below.refl _ _⟩
  case round =>
    obtain ⟨k, hk, rfl, hall, hbe⟩ := hrel
    have HA := Lib.hid hall
    have HBE := Lib.hid hbe
    have HBW : Hid (Below w.heap.size w wr) := Lib.hid (((Below.refl _ _).alloc (Nat.le_refl _) _).trans (hbe.mono (Nat.le_succ _)))
    clear hall hbe
    by_cases hlt : k < n
    · have hlt' : (k : Int) < n := by omega
      obtain ⟨b, off, rfl, hbl, hcs⟩ := HB.out (by omega)
      have e2 := (HBW.out.cell (p := ⟨b, off + k, none⟩) hbl).trans (hcs k (by omega))
      have nA := heap_alloc_new w (.cells #[.int .i64 c, .int .i64 l] 81)
      have e0 : wr.cell? ⟨w.heap.size, 0, none⟩ = some (.int .i64 c) := (HBE.out.cell (p := ⟨w.heap.size, 0, none⟩) (Nat.lt_succ_self _)).trans ((cell_of_row _ _ 0 _ _ _ nA).trans rfl)
      have e1 : wr.cell? ⟨w.heap.size, 1, none⟩ = some (.int .i64 l) := (HBE.out.cell (p := ⟨w.heap.size, 1, none⟩) (Nat.lt_succ_self _)).trans ((cell_of_row _ _ 1 _ _ _ nA).trans rfl)
      have hgd : bs.getD k false = bs[k] := by rw [List.getD_eq_getElem?_getD, List.getElem?_eq_getElem (by omega)]; rfl
      have HST : Hid (((List.range (k + 1)).all fun i => bitV c l i == bs.getD i false) = (bitV c l k == bs[k])) := Lib.hid (by
        rw [List.range_succ, List.all_append, HA.out, Bool.true_and, ← hgd]; simp)
      have HNO : Hid (bitV c l k ≠ bs[k] → res = false) := Lib.hid (fun hne => by
        rw [← HR.out, List.all_eq_false]
        refine ⟨k, List.mem_range.2 hlt, ?_⟩
        rw [hgd]; simpa using hne)
      have CB := Lib.hid (fun w => refBit_any c l k w (by omega) hl hc)
      have hsz : w.heap.size < wr.heap.size := by
        have h := HBE.out.size
        simp at h; omega
      have hbl2 : b < wr.heap.size := Nat.lt_of_lt_of_le hbl HBW.out.size
      clear hcs nA hgd
      generalize bs[k] = bk at *
      generalize bitV c l k = bv at *
      obtain ⟨B0, hB0⟩ : ∃ B0, w.heap.size = B0 := ⟨_, rfl⟩
      have HB0 := Lib.hid hB0
      rw [hB0] at e0 e1 hsz ⊢
      clear hB0
      go_wp2_with fail
      go_region_held3 (fun w' => w'.cell? ⟨B0, 0, none⟩ = some (.int .i64 c) ∧ w'.cell? ⟨B0, 1, none⟩ = some (.int .i64 l) ∧ w'.cell? ⟨b, off + k, none⟩ = some (.bool bk)) (first | exact ⟨e0, e1, e2⟩ | exact hk2)
        (first
          | (go_at_call 90; refine (CB.out _).mono ?_; rintro r w2 ⟨rfl, b2⟩; have b2' : Below wr.heap.size wr w2 := ⟨b2.os, b2.tape, b2.output, b2.size, b2.block⟩; have hk2 : w2.cell? ⟨B0, 0, none⟩ = some (.int .i64 c) ∧ w2.cell? ⟨B0, 1, none⟩ = some (.int .i64 l) ∧ w2.cell? ⟨b, off + k, none⟩ = some (.bool bk) := ⟨(b2'.cell (p := ⟨B0, 0, none⟩) hsz).trans e0, (b2'.cell (p := ⟨B0, 1, none⟩) hsz).trans e1, (b2'.cell (p := ⟨b, off + k, none⟩) hbl2).trans e2⟩))
      have B2 := Lib.hid (HBE.out.trans (b2'.mono (show w.heap.size + 1 ≤ wr.heap.size by have := HB0.out; omega)))
      have B3 := Lib.hid (HBW.out.trans (b2'.mono HBW.out.size))
      clear hk2 e0 e1 e2 HBE HBW CB b2 b2'
      have EQ : bv = bk → Hid (((List.range (k + 1)).all fun i => bitV c l i == bs.getD i false) = true) := fun h => Lib.hid (by rw [HST.out, h]; simp)
      have HEQ := Lib.hid EQ
      clear HST EQ
      rw [HB0.out] at B2
      cases bv <;> cases bk
      · have HN := HEQ.out rfl
        clear HNO HEQ
        go_wp2_with fail
        refine ⟨⟨k + 1, by omega, by go_num, HN.out, B2.out⟩, ?_⟩
        simp [intOf]; omega
      · obtain rfl := HNO.out (by decide)
        clear HNO HEQ
        go_wp2_with fail
        go_ret
        exact ⟨rfl, B3.out⟩
      · obtain rfl := HNO.out (by decide)
        clear HNO HEQ
        go_wp2_with fail
        go_ret
        exact ⟨rfl, B3.out⟩
      · have HN := HEQ.out rfl
        clear HNO HEQ
        go_wp2_with fail
        refine ⟨⟨k + 1, by omega, by go_num, HN.out, B2.out⟩, ?_⟩
        simp [intOf]; omega
    · obtain rfl : k = n := by omega
      obtain rfl : true = res := HA.out.symm.trans HR.out
      go_wp2_with fail
      go_ret
      exact ⟨rfl, HBW.out⟩

theorem begV (c l : Nat) (bs : List Bool) (hc : c < 2 ^ l) : (decide (bs.length ≤ l) && (List.range bs.length).all fun i => bitV c l i == bs.getD i false) = decide (bs.length ≤ l ∧ c / 2 ^ (l - bs.length) = bigN bs) := by
  by_cases h : bs.length ≤ l
  · rw [decide_eq_true h, Bool.true_and]
    have hb := begins_iff c l hc bs.length bs rfl h
    rw [Bool.eq_iff_iff, List.all_eq_true, decide_eq_true_eq]
    constructor
    · intro h2
      refine ⟨h, hb.1 fun i hi => ?_⟩
      have h3 := h2 i (List.mem_range.2 hi)
      rw [List.getD_eq_getElem?_getD, List.getElem?_eq_getElem hi] at h3
      simpa [bitV] using h3
    · rintro ⟨_, h2⟩ i hi
      have hi' := List.mem_range.1 hi
      have h3 := hb.2 h2 i hi'
      rw [List.getD_eq_getElem?_getD, List.getElem?_eq_getElem hi']
      simpa [bitV] using h3
  · rw [decide_eq_false h, Bool.false_and, decide_eq_false (fun h2 => h h2.1)]

theorem findAt_zero (N : List Nat) (k v n : Nat) (s : Int) (j : Nat) (hj : N.length - (n + 1) = j) (h : N.getD j 0 = 0) : findAt N k v (n + 1) s = findAt N k v n s := by
  conv => lhs; unfold findAt
  simp only [hj]; rw [if_pos h]
theorem findAt_is (N : List Nat) (k v n : Nat) (s : Int) (j : Nat) (hj : N.length - (n + 1) = j) (h : N.getD j 0 ≠ 0) (h2 : N.getD j 0 = k ∧ codeV N j = v) : findAt N k v (n + 1) s = j := by
  conv => lhs; unfold findAt
  simp only [hj]; rw [if_neg h, if_pos h2]
theorem findAt_begins (N : List Nat) (k v n : Nat) (s : Int) (j : Nat) (hj : N.length - (n + 1) = j) (h : N.getD j 0 ≠ 0) (h2 : k < N.getD j 0 ∧ codeV N j / 2 ^ (N.getD j 0 - k) = v) : findAt N k v (n + 1) s = findAt N k v n (-1) := by
  conv => lhs; unfold findAt
  simp only [hj]; rw [if_neg h, if_neg (by omega), if_pos h2]
theorem findAt_none (N : List Nat) (k v n : Nat) (s : Int) (j : Nat) (hj : N.length - (n + 1) = j) (h : N.getD j 0 ≠ 0) (h2 : ¬ (N.getD j 0 = k ∧ codeV N j = v)) (h3 : ¬ (k < N.getD j 0 ∧ codeV N j / 2 ^ (N.getD j 0 - k) = v)) : findAt N k v (n + 1) s = findAt N k v n s := by
  conv => lhs; unfold findAt
  simp only [hj]; rw [if_neg h, if_neg h2, if_neg h3]

set_option maxRecDepth 10000 in
set_option maxHeartbeats 2000000 in
theorem find_any (bc n k cap : Nat) (a : Option Addr) (N : List Nat) (bs : List Bool) (w : World) (hn : N.length = n) (hk : bs.length = k) (hl : n ≤ 320) (hkm : k ≤ 1000) (h15 : ∀ x ∈ N, x ≤ 15) (hsm : ∀ i, i < N.length → codeV N i < 2 ^ N.getD i 0)
    (ho : w.ownsRow 0 81 2 (.slice (some ⟨bc, 0, none⟩) n n) n (rowC n (codeV N) (fun i => N.getD i 0))) (hb : IsBits w a bs) :
    Calls Try.prog 78 #[.slice (some ⟨bc, 0, none⟩) n n, .slice a k cap] w fun e w' => e = .returned (.int .i64 (findV N k (bigN bs))) ∧ Below w.heap.size w w' := by
  have HO := Lib.hid ho
  have HB := Lib.hid hb
  have HS := Lib.hid hsm
  have H15 := Lib.hid h15
  unfold findV
  rw [hn]
  generalize hres : findAt N k (bigN bs) n (-2) = res
  have HR := Lib.hid hres
  clear ho hb hsm h15 hres
  go_enter Try.func78, Try.ntmps78
  go_wp2_with fail
  go_loopw [5, 6] (fun v i wr => ∃ j : Nat, ∃ s : Int, j ≤ n ∧ i = .int .i64 j ∧ v = .int .i64 s ∧ findAt N k (bigN bs) (n - j) s = res ∧ Below w.heap.size w wr) (fun _ i _ => n - (intOf i).toNat)
  case atStart => exact ⟨0, -2, Nat.zero_le _, rfl, rfl, HR.out, Below.refl _ _⟩
  case round =>
    obtain ⟨j, s, hj, rfl, rfl, hf, hbe⟩ := hrel
    have HF := Lib.hid hf
    have HBE := Lib.hid hbe
    clear hf hbe
    by_cases hlt : j < n
    · have hlt' : (j : Int) < n := by omega
      have hbc : bc < w.heap.size := (HO.out.lt bc rfl).2
      have dj := rowC_get n (codeV N) (fun i => N.getD i 0) j hlt
      have a1 := (HBE.out.cell (p := ⟨bc, j * 2, none⟩) hbc).trans ((HO.out.cellAt (j * 2) (by omega)).trans dj.1)
      have a2 := (HBE.out.cell (p := ⟨bc, j * 2 + 1, none⟩) hbc).trans ((HO.out.cellAt (j * 2 + 1) (by omega)).trans dj.2)
      have l15 : N.getD j 0 ≤ 15 := by
        rw [List.getD_eq_getElem?_getD, List.getElem?_eq_getElem (by omega)]; exact H15.out _ (List.getElem_mem _)
      have hsm := HS.out j (by omega)
      have hsz : codeV N j < 32768 := Nat.lt_of_lt_of_le hsm (Nat.le_trans (Nat.pow_le_pow_right (by decide) l15) (by decide))
      have CB := Lib.hid (refBegins_any (codeV N j) (N.getD j 0) k cap a bs wr hk l15 hsz (HB.out.below HBE.out (Nat.le_refl _)) hkm)
      have hbv := begV (codeV N j) (N.getD j 0) bs hsm
      rw [hk] at hbv
      rw [hbv] at CB
      obtain ⟨m, hm, hm2⟩ : ∃ m, n - j = m + 1 ∧ n - (j + 1) = m := ⟨n - j - 1, by omega, by omega⟩
      rw [hm] at HF
      have hNj : N.length - (m + 1) = j := by omega
      have Z0 := Lib.hid (findAt_zero N k (bigN bs) m s j hNj)
      have Z1 := Lib.hid (findAt_is N k (bigN bs) m s j hNj)
      have Z2 := Lib.hid (findAt_begins N k (bigN bs) m s j hNj)
      have Z3 := Lib.hid (findAt_none N k (bigN bs) m s j hNj)
      rw [← hm2] at HF Z0 Z1 Z2 Z3
      clear dj hbv hsm hm hm2 hNj
      generalize N.getD j 0 = l at *
      generalize codeV N j = c at *
      by_cases h0 : l = 0
      · subst h0
        have HN : Hid (findAt N k (bigN bs) (n - (j + 1)) s = res) := Lib.hid ((Z0.out rfl).symm.trans HF.out)
        clear Z0 Z1 Z2 Z3 CB
        go_wp2_with fail
        refine ⟨⟨j + 1, s, by omega, by go_num, rfl, HN.out, HBE.out⟩, ?_⟩
        simp [intOf]; omega
      · have h0' : ((l : Int) == 0) = false := by simp; omega
        by_cases hi : k ≤ l ∧ c / 2 ^ (l - k) = bigN bs
        · rw [decide_eq_true hi] at CB
          by_cases hlk : l = k
          · have hr : (j : Int) = res := (Z1.out h0 ⟨hlk, by have := hi.2; rwa [hlk, Nat.sub_self, Nat.pow_zero, Nat.div_one] at this⟩).symm.trans HF.out
            have hlk' : ((l : Int) == k) = true := by simp; omega
            subst hr
            clear Z0 Z1 Z2 Z3 hlk hi h0
            go_wp2_with fail
            refine CB.out.mono ?_
            rintro r w2 ⟨rfl, b2⟩
            have B2 := Lib.hid (HBE.out.trans (b2.mono HBE.out.size))
            have a3 := (b2.cell (p := ⟨bc, j * 2 + 1, none⟩) (by have := HBE.out.size; show bc < wr.heap.size; omega)).trans a2
            clear b2 CB HBE
            go_wp2_with fail
            go_ret
            exact ⟨rfl, B2.out⟩
          · have hlk' : ((l : Int) == k) = false := by simp; omega
            have HN : Hid (findAt N k (bigN bs) (n - (j + 1)) (-1) = res) := Lib.hid ((Z2.out h0 ⟨by omega, hi.2⟩).symm.trans HF.out)
            clear Z0 Z1 Z2 Z3 hlk hi h0
            go_wp2_with fail
            refine CB.out.mono ?_
            rintro r w2 ⟨rfl, b2⟩
            have B2 := Lib.hid (HBE.out.trans (b2.mono HBE.out.size))
            have a3 := (b2.cell (p := ⟨bc, j * 2 + 1, none⟩) (by have := HBE.out.size; show bc < wr.heap.size; omega)).trans a2
            clear b2 CB HBE
            go_wp2_with fail
            refine ⟨⟨j + 1, -1, by omega, by go_num, rfl, HN.out, B2.out⟩, ?_⟩
            simp [intOf]; omega
        · rw [decide_eq_false hi] at CB
          have HN : Hid (findAt N k (bigN bs) (n - (j + 1)) s = res) := Lib.hid ((Z3.out h0 (fun h => hi ⟨by omega, by rw [h.1, Nat.sub_self, Nat.pow_zero, Nat.div_one]; exact h.2⟩) (fun h => hi ⟨by omega, h.2⟩)).symm.trans HF.out)
          clear Z0 Z1 Z2 Z3 hi h0
          go_wp2_with fail
          refine CB.out.mono ?_
          rintro r w2 ⟨rfl, b2⟩
          have B2 := Lib.hid (HBE.out.trans (b2.mono HBE.out.size))
          clear b2 CB HBE
          go_wp2_with fail
          refine ⟨⟨j + 1, s, by omega, by go_num, rfl, HN.out, B2.out⟩, ?_⟩
          simp [intOf]; omega
    · obtain rfl : j = n := by omega
      rw [Nat.sub_self] at HF
      have hr : s = res := HF.out
      subst hr
      go_wp2_with fail
      go_ret
      exact ⟨rfl, HBE.out⟩

end Go.Proofs.Ytikfenimgjeplaa.Huf
