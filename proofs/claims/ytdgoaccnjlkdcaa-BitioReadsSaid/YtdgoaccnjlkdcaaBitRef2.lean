/-
  Contracts of the reference of layer 2: Reverse, Align, All, Text.
-/
import Derived.Test.YtdgoaccnjlkdcaaBitRef
namespace Go.Proofs.Ytdgoaccnjlkdcaa.Bit
open Go.ChangeShapes Go.WideShapes Go.ChangeAt Go.RowKit
set_option linter.unusedVariables false

/-- A slice's length. -/
def lenOf : Value → Nat | .slice _ n _ => n | _ => 0

theorem take_rev_succ (l : List Bool) (k : Nat) (h : k < l.length) : (l.drop k).reverse = (l.drop (k + 1)).reverse ++ [l[k]] := by
  rw [List.drop_eq_getElem_cons h, List.reverse_cons]

set_option maxHeartbeats 1000000 in
theorem refReverse_any (bt len : Int) (w : World) :
    Calls Try.prog 13 #[.agg #[.int .i64 bt, .int .i64 len]] w fun r w' => r = .returned (.int .i64 (revV bt len)) ∧ Below w.heap.size w w' := by
  have hB := Nat.le_refl w.heap.size
  obtain ⟨t0, hi, hz0, hz1, hz2⟩ := info_parts info_bool
  have hrv : revV bt len = num (bitsOf (cnt len) bt).reverse := rfl
  rw [hrv]
  clear hrv
  have hle := cnt_le len
  obtain ⟨l, hl⟩ : ∃ l, bitsOf (cnt len) bt = l := ⟨_, rfl⟩
  have hll : l.length ≤ 32 := by rw [← hl, bitsOf_length]; exact hle
  have HL := Lib.hid hl
  rw [hl]
  clear hl hle
  go_enter Try.func13, Try.ntmps13
  go_wp2_with fail
  refine (of_any _ _ _).mono ?_
  rintro r w1 ⟨u, rfl, h1, b1, f1⟩
  rw [HL.out] at h1
  have bl1 := below_more ((Below.refl w.heap.size w).alloc hB (.cells #[.int .i64 bt, .int .i64 len] 35)) hB b1
  obtain ⟨a, cap, rfl, hs⟩ := h1.shape
  have s1 := h1.sees
  have fr1 : ∀ k, (Value.slice a l.length cap).ownBlock = some k → k < w1.heap.size := fun k hk => (World.ownsRow.lt h1 k hk).2
  obtain ⟨n, hn⟩ : ∃ n, l.length = n := ⟨_, rfl⟩
  have HN := Lib.hid hn
  rw [hn] at hll
  rw [hn]
  have S1 := Lib.hid s1
  clear hs h1 b1 f1 hn s1 fr1
  go_wp2_with fail
  go_loopw [4, 5] (fun v i wr => ∃ k : Nat, k ≤ n ∧ i = .int .i64 ((k : Int) - 1) ∧ BlAt wr v (l.drop k).reverse ∧ Below w1.heap.size w1 wr ∧ From w1.heap.size v) (fun _ i _ => (intOf i + 1).toNat)
  case atStart => exact ⟨n, Nat.le_refl _, rfl, by rw [List.drop_of_length_le (by rw [HN.out]; exact Nat.le_refl _)]; exact BlAt.nil _, Below.refl _ _, From.nil _⟩
  case round =>
    obtain ⟨k, hk, rfl, h2, bl2, f2⟩ := hrel
    have hlen : (l.drop k).reverse.length = n - k := by rw [List.length_reverse, List.length_drop, HN.out]
    by_cases h0 : 0 < k
    · obtain ⟨g, off, rfl, hg, hc⟩ := S1.out (by rw [HN.out]; omega)
      have hkl : k - 1 < l.length := by rw [HN.out]; omega
      have hcell := hc (k - 1) hkl
      rw [cellsB_at hkl] at hcell
      have hd := take_rev_succ l (k - 1) hkl
      rw [show k - 1 + 1 = k by omega] at hd
      generalize l[k - 1] = bb at *
      have hcell2 : wr.cell? ⟨g, off + (k - 1), none⟩ = some (.bool bb) := (bl2.cell (p := ⟨g, off + (k - 1), none⟩) hg).trans hcell
      have HD := Lib.hid hd
      have HLEN := Lib.hid hlen
      have H2 := Lib.hid h2
      have e1 : ((k : Int) - 1) = ((k - 1 : Nat) : Int) := by omega
      have e2 : (0 : Int) ≤ ((k - 1 : Nat) : Int) := by omega
      have e3 : ((k - 1 : Nat) : Int) < n := by omega
      rw [e1]
      generalize hk1 : k - 1 = k1 at *
      have K1 := Lib.hid hk1
      clear hc hd e1 hk1 hlen hcell
      go_wp2_with (at_builtin; refine wpList_append_near _ rfl _ _ 29 rfl 4 t0 (.bool false) 1 1 Try.underlying29 hi hz0 hz1 hz2 rfl (by decide) u4 (l.drop k).reverse.length (cellsB (l.drop k).reverse) rfl (H2.out.alloc _) ⟨wr.heap.size, 0, none⟩ 1 1 [.bool bb] rfl rfl (cell_one_new _ _ _) (by intro u hu; simp at hu; subst hu; rfl) (by rw [HLEN.out]; unfold maxLen; omega) (by rw [HLEN.out]; omega) ?_; intro v' w3 ho hg3 hn3)
      have ho' : BlAt w3 v' (l.drop k1).reverse := by
        rw [HD.out]; unfold BlAt; rw [List.length_append, cellsB_append]; exact ho
      have hg' := grow_alloc hg3
      have HH := Lib.hid (And.intro ho' (And.intro (below_row bl2 (Nat.le_refl _) hg' f2) (f2.near hn3.alloc bl2.size)))
      clear ho hg3 hn3 ho' hg' h2 bl2 f2 H2 hi hz0 hz1 hz2 hcell2
      go_wp2
      refine ⟨⟨k1, by have := K1.out; omega, by go_num, HH.out.1, HH.out.2.1, HH.out.2.2⟩, by have := K1.out; simp [intOf]⟩
    · obtain rfl : k = 0 := by omega
      rw [List.drop_zero] at h2
      obtain ⟨q, hq⟩ : ∃ q, l.reverse = q := ⟨_, rfl⟩
      have hql : q.length ≤ 32 := by rw [← hq, List.length_reverse, HN.out]; exact hll
      rw [hq] at h2
      have HQ := Lib.hid hq
      clear hq
      obtain ⟨a2, cap2, rfl, hs2⟩ := h2.shape
      have s2 := h2.sees
      have BL := Lib.hid (below_more bl1 hB bl2)
      clear hlen h2 hs2 bl2 f2 bl1
      go_wp2_with fail
      refine (number_any a2 cap2 q wr s2 hql).mono ?_
      rintro r w5 ⟨rfl, rfl⟩
      go_wp2_with fail
      go_ret
      exact ⟨by rw [HQ.out]; rfl, BL.out⟩

/-- k bits of 0 behind l. -/
def padK (l : List Bool) (k : Nat) : List Bool := l ++ List.replicate k false
theorem padK_length (l : List Bool) (k : Nat) : (padK l k).length = l.length + k := by simp [padK]
theorem padK_succ (l : List Bool) (k : Nat) : padK l (k + 1) = padK l k ++ [false] := by
  unfold padK
  rw [List.replicate_succ', List.append_assoc]

set_option maxHeartbeats 1000000 in
theorem refAlign_any (v : Value) (l : List Bool) (w : World) (h : BlAt w v l) (hl : l.length ≤ 1099511627776) :
    Calls Try.prog 16 #[v] w fun r w' => ∃ u, r = .returned u ∧ BlAt w' u (pad l) ∧ w.grownBy w' v.ownBlock ∧ Near w v u := by
  obtain ⟨t0, hi, hz0, hz1, hz2⟩ := info_parts info_bool
  go_enter Try.func16, Try.ntmps16
  go_wp2_with fail
  go_loopw [0] (fun u wr => ∃ k : Nat, k ≤ fre l ∧ BlAt wr u (padK l k) ∧ w.grownBy wr v.ownBlock ∧ Near w v u) (fun u _ => fre l - (lenOf u - l.length))
  case atStart => exact ⟨0, Nat.zero_le _, by simpa [padK] using h, World.grownBy.refl _ _, Near.refl _ _⟩
  case round =>
    obtain ⟨k, hk, h1, g1, n1⟩ := hrel
    have hpl := padK_length l k
    obtain ⟨a, cap, rfl, hs⟩ := h1.shape
    obtain ⟨m, hm⟩ : ∃ m, (padK l k).length = m := ⟨_, rfl⟩
    have hfr : fre l = (8 - l.length % 8) % 8 := rfl
    rw [hm] at hpl
    rw [hm] at n1 ⊢
    have HM := Lib.hid hm
    have h1' : BlAt wr (.slice a m cap) (padK l k) := by rw [← hm]; exact h1
    have H1 := Lib.hid h1'
    have PL := Lib.hid hpl
    have m1 : m ≤ 1099511627783 := by omega
    clear hs hm h1 h1' 
    by_cases hlt : k < fre l
    · have T1 : ((m : Int) % 8 != 0) = true := by simp; omega
      have T2 : ((m : Int).tmod 8 != 0) = true := by rw [Int.tmod_eq_emod_of_nonneg (by omega)]; exact T1
      clear hfr hpl
      go_wp2_with (at_builtin; refine wpList_append_near _ rfl _ _ 29 rfl 4 t0 (.bool false) 1 1 Try.underlying29 hi hz0 hz1 hz2 rfl (by decide) (.slice a m cap) (padK l k).length (cellsB (padK l k)) rfl (H1.out.alloc _) ⟨wr.heap.size, 0, none⟩ 1 1 [.bool false] rfl rfl (cell_one_new _ _ _) (by intro u hu; simp at hu; subst hu; rfl) (by rw [HM.out]; unfold maxLen; omega) (by rw [HM.out]; omega) ?_; intro v' w3 ho hg3 hn3)
      have ho' : BlAt w3 v' (padK l (k + 1)) := by
        rw [padK_succ]; unfold BlAt; rw [List.length_append, cellsB_append]; exact ho
      have hg' := grow_alloc hg3
      have hn' : Near w v v' := n1.trans hn3.alloc g1.size
      have hgg := grow_trans g1 n1 hg'
      obtain ⟨a2, cap2, e2, _⟩ := ho'.shape
      rw [padK_length] at e2
      have HH := Lib.hid (And.intro ho' (And.intro hgg (And.intro hn' e2)))
      clear ho hg3 hn3 ho' hg' hn' hgg g1 n1 H1 hi hz0 hz1 hz2 T1 T2 e2
      go_wp2
      refine ⟨⟨k + 1, by omega, HH.out.1, HH.out.2.1, HH.out.2.2.1⟩, ?_⟩
      have e2 := HH.out.2.2.2
      have e3 := PL.out
      rw [e2]
      simp only [lenOf]
      omega
    · obtain rfl : k = fre l := by omega
      have T1 : ((m : Int) % 8 != 0) = false := by simp; omega
      have T2 : ((m : Int).tmod 8 != 0) = false := by rw [Int.tmod_eq_emod_of_nonneg (by omega)]; exact T1
      have HH := Lib.hid (And.intro H1.out (And.intro g1 n1))
      clear hfr hpl g1 n1
      go_wp2
      go_ret
      exact ⟨_, rfl, HH.out.1, HH.out.2.1, HH.out.2.2⟩
end Go.Proofs.Ytdgoaccnjlkdcaa.Bit
