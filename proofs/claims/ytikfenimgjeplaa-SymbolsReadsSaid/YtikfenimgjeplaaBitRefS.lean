/-
  Contracts of the reference of layer 2 (Number, Reverse, Align, Text) and appends of rows of bits, for later layers.
-/
import Derived.Test.YtikfenimgjeplaaBitAll
import Derived.Test.YtikfenimgjeplaaBitWrA
import Derived.Laws.AppendOwnNone
namespace Go.Proofs.Ytikfenimgjeplaa.Bit
open Go.ChangeShapes Go.WideShapes Go.ChangeAt Go.RowKit
set_option linter.unusedVariables false
set_option maxRecDepth 100000

theorem WrRaw.same {w w' : World} {b : Nat} {v : Value} {bs : List UInt8} {f : Int} (h : WrRaw w b v bs f) (h1 : w'.heap[b]? = w.heap[b]?) (h2 : ∀ k, v.ownBlock = some k → w'.heap[k]? = w.heap[k]?) : WrRaw w' b v bs f :=
  ⟨by rw [h1]; exact h.blk, ownsRow_block h.own h2⟩

theorem quiet_w {P : Program} {f : FuncId} {args : Array Value} {w : World} {n : Nat} {v : Value}
    (h : Calls P f args (w.drewN n) fun e w' => e = .returned v ∧ w.drewN n = w') : Calls P f args (w.drewN n) fun e w'' => e = .returned v ∧ ∃ m, w'' = w.drewN m :=
  h.mono fun _ _ ⟨he, hm⟩ => ⟨he, n, hm.symm⟩

/-- A slice at a (or whatever, if it is empty) reads as l. -/
def Sees (w : World) (a : Option Addr) (l : List Bool) : Prop := 0 < l.length → ∃ g off, a = some ⟨g, off, none⟩ ∧ g < w.heap.size ∧ ∀ j, j < l.length → w.cell? ⟨g, off + j, none⟩ = (cellsB l)[j]?

theorem BlAt.sees {w : World} {a : Option Addr} {cap n : Nat} {l : List Bool} (h : BlAt w (.slice a n cap) l) : Sees w a l := by
  intro h0
  obtain ⟨a', cap', e, hs⟩ := h.shape
  simp only [Value.slice.injEq] at e
  obtain ⟨g, rfl, hg, hc⟩ := hs h0
  obtain ⟨rfl, _, _⟩ := e
  exact ⟨g, 0, rfl, hg, fun j hj => by rw [Nat.zero_add]; exact hc j hj⟩

theorem cellsB_at {l : List Bool} {j : Nat} (h : j < l.length) : (cellsB l)[j]? = some (.bool l[j]) := by simp [cellsB, h]

theorem drop_num (l : List Bool) (k : Nat) (h : k < l.length) : num (l.drop k) = num (l.drop (k + 1)) * 2 + l[k].toNat := by
  rw [List.drop_eq_getElem_cons h]
  simp only [num]
  omega

set_option maxHeartbeats 1000000 in
theorem number_any (a : Option Addr) (cap : Nat) (l : List Bool) (w : World) (h : Sees w a l) (hl : l.length ≤ 32) :
    Calls Try.prog 56 #[.slice a l.length cap] w fun r w' => r = .returned (.int .i64 (num l)) ∧ w = w' := by
  obtain ⟨n, hn⟩ : ∃ n, l.length = n := ⟨_, rfl⟩
  have HN := Lib.hid hn
  have H := Lib.hid h
  rw [hn] at hl ⊢
  clear hn h
  go_enter Try.func56, Try.ntmps56
  go_wp2
  go_loop [3, 4] (fun v i => ∃ k : Nat, k ≤ n ∧ i = .int .i64 ((k : Int) - 1) ∧ v = .int .i64 (num (l.drop k) : Nat)) (fun _ i => (intOf i + 1).toNat)
  case atStart => exact ⟨n, Nat.le_refl _, rfl, by rw [List.drop_of_length_le (by rw [HN.out]; exact Nat.le_refl _)]; rfl⟩
  case round =>
    obtain ⟨k, hk, rfl, rfl⟩ := hrel
    have hb := num_lt (l.drop k)
    rw [List.length_drop, HN.out] at hb
    have hb2 : (2 : Nat) ^ (n - k) ≤ 2 ^ 32 := Nat.pow_le_pow_right (by decide) (by omega)
    by_cases h0 : 0 < k
    · obtain ⟨g, off, rfl, hg, hc⟩ := H.out (by rw [HN.out]; omega)
      have hkl : k - 1 < l.length := by rw [HN.out]; omega
      have hcell := hc (k - 1) hkl
      rw [cellsB_at hkl] at hcell
      have hd := drop_num l (k - 1) hkl
      rw [show k - 1 + 1 = k by omega] at hd
      generalize l[k - 1] = bb at *
      have HD := Lib.hid hd
      have e1 : ((k : Int) - 1) = ((k - 1 : Nat) : Int) := by omega
      have e2 : (0 : Int) ≤ ((k - 1 : Nat) : Int) := by omega
      have e3 : ((k - 1 : Nat) : Int) < n := by omega
      rw [e1]
      generalize hk1 : k - 1 = k1 at *
      have K1 := Lib.hid hk1
      clear hc hd e1 hk1
      generalize num (l.drop k) = x at *
      cases bb with
      | true =>
        go_wp2
        refine ⟨⟨k1, by have := K1.out; omega, by go_num, ?_⟩, by have := K1.out; simp [intOf]⟩
        rw [HD.out]; go_num
      | false =>
        go_wp2
        refine ⟨⟨k1, by have := K1.out; omega, by go_num, ?_⟩, by have := K1.out; simp [intOf]⟩
        rw [HD.out]; go_num
    · obtain rfl : k = 0 := by omega
      go_wp2
      go_ret
      exact ⟨rfl, rfl⟩


/-- A slice's length. -/
def lenOf : Value → Nat | .slice _ n _ => n | _ => 0

theorem take_rev_succ (l : List Bool) (k : Nat) (h : k < l.length) : (l.drop k).reverse = (l.drop (k + 1)).reverse ++ [l[k]] := by
  rw [List.drop_eq_getElem_cons h, List.reverse_cons]

set_option maxHeartbeats 1000000 in
theorem refReverse_any (bt len : Int) (w : World) :
    Calls Try.prog 70 #[.agg #[.int .i64 bt, .int .i64 len]] w fun r w' => r = .returned (.int .i64 (revV bt len)) ∧ Below w.heap.size w w' := by
  have hB := Nat.le_refl w.heap.size
  obtain ⟨t0, hi, hz0, hz1, hz2⟩ := info_parts info_bool
  have hrv : revV bt len = num (bitsOf (cnt len) bt).reverse := rfl
  rw [hrv]
  clear hrv
  have hle := cnt_le len
  obtain ⟨l, hl⟩ : ∃ l, bitsOf (cnt len) bt = l := ⟨_, rfl⟩
  have hll : l.length ≤ 32 := by rw [← hl, bitsOf_length]; exact hle
  have HL := Lib.hid hl
  rw [hl]
  clear hl hle
  go_enter Try.func70, Try.ntmps70
  go_wp2_with fail
  refine (of_any _ _ _).mono ?_
  rintro r w1 ⟨u, rfl, h1, b1, f1⟩
  rw [HL.out] at h1
  have bl1 := below_more ((Below.refl w.heap.size w).alloc hB (.cells #[.int .i64 bt, .int .i64 len] 81)) hB b1
  obtain ⟨a, cap, rfl, hs⟩ := h1.shape
  have s1 := h1.sees
  have fr1 : ∀ k, (Value.slice a l.length cap).ownBlock = some k → k < w1.heap.size := fun k hk => (World.ownsRow.lt h1 k hk).2
  obtain ⟨n, hn⟩ : ∃ n, l.length = n := ⟨_, rfl⟩
  have HN := Lib.hid hn
  rw [hn] at hll
  rw [hn]
  have S1 := Lib.hid s1
  clear hs h1 b1 f1 hn s1 fr1
  go_wp2_with fail
  go_loopw [4, 5] (fun v i wr => ∃ k : Nat, k ≤ n ∧ i = .int .i64 ((k : Int) - 1) ∧ BlAt wr v (l.drop k).reverse ∧ Below w1.heap.size w1 wr ∧ From w1.heap.size v) (fun _ i _ => (intOf i + 1).toNat)
  case atStart => exact ⟨n, Nat.le_refl _, rfl, by rw [List.drop_of_length_le (by rw [HN.out]; exact Nat.le_refl _)]; exact BlAt.nil _, Below.refl _ _, From.nil _⟩
  case round =>
    obtain ⟨k, hk, rfl, h2, bl2, f2⟩ := hrel
    have hlen : (l.drop k).reverse.length = n - k := by rw [List.length_reverse, List.length_drop, HN.out]
    by_cases h0 : 0 < k
    · obtain ⟨g, off, rfl, hg, hc⟩ := S1.out (by rw [HN.out]; omega)
      have hkl : k - 1 < l.length := by rw [HN.out]; omega
      have hcell := hc (k - 1) hkl
      rw [cellsB_at hkl] at hcell
      have hd := take_rev_succ l (k - 1) hkl
      rw [show k - 1 + 1 = k by omega] at hd
      generalize l[k - 1] = bb at *
      have hcell2 : wr.cell? ⟨g, off + (k - 1), none⟩ = some (.bool bb) := (bl2.cell (p := ⟨g, off + (k - 1), none⟩) hg).trans hcell
      have HD := Lib.hid hd
      have HLEN := Lib.hid hlen
      have H2 := Lib.hid h2
      have e1 : ((k : Int) - 1) = ((k - 1 : Nat) : Int) := by omega
      have e2 : (0 : Int) ≤ ((k - 1 : Nat) : Int) := by omega
      have e3 : ((k - 1 : Nat) : Int) < n := by omega
      rw [e1]
      generalize hk1 : k - 1 = k1 at *
      have K1 := Lib.hid hk1
      clear hc hd e1 hk1 hlen hcell
      go_wp2_with (at_builtin; refine wpList_append_near _ rfl _ _ 41 rfl 4 t0 (.bool false) 1 1 Try.underlying41 hi hz0 hz1 hz2 rfl (by decide) u4 (l.drop k).reverse.length (cellsB (l.drop k).reverse) rfl (H2.out.alloc _) ⟨wr.heap.size, 0, none⟩ 1 1 [.bool bb] rfl rfl (cell_one_new _ _ _) (by intro u hu; simp at hu; subst hu; rfl) (by rw [HLEN.out]; unfold maxLen; omega) (by rw [HLEN.out]; omega) ?_; intro v' w3 ho hg3 hn3)
      have ho' : BlAt w3 v' (l.drop k1).reverse := by
        rw [HD.out]; unfold BlAt; rw [List.length_append, cellsB_append]; exact ho
      have hg' := grow_alloc hg3
      have HH := Lib.hid (And.intro ho' (And.intro (below_row bl2 (Nat.le_refl _) hg' f2) (f2.near hn3.alloc bl2.size)))
      clear ho hg3 hn3 ho' hg' h2 bl2 f2 H2 hi hz0 hz1 hz2 hcell2
      go_wp2
      refine ⟨⟨k1, by have := K1.out; omega, by go_num, HH.out.1, HH.out.2.1, HH.out.2.2⟩, by have := K1.out; simp [intOf]⟩
    · obtain rfl : k = 0 := by omega
      rw [List.drop_zero] at h2
      obtain ⟨q, hq⟩ : ∃ q, l.reverse = q := ⟨_, rfl⟩
      have hql : q.length ≤ 32 := by rw [← hq, List.length_reverse, HN.out]; exact hll
      rw [hq] at h2
      have HQ := Lib.hid hq
      clear hq
      obtain ⟨a2, cap2, rfl, hs2⟩ := h2.shape
      have s2 := h2.sees
      have BL := Lib.hid (below_more bl1 hB bl2)
      clear hlen h2 hs2 bl2 f2 bl1
      go_wp2_with fail
      refine (number_any a2 cap2 q wr s2 hql).mono ?_
      rintro r w5 ⟨rfl, rfl⟩
      go_wp2_with fail
      go_ret
      exact ⟨by rw [HQ.out]; rfl, BL.out⟩

/-- k bits of 0 behind l. -/
def padK (l : List Bool) (k : Nat) : List Bool := l ++ List.replicate k false
theorem padK_length (l : List Bool) (k : Nat) : (padK l k).length = l.length + k := by simp [padK]
theorem padK_succ (l : List Bool) (k : Nat) : padK l (k + 1) = padK l k ++ [false] := by
  unfold padK
  rw [List.replicate_succ', List.append_assoc]

set_option maxHeartbeats 1000000 in
theorem refAlign_any (v : Value) (l : List Bool) (w : World) (h : BlAt w v l) (hl : l.length ≤ 1099511627776) :
    Calls Try.prog 55 #[v] w fun r w' => ∃ u, r = .returned u ∧ BlAt w' u (pad l) ∧ w.grownBy w' v.ownBlock ∧ Near w v u := by
  obtain ⟨t0, hi, hz0, hz1, hz2⟩ := info_parts info_bool
  go_enter Try.func55, Try.ntmps55
  go_wp2_with fail
  go_loopw [0] (fun u wr => ∃ k : Nat, k ≤ fre l ∧ BlAt wr u (padK l k) ∧ w.grownBy wr v.ownBlock ∧ Near w v u) (fun u _ => fre l - (lenOf u - l.length))
  case atStart => exact ⟨0, Nat.zero_le _, by simpa [padK] using h, World.grownBy.refl _ _, Near.refl _ _⟩
  case round =>
    obtain ⟨k, hk, h1, g1, n1⟩ := hrel
    have hpl := padK_length l k
    obtain ⟨a, cap, rfl, hs⟩ := h1.shape
    obtain ⟨m, hm⟩ : ∃ m, (padK l k).length = m := ⟨_, rfl⟩
    have hfr : fre l = (8 - l.length % 8) % 8 := rfl
    rw [hm] at hpl
    rw [hm] at n1 ⊢
    have HM := Lib.hid hm
    have h1' : BlAt wr (.slice a m cap) (padK l k) := by rw [← hm]; exact h1
    have H1 := Lib.hid h1'
    have PL := Lib.hid hpl
    have m1 : m ≤ 1099511627783 := by omega
    clear hs hm h1 h1' 
    by_cases hlt : k < fre l
    · have T1 : ((m : Int) % 8 != 0) = true := by simp; omega
      have T2 : ((m : Int).tmod 8 != 0) = true := by rw [Int.tmod_eq_emod_of_nonneg (by omega)]; exact T1
      clear hfr hpl
      go_wp2_with (at_builtin; refine wpList_append_near _ rfl _ _ 41 rfl 4 t0 (.bool false) 1 1 Try.underlying41 hi hz0 hz1 hz2 rfl (by decide) (.slice a m cap) (padK l k).length (cellsB (padK l k)) rfl (H1.out.alloc _) ⟨wr.heap.size, 0, none⟩ 1 1 [.bool false] rfl rfl (cell_one_new _ _ _) (by intro u hu; simp at hu; subst hu; rfl) (by rw [HM.out]; unfold maxLen; omega) (by rw [HM.out]; omega) ?_; intro v' w3 ho hg3 hn3)
      have ho' : BlAt w3 v' (padK l (k + 1)) := by
        rw [padK_succ]; unfold BlAt; rw [List.length_append, cellsB_append]; exact ho
      have hg' := grow_alloc hg3
      have hn' : Near w v v' := n1.trans hn3.alloc g1.size
      have hgg := grow_trans g1 n1 hg'
      obtain ⟨a2, cap2, e2, _⟩ := ho'.shape
      rw [padK_length] at e2
      have HH := Lib.hid (And.intro ho' (And.intro hgg (And.intro hn' e2)))
      clear ho hg3 hn3 ho' hg' hn' hgg g1 n1 H1 hi hz0 hz1 hz2 T1 T2 e2
      go_wp2
      refine ⟨⟨k + 1, by omega, HH.out.1, HH.out.2.1, HH.out.2.2.1⟩, ?_⟩
      have e2 := HH.out.2.2.2
      have e3 := PL.out
      rw [e2]
      simp only [lenOf]
      omega
    · obtain rfl : k = fre l := by omega
      have T1 : ((m : Int) % 8 != 0) = false := by simp; omega
      have T2 : ((m : Int).tmod 8 != 0) = false := by rw [Int.tmod_eq_emod_of_nonneg (by omega)]; exact T1
      have HH := Lib.hid (And.intro H1.out (And.intro g1 n1))
      clear hfr hpl g1 n1
      go_wp2
      go_ret
      exact ⟨_, rfl, HH.out.1, HH.out.2.1, HH.out.2.2⟩
/-- A value that reads as the row l. -/
def SeesV (w : World) (v : Value) (l : List Bool) : Prop := (v = .slice none 0 0 ∧ l = []) ∨ ∃ g off cap, v = .slice (some ⟨g, off, none⟩) l.length cap ∧ ∀ j, j < l.length → w.cell? ⟨g, off + j, none⟩ = (cellsB l)[j]?

theorem BlAt.seesV {w : World} {v : Value} {l : List Bool} (h : BlAt w v l) : SeesV w v l := by
  rcases h.2 with ⟨rfl, h0⟩ | ⟨g, cap, cur, rfl, _⟩
  · exact .inl ⟨rfl, List.eq_nil_of_length_eq_zero h0⟩
  · exact .inr ⟨g, 0, cap, rfl, fun j hj => by rw [Nat.zero_add]; exact World.ownsRow.cellAt h j (by omega)⟩

theorem BlAt.row {w : World} {v : Value} {l : List Bool} (h : BlAt w v l) (h0 : 0 < l.length) : ∃ g cap, v = .slice (some ⟨g, 0, none⟩) l.length cap ∧ g < w.heap.size ∧ l.length ≤ cap ∧ cap ≤ maxLen ∧ ∀ j, j < l.length → w.cell? ⟨g, j, none⟩ = (cellsB l)[j]? := by
  rcases h.2 with ⟨rfl, h1⟩ | ⟨g, cap, cur, rfl, _, hg, hc, hm, _⟩
  · omega
  · exact ⟨g, cap, rfl, (Array.getElem?_eq_some_iff.1 hg).1, hc, hm, fun j hj => World.ownsRow.cellAt h j (by omega)⟩

theorem pack_take_succ (l : List Bool) (k : Nat) (h : k < (pack l).length) : (pack l).take (k + 1) = (pack l).take k ++ [UInt8.ofNat (num (((pad l).drop (8 * k)).take 8))] := by
  rw [List.take_succ_eq_append_getElem h]
  congr 2
  have h1 : (pack l)[k]? = some (UInt8.ofNat (num (((pad l).drop (8 * k)).take 8))) := by
    rw [← pack_pad l]
    exact pack_get _ _ (by rw [← pack_length, pack_pad]; exact h)
  rw [List.getElem?_eq_getElem h] at h1
  exact Option.some.inj h1

theorem snoc_arr (a : List UInt8) (b : UInt8) : (⟨a.toArray⟩ : ByteArray) ++ ⟨#[b]⟩ = ⟨(a ++ [b]).toArray⟩ := by
  rw [ByteArray.mk_append_mk]

set_option maxHeartbeats 2000000 in
theorem text_any (v : Value) (l : List Bool) (w : World) (hl : l.length ≤ 1000000) (h : SeesV w v l) :
    Calls Try.prog 30 #[v] w fun r w' => r = .returned (.string ⟨(pack l).toArray⟩) ∧ Below w.heap.size w w' := by
  have hB := Nat.le_refl w.heap.size
  obtain ⟨t0, hi, hz0, hz1, hz2⟩ := info_parts info_bool
  rcases h with ⟨rfl, rfl⟩ | ⟨g, off, cap, rfl, hc⟩
  · go_enter Try.func30, Try.ntmps30
    go_wp2_with (at_builtin; refine wpList_append_own_none rfl _ _ 41 rfl 0 4 t0 1 Try.underlying41 hi (.slice none 0 0) 0 [] rfl (World.ownsRow_nil _ _ _ _) rfl ?_)
    refine (refAlign_any _ [] _ (BlAt.nil _) (by decide)).mono ?_
    rintro r w1 ⟨u, rfl, h1, g1, n1⟩
    have h1' : BlAt w1 u [] := h1
    obtain ⟨a, cap, rfl, _⟩ := h1'.shape
    have BL := Lib.hid (below_row (Below.refl w.heap.size w) hB g1 (From.nil _))
    clear h1 h1' g1 n1 hi hz0 hz1 hz2
    go_wp2_with fail
    refine wp_loop_rounds 1 ?_
    rw [rounds_succ]
    go_wp2_with fail
    go_ret
    exact ⟨rfl, BL.out⟩
  · obtain ⟨nn, hnn⟩ : ∃ nn, l.length = nn := ⟨_, rfl⟩
    have NN := Lib.hid hnn
    have hx2 : ∀ j u, (cellsB l)[j]? = some u → w.cell? ((⟨g, off, none⟩ : Addr).add j) = some u := cell_bits (fun j hj => by rw [Go.WideShapes.add_plain]; exact hc j hj)
    have X2 := Lib.hid hx2
    rw [hnn] at hl ⊢
    clear hx2 hc hnn
    go_enter Try.func30, Try.ntmps30
    go_wp2_with (at_builtin; refine wpList_append_near _ rfl _ _ 41 rfl 4 t0 (.bool false) 1 1 Try.underlying41 hi hz0 hz1 hz2 rfl (by decide) (.slice none 0 0) 0 [] rfl (World.ownsRow_nil _ _ _ _) ⟨g, off, none⟩ nn cap (cellsB l) rfl (by rw [cellsB_length, NN.out]; omega) X2.out (cellsB_one _) (by unfold maxLen; omega) (by omega) ?_; intro v' w1 ho hg hn)
    have h1 : BlAt w1 v' l := by
      unfold BlAt; rw [NN.out]; simpa using ho
    have bl1 := below_row (Below.refl w.heap.size w) hB hg (From.nil _)
    have f1 := (From.nil w.heap.size).near hn hB
    clear ho hg hn X2 hi hz0 hz1 hz2
    refine (refAlign_any _ l _ h1 (by rw [NN.out]; omega)).mono ?_
    rintro r w2 ⟨u, rfl, h2, g2, n2⟩
    have bl2 := below_row bl1 hB g2 f1
    clear h1 bl1 f1 g2 n2
    have hpm := pad_mod l
    have hpl : (pad l).length = 8 * (pack l).length := by rw [pad_length, pack_length]; unfold fre; omega
    obtain ⟨M, hM⟩ : ∃ M, (pack l).length = M := ⟨_, rfl⟩
    rw [hM] at hpl
    have hM2 : M ≤ 1000000 := by rw [← hM, pack_length, NN.out]; omega
    have HM := Lib.hid hM
    have PL := Lib.hid hpl
    obtain ⟨a, cap2, hu, _⟩ := h2.shape
    rw [hpl] at hu
    subst hu
    have H2 := Lib.hid h2
    clear hpm hM hpl h2
    go_wp2_with fail
    go_loopw [4, 5] (fun sv i wr => ∃ k : Nat, k ≤ M ∧ i = .int .i64 ((8 * k : Nat) : Int) ∧ sv = .string ⟨((pack l).take k).toArray⟩ ∧ Below w2.heap.size w2 wr) (fun _ i _ => 8 * M - (intOf i).toNat)
    case atStart => exact ⟨0, Nat.zero_le _, rfl, rfl, Below.refl _ _⟩
    case round =>
      obtain ⟨k, hk, rfl, rfl, bl3⟩ := hrel
      by_cases hlt : k < M
      · obtain ⟨g2, cap3, e3, hg2, hcap, hcm, hc2⟩ := H2.out.row (by rw [PL.out]; omega)
        rw [PL.out] at e3 hcap hc2
        simp only [Value.slice.injEq] at e3
        obtain ⟨rfl, _, rfl⟩ := e3
        obtain ⟨y, hy⟩ : ∃ y, ((pad l).drop (8 * k)).take 8 = y := ⟨_, rfl⟩
        have hyl : y.length = 8 := by rw [← hy, List.length_take, List.length_drop, PL.out]; omega
        have hyn : num y ≤ 255 := by have := num_lt y; rw [hyl] at this; omega
        have hts := pack_take_succ l k (by rw [HM.out]; exact hlt)
        rw [hy] at hts
        have hadd := snoc_arr ((pack l).take k) (UInt8.ofNat (num y))
        rw [← hts] at hadd
        have hof : ((UInt8.ofNat (num y)).toNat : Int) = (num y : Int) := by rw [UInt8.toNat_ofNat']; omega
        have hsz : (⟨((pack l).take k).toArray⟩ : ByteArray).size ≤ 1000000 := by
          show ((pack l).take k).toArray.size ≤ _
          rw [List.size_toArray, List.length_take]; omega
        obtain ⟨p, hp⟩ : ∃ p, 8 * k = p := ⟨_, rfl⟩
        obtain ⟨q, hq⟩ : ∃ q, 8 * M = q := ⟨_, rfl⟩
        have hsee : Sees wr (some ⟨g2, p, none⟩) y := by
          intro _
          refine ⟨g2, p, rfl, Nat.lt_of_lt_of_le hg2 bl3.size, fun j hj => ?_⟩
          rw [bl3.cell (p := ⟨g2, p + j, none⟩) hg2]
          rw [hc2 (p + j) (by omega)]
          rw [← hy, ← hp]
          unfold cellsB
          rw [List.getElem?_map, List.getElem?_map, List.getElem?_take_of_lt (by omega), List.getElem?_drop]
        rw [hp, hq]
        have SEE := Lib.hid hsee
        have HADD := Lib.hid hadd
        have HYL := Lib.hid hyl
        have q1 : p + 8 ≤ q := by omega
        have q2 : q ≤ cap2 := by omega
        have q3 : q ≤ 8000000 := by omega
        have HP := Lib.hid (And.intro hp hq)
        unfold maxLen at hcm
        have hconv : (convert 37 9 (.slice (some ⟨wr.heap.size, 0, none⟩) 1 1)).run Try.prog (wr.alloc (.cells #[.int .u8 (num y : Nat)] 5)) = .ok (.string ⟨#[UInt8.ofNat (num y)]⟩) (wr.alloc (.cells #[.int .u8 (num y : Nat)] 5)) :=
          Oct.run_string_of _ 37 9 5 ⟨wr.heap.size, 0, none⟩ 1 [UInt8.ofNat (num y)] 1 rfl Try.underlying37 Try.underlying5 Try.underlying9 (by
            intro j hj
            obtain rfl : j = 0 := by omega
            rw [Oct.addr_add, List.map_cons, hof]
            simp)
        obtain ⟨s1, hs1⟩ : ∃ s1 : ByteArray, (⟨((pack l).take (k + 1)).toArray⟩ : ByteArray) = s1 := ⟨_, rfl⟩
        rw [hs1] at hadd
        have S1 := Lib.hid hs1
        generalize hs0 : (⟨((pack l).take k).toArray⟩ : ByteArray) = s0 at *
        have hadd2 : ∀ W : World, (Op.stringOp .add s0 ⟨#[UInt8.ofNat (num y)]⟩).run Try.prog W = .ok (.string s1) W := fun W => by
          rw [run_string_add_sum W _ _ (by
            have h1 : (ByteArray.mk #[UInt8.ofNat (num y)]).size = 1 := rfl
            rw [h1]; omega), hadd]
        have nc := number_any (some ⟨g2, p, none⟩) (cap2 - p) y wr SEE.out (by omega)
        rw [hyl] at nc
        have NC := Lib.hid nc
        clear hs0 hs1 hts hy hp hq hof hsee hadd hyl hc2 nc HADD
        generalize num y = z at *
        go_wp2_with fail
        refine NC.out.mono ?_
        rintro r w5 ⟨rfl, rfl⟩
        go_wp2
        refine ⟨⟨k + 1, by omega, ?_, by rw [S1.out], bl3.alloc (by have := bl3.size; omega) _⟩, ?_⟩
        · have := HP.out.1; go_num
        · have := HP.out; simp [intOf]; omega
      · obtain rfl : k = M := by omega
        have hfull : (pack l).take k = pack l := List.take_of_length_le (by rw [HM.out]; exact Nat.le_refl _)
        rw [hfull]
        have BL := Lib.hid (below_more bl2 hB bl3)
        clear bl2 bl3 hfull
        go_wp2
        go_ret
        exact ⟨rfl, BL.out⟩


theorem run_append_sees (w : World) (ty : TypeId) (v src : Value) (l m : List Bool) (h : BlAt w v l) (hs : SeesV w src m) (hb : l.length + m.length ≤ 140737488355328) :
    ∃ v' w', (Builtin.append_ #[41, 41] ty #[v, src]).run Try.prog w = .ok v' w' ∧ BlAt w' v' (l ++ m) ∧ w.grownBy w' v.ownBlock ∧ Near w v v' := by
  obtain ⟨t0, hi, hz0, hz1, hz2⟩ := info_parts info_bool
  rcases hs with ⟨rfl, rfl⟩ | ⟨g, off, cap, rfl, hc⟩
  · refine ⟨v, w, run_append_owned_none (P := Try.prog) (w := w) 0 41 ty 4 t0 1 Try.underlying41 hi v l.length (cellsB l) h, by simpa using h, World.grownBy.refl _ _, Near.refl _ _⟩
  · obtain ⟨v', w', hr, ho, hg, hn⟩ := run_append_near (P := Try.prog) w 41 ty 4 t0 (.bool false) 1 1 Try.underlying41 hi hz0 hz1 hz2 rfl (by decide) v l.length (cellsB l) h ⟨g, off, none⟩ m.length cap (cellsB m) (by rw [cellsB_length]; omega)
      (cell_bits (fun j hj => by rw [Go.WideShapes.add_plain]; exact hc j hj)) (cellsB_one _) (by unfold maxLen; omega) (by omega)
    exact ⟨v', w', hr, BlAt.joined ho, hg, hn⟩

theorem wpList_append_sees (w : World) {ops : Array Oper} {rest : List Oper} {o : Oper} {a : Act} {Q : Exit → Act → World → Prop} (hgd : o.guard = none) (s x : Operand)
    (ho : o.op = .call { callee := .builtin .append, args := #[s, x], argTypes := #[41, 41] })
    (v src : Value) (l m : List Bool) (hs : a.eval s = v) (hx : a.eval x = src) (hown : BlAt w v l) (hsee : SeesV w src m) (hb : l.length + m.length ≤ 140737488355328)
    (h : ∀ v' w', BlAt w' v' (l ++ m) → w.grownBy w' v.ownBlock → Near w v v' → wpList Try.prog ops Q rest (a.put o.dst v') w') : wpList Try.prog ops Q (o :: rest) a w := by
  refine wpList_plain hgd fun K hK => ?_
  obtain ⟨v', w', hr, h2, h3, h4⟩ := run_append_sees w o.type v src l m hown hsee hb
  unfold Oper.wp execOp
  simp only [ho, resolve, invoke, builtin, Sem.run_bind, Sem.run_pure, Result.andThen_ok, List.map_toArray, List.map_cons, List.map_nil, hs, hx, hr]
  exact hK _ _ (h v' w' h2 h3 h4)

theorem step_append_sees {ops : Array Oper} {o : Oper} {a : Act} {w : World} {K : Act → World → Prop} {Q : Exit → Act → World → Prop} {E : Prop}
    (hg : o.guard = none) (s x : Operand) (hop : o.op = Op.call { callee := Callee.builtin Builtin.append, args := #[s, x], argTypes := #[41, 41] })
    (v src : Value) (l m : List Bool) (hs : a.eval s = v) (hx : a.eval x = src) (hown : BlAt w v l) (hsee : SeesV w src m) (hb : l.length + m.length ≤ 140737488355328)
    (hK : ∀ v' w', BlAt w' v' (l ++ m) → w.grownBy w' v.ownBlock → Near w v v' → K (a.put o.dst v') w') :
    if Region.wanted o (yielded ops a.tmps) = true then Oper.wp Try.prog o a w K Q else E := by
  have hw : Region.wanted o (yielded ops a.tmps) = true := by simp [Region.wanted, hg]
  rw [if_pos hw]
  obtain ⟨v', w', hrun, r1, r2, r3⟩ := run_append_sees w o.type v src l m hown hsee hb
  unfold Oper.wp
  simp [execOp, hop, resolve, invoke, builtin, hs, hx, hrun, Result.andThen]
  exact hK v' w' r1 r2 r3

/-- A row of bits is as it was, whatever a writer does. -/
theorem BlAt.underBut {w w' : World} {b : Nat} {u v : Value} {l : List Bool} {bs : List UInt8} {f : Int} (h : BlAt w v l) (hw : WrRaw w b u bs f) (k : But b u w w') : BlAt w' v l :=
  h.block fun i hi => k.block i (World.ownsRow.lt h i hi).2 (fun e => row_ne h hw.blk (by decide) (by rw [hi, e])) (fun e => rows_ne h hw.own (by decide) i e.symm hi)

/-- A writer is as it was, whatever is done to a row of bits. -/
theorem WrRaw.underRow {w w' : World} {b : Nat} {u v : Value} {l : List Bool} {bs : List UInt8} {f : Int} (hw : WrRaw w b u bs f) (h : BlAt w v l) (k : w.grownBy w' v.ownBlock) : WrRaw w' b u bs f :=
  hw.same (k.block b hw.lt (fun e => row_ne h hw.blk (by decide) e.symm)) (fun i hi => k.block i (hw.own.lt i hi).2 (fun e => rows_ne h hw.own (by decide) i hi e.symm))

theorem SeesV.below {w w' : World} {v : Value} {l : List Bool} (h : BlAt w v l) (k : Below w.heap.size w w') : SeesV w' v l := (h.below k).seesV
end Go.Proofs.Ytikfenimgjeplaa.Bit
