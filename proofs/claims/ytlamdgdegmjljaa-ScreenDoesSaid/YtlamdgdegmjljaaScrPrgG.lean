/-
  The program's take: a loop over the rows of a rectangle.
-/
import Derived.Test.YtlamdgdegmjljaaScrPrgF
namespace Go.Proofs.Ytlamdgdegmjljaa.Scr
open Go.ChangeShapes Go.WideShapes Go.ChangeAt Go.RowKit Go.Shelf Lz RowG RegVal Reg
set_option linter.unusedVariables false
set_option maxRecDepth 100000
attribute [local go_sem] Oper.semAt_some

/-- The colours that have been taken. -/
def takeR (W : Int) (r : Rc) (l : List Int) (N m : Nat) (ks : List Nat) : List Int := gen (N * m) (fun i => if i / m ∈ ks then px l (rowO W r (i / m) + i % m) else 0)
theorem takeR_nil (W : Int) (r : Rc) (l : List Int) (N m : Nat) : takeR W r l N m [] = gen (N * m) (fun _ => 0) := gen_congr (fun i hi => by rw [if_neg (by simp)])
theorem takeR_step (W : Int) (r : Rc) (l : List Int) (N m k : Nat) (ks : List Nat) (n : Nat) (hn : N * m = n) : mixL n (k * m) m (fun j => px l (rowO W r k + j)) (takeR W r l N m ks) = takeR W r l N m (ks ++ [k]) := by
  subst hn
  unfold mixL takeR
  refine gen_congr (fun i hi => ?_)
  have hm : 0 < m := by
    rcases Nat.eq_zero_or_pos m with h | h
    · rw [h, Nat.mul_zero] at hi; omega
    · exact h
  rw [px_gen hi]
  by_cases hc : k * m ≤ i ∧ i < k * m + m
  · have h1 : i / m = k := Nat.div_eq_of_lt_le hc.1 (by rw [Nat.add_mul, Nat.one_mul]; exact hc.2)
    have h2 : i % m = i - k * m := by
      have := Nat.div_add_mod i m
      rw [h1, Nat.mul_comm] at this
      omega
    rw [if_pos hc, if_pos (by rw [h1]; simp), h1, h2]
  · rw [if_neg hc]
    have h1 : i / m ≠ k := by
      rintro rfl
      have h3 := Nat.div_add_mod i m
      have h4 := Nat.mod_lt i hm
      rw [Nat.mul_comm] at h3
      exact hc (by omega)
    by_cases h2 : i / m ∈ ks
    · rw [if_pos h2, if_pos (by simp [h2])]
    · rw [if_neg h2, if_neg (by simp [h1, h2])]
theorem takeR_all {W H : Int} {l : List Int} (ok : ImOk W H l) {r : Rc} (hr : insB r W H = true) {N m : Nat} (hN : r.h = N) (hm : r.w = m) : takeR W r l N m ((List.finRange N).map (·.1)) = partL W r l := by
  have hrr := ins_iff.1 hr
  have hw := ok.w
  rw [part_spots ok hr]
  have hl : (spots W r r.h.toNat).length = N * m := by rw [spots_length, hN, hm]; simp
  apply List.ext_getElem
  · rw [List.length_map, hl]; exact gen_length _ _
  · intro i h1 h2
    have hi : i < N * m := by rw [List.length_map, hl] at h2; exact h2
    have hg := spots_get W r r.h.toNat i (by rw [hN, hm]; simpa using hi)
    have hm0 : 0 < m := by
      rcases Nat.eq_zero_or_pos m with h | h
      · rw [h, Nat.mul_zero] at hi; omega
      · exact h
    have hk : i / m < N := Nat.div_lt_of_lt_mul (by rw [Nat.mul_comm]; exact hi)
    rw [List.getElem_map]
    have e : (spots W r r.h.toNat)[i]'(by rw [hl]; exact hi) = (r.y.toNat + i / r.w.toNat) * W.toNat + (r.x.toNat + i % r.w.toNat) := by
      have := List.getElem?_eq_getElem (l := spots W r r.h.toNat) (i := i) (by rw [hl]; exact hi)
      rw [this] at hg
      exact Option.some.inj hg
    rw [e]
    have e1 := (rowO_in ok hr (i := i / m) (by rw [hN]; omega)).1
    have h3 : (takeR W r l N m ((List.finRange N).map (·.1)))[i] = px (takeR W r l N m ((List.finRange N).map (·.1))) i := (px_get h1).symm
    rw [h3]
    unfold takeR
    rw [px_gen hi, if_pos (List.mem_map.2 ⟨⟨i / m, hk⟩, List.mem_finRange _, rfl⟩)]
    congr 1
    rw [hm, Int.toNat_natCast]
    have e2 : (((r.y.toNat + i / m) * W.toNat : Nat) : Int) = (r.y + (i / m : Nat)) * W := by
      rw [Int.natCast_mul, Int.natCast_add, Int.toNat_of_nonneg (by omega), Int.toNat_of_nonneg (by omega)]
    generalize (r.y.toNat + i / m) * W.toNat = A at *
    generalize (r.y + (i / m : Nat)) * W = B at *
    omega
theorem ints_owned {B : Nat} {w : World} {g : Nat} {l : List Int} (hB : B ≤ g) (hl : l.length ≤ 16777216) (h : w.heap[g]? = some (.cells (ints l).toArray 3 (0, 0))) : IntsAt B w (.slice (some ⟨g, 0, none⟩) l.length l.length) l := by
  refine ⟨⟨by simp [ints], .inr ⟨g, l.length, (ints l).toArray, rfl, Nat.zero_le _, h, Nat.le_refl _, by unfold maxLen; omega, by simp [ints], List.take_of_length_le (by simp [ints])⟩⟩, fun k hk => ?_, fun u hu => ?_⟩
  · simp [Value.ownBlock] at hk
    omega
  · unfold ints at hu
    obtain ⟨x, _, rfl⟩ := List.mem_map.1 hu
    rfl
set_option maxHeartbeats 4000000 in
theorem take_any {w : World} {b g : Nat} {W H : Int} {l : List Int} (h : ScrAt w b g W H l) (r : Rc) (hr : insB r W H = true) :
    Calls Try.prog 43 #[ptr b, r.v] w fun e w' => ∃ u, e = .returned u ∧ IntsAt w.heap.size w' u (partL W r l) ∧ Below w.heap.size w w' := by
  have hok := h.ok
  have hrr := ins_iff.1 hr
  have hpl := part_length hok hr
  obtain ⟨rx, ry, rw', rh⟩ := r
  simp only at hrr hpl
  obtain ⟨m, rfl⟩ : ∃ m : Nat, rw' = m := ⟨rw'.toNat, by omega⟩
  obtain ⟨N, rfl⟩ : ∃ N : Nat, rh = N := ⟨rh.toNat, by omega⟩
  obtain ⟨M, hM⟩ : ∃ M, l.length = M := ⟨_, rfl⟩
  obtain ⟨n, hn⟩ : ∃ n, N * m = n := ⟨_, rfl⟩
  have hN4 : N ≤ 4096 := by have := hok.h; omega
  have hm4 : m ≤ 4096 := by have := hok.w; omega
  have hn4 : n ≤ 16777216 := by
    have h1 := Nat.mul_le_mul hN4 hm4
    rw [hn] at h1
    omega
  have hpl : (partL W ⟨rx, ry, m, N⟩ l).length = n := by
    rw [← Int.natCast_mul, Nat.mul_comm, hn] at hpl
    omega
  have g1 : IntKind.i64.wrap ((m : Int) * (N : Int)) = n := (IntWalk.i64_in _ (by rw [← Int.natCast_mul, Nat.mul_comm, hn]; omega)).trans (by rw [← Int.natCast_mul, Nat.mul_comm, hn])
  have g2 : wrap64 ((m : Int) * (N : Int)) = n := (IntWalk.wrap64_in _ (by rw [← Int.natCast_mul, Nat.mul_comm, hn]; omega)).trans (by rw [← Int.natCast_mul, Nat.mul_comm, hn])
  have G1 := Lib.hid g1
  have G2 := Lib.hid g2
  have HPL := Lib.hid hpl
  have HN := Lib.hid hn
  clear g1 g2 hpl hn
  have hlt := h.lt
  have z1 := alloc_size w (.cells #[.int .i64 rx, .int .i64 ry, .int .i64 m, .int .i64 N] 35)
  have i1 := RAt.box w ⟨rx, ry, m, N⟩ 35
  have b1 := (Below.refl w.heap.size w).alloc (Nat.le_refl _) (.cells #[.int .i64 rx, .int .i64 ry, .int .i64 m, .int .i64 N] 35)
  obtain ⟨w1, hw1⟩ : ∃ w1, w.alloc (.cells #[.int .i64 rx, .int .i64 ry, .int .i64 m, .int .i64 N] 35) = w1 := ⟨_, rfl⟩
  rw [hw1] at z1
  simp only at i1
  rw [hw1] at i1 b1
  have hmk := make_black n hn4 w1
  have z2 := alloc_size w1 (.cells (ints (gen n (fun _ => 0))).toArray 3)
  have k2 := (Below.refl w1.heap.size w1).alloc (Nat.le_refl _) (.cells (ints (gen n (fun _ => 0))).toArray 3)
  have n2 := heap_alloc_new w1 (.cells (ints (gen n (fun _ => 0))).toArray 3)
  obtain ⟨w2, hw2⟩ : ∃ w2, w1.alloc (.cells (ints (gen n (fun _ => 0))).toArray 3) = w2 := ⟨_, rfl⟩
  rw [hw2] at z2 k2 n2 hmk
  have z1 : w1.heap.size = w.heap.size + 1 := by omega
  have z2 : w2.heap.size = w.heap.size + 2 := by omega
  rw [z1] at n2
  have z3 := alloc_size w2 (.cells #[.slice (some ⟨w.heap.size + 1, 0, none⟩) n n] 30)
  obtain ⟨k3, x3⟩ := box1 w2 #[.slice (some ⟨w.heap.size + 1, 0, none⟩) n n] 30
  have x3 := x3 0 _ rfl
  obtain ⟨w3, hw3⟩ : ∃ w3, w2.alloc (.cells #[.slice (some ⟨w.heap.size + 1, 0, none⟩) n n] 30) = w3 := ⟨_, rfl⟩
  rw [hw3] at z3 k3 x3
  have C0 := Lib.hid (rows_any b ⟨rx, ry, m, N⟩ w3)
  have z4 := alloc_size w3 (.cells #[ptr b] 25)
  obtain ⟨k4, x4⟩ := box1 w3 #[ptr b] 25
  have x4 := x4 0 _ rfl
  obtain ⟨w4, hw4⟩ : ∃ w4, w3.alloc (.cells #[ptr b] 25) = w4 := ⟨_, rfl⟩
  simp only at C0
  rw [hw4] at z4 k4 x4 C0
  have z5 := alloc_size w4 (.cells #[.int .i64 rx, .int .i64 ry, .int .i64 m, .int .i64 N] 35)
  have i5 := RAt.box w4 ⟨rx, ry, m, N⟩ 35
  have k5 := (Below.refl w4.heap.size w4).alloc (Nat.le_refl _) (.cells #[.int .i64 rx, .int .i64 ry, .int .i64 m, .int .i64 N] 35)
  simp only at i5
  obtain ⟨w5, hw5⟩ : ∃ w5, w4.alloc (.cells #[.int .i64 rx, .int .i64 ry, .int .i64 m, .int .i64 N] 35) = w5 := ⟨_, rfl⟩
  rw [hw5] at z5 k5 i5 C0
  have bel5 : Below w.heap.size w w5 := (((b1.trans (k2.mono (by omega))).trans (k3.mono (by omega))).trans (k4.mono (by omega))).trans (k5.mono (by omega))
  have hS := h.below bel5 (Nat.le_refl _)
  have z3 : w3.heap.size = w.heap.size + 3 := by omega
  have z4 : w4.heap.size = w.heap.size + 4 := by omega
  have z5 : w5.heap.size = w.heap.size + 5 := by omega
  have rr3 : RAt w3 w.heap.size ⟨rx, ry, m, N⟩ := (i1.below k2 (by omega)).below k3 (by omega)
  have rr5 : RAt w5 w.heap.size ⟨rx, ry, m, N⟩ := (rr3.below k4 (by omega)).below k5 (by omega)
  have p5 : w5.cell? ⟨w.heap.size + 2, 0, none⟩ = some (.slice (some ⟨w.heap.size + 1, 0, none⟩) n n) := by
    rw [z2] at x3
    exact (k5.cell (p := ⟨w.heap.size + 2, 0, none⟩) (by show w.heap.size + 2 < _; omega)).trans ((k4.cell (p := ⟨w.heap.size + 2, 0, none⟩) (by show w.heap.size + 2 < _; omega)).trans x3)
  have s5 : w5.cell? ⟨w.heap.size + 3, 0, none⟩ = some (.pointer (some ⟨b, 0, none⟩)) := by
    rw [z3] at x4
    exact (k5.cell (p := ⟨w.heap.size + 3, 0, none⟩) (by show w.heap.size + 3 < _; omega)).trans x4
  have q5 : w5.heap[w.heap.size + 1]? = some (.cells (ints (gen n (fun _ => 0))).toArray 3 (0, 0)) :=
    (k5.block _ (by omega)).trans ((k4.block _ (by omega)).trans ((k3.block _ (by omega)).trans n2))
  rw [z4] at i5
  obtain ⟨sc0, sc1, sc2⟩ := hS.cells
  rw [hM] at sc2
  have hC : Caps w5 (w.heap.size + 4) (w.heap.size + 3) b W H ⟨rx, ry, m, N⟩ g M := ⟨s5, i5, sc0, sc2⟩
  have hseq := rows_stops 4 (by decide) (w.heap.size + 4) (w.heap.size + 3) b g W H l hok ⟨rx, ry, m, N⟩ hr N rfl M hM w5 hC (fun k hk => by
    simp only [List.mem_cons, List.mem_nil_iff, or_false] at hk
    rcases hk with rfl | rfl | rfl <;> omega)
  have SRC : RowKit.Hid (∀ Wd, Touch w5 Wd [w.heap.size + 1] → ∀ i, i < M → Wd.cell? ⟨g, i, none⟩ = some (.int .i64 (px l i))) := Lib.hid (fun Wd ht i hi =>
    ht.cell (by omega) (by simp; omega) (row_cell hS.row (by rw [hM]; exact hi)))
  obtain ⟨ra, rb, rc, rd⟩ := i1
  obtain ⟨sa, sb, sc, sd⟩ := rr3
  obtain ⟨r0, r1, r2, r3⟩ := rr5
  simp only at ra rb rc rd sa sb sc sd r0 r1 r2 r3
  have HB5 := Lib.hid bel5
  have HS5 := Lib.hid hS
  have HOK := Lib.hid hok
  have HR := Lib.hid hr
  have HM := Lib.hid hM
  have HSEQ := Lib.hid hseq
  have HRR := Lib.hid hrr
  have HQ5 := Lib.hid q5
  clear b1 k2 k3 x3 k4 x4 i5 k5 bel5 hS s5 sc0 sc1 sc2 hC hseq hok h hr hrr hM n2 q5
  unfold Rc.v ptr at *
  simp only at *
  refine (callsIn_wide (n := 5)).1 ?_
  refine callsIn_of_wp_marks Try.func43 rfl trivial ?_ rfl
  simp only [Try.ntmps43, List.size_toArray, List.length_cons, List.length_nil, Nat.reduceAdd, Nat.reduceSub, Array.replicate_succ, Array.replicate_zero, List.push_toArray, List.append_toArray, List.nil_append, List.cons_append]
  have g1 := G1.out
  have g2 := G2.out
  gi_wp2
  clear g1 g2
  refine ⟨trivial, (callsIn_wide.2 C0.out).mono ?_⟩
  rintro e w' ⟨rfl, hw'⟩
  subst w'
  gi_wp2
  refine wpIn_rangeFunc_ownF (F := Fence.wide) (n := 5) rfl (by decide) (gf := 47) (lb := #[.pointer (some ⟨w.heap.size + 1 + 1 + 1 + 1, 0, none⟩), .pointer (some ⟨w.heap.size + 1 + 1 + 1, 0, none⟩)]) rfl trivial (enters_of Try.func47 (by kernel_rfl) rfl) HSEQ.out
    (fun h k => h.trans k) (Same.put (fun k hk => by
      simp only [List.mem_cons, List.mem_nil_iff, or_false] at hk
      rcases hk with rfl | rfl | rfl <;> omega)) (Below.refl _ _) (fun _ => rfl)
    (fun (pre : List (Fin N)) W' => W'.heap[w.heap.size + 1]? = some (.cells (ints (takeR W ⟨rx, ry, m, N⟩ l N m (pre.map (·.1)))).toArray 3 (0, 0)) ∧ Touch w5 W' [w.heap.size + 1])
    (fun _ _ _ => False)
    (own_row (α := Fin N) (w := w5) (g := w.heap.size + 1) (by omega) 3 (fun (pre : List (Fin N)) => (ints (takeR W ⟨rx, ry, m, N⟩ l N m (pre.map (·.1)))).toArray))
    (fun _ _ _ _ _ hs _ _ => hs)
    ⟨by rw [List.map_nil, takeR_nil, HN.out]; exact HQ5.out, Touch.of_below (Below.refl _ _) _⟩
    (fun x => { tmps := #[.pointer (some ⟨b, 0, none⟩), .agg #[.int .i64 rx, .int .i64 ry, .int .i64 m, .int .i64 N], undef, .pointer (some ⟨w.heap.size, 0, none⟩), .slice none 0 0, .pointer (some ⟨w.heap.size + 1 + 1, 0, none⟩), .int .i64 (x.1 : Int), cutV g M (rowO W ⟨rx, ry, m, N⟩ x.1) ((m : Int).toNat), .pointer (some ⟨w.heap.size, 2, none⟩), .int .i64 m, .pointer (some ⟨w.heap.size, 3, none⟩), .int .i64 N, .int .i64 n, .slice (some ⟨w.heap.size + 1, 0, none⟩) n n, .pointer (some ⟨b, 0, none⟩), .agg #[.int .i64 rx, .int .i64 ry, .int .i64 m, .int .i64 N], .func (.func 47) #[] #[.pointer (some ⟨w.heap.size + 1 + 1 + 1 + 1, 0, none⟩), .pointer (some ⟨w.heap.size + 1 + 1 + 1, 0, none⟩)], .int .i64 (x.1 : Int), cutV g M (rowO W ⟨rx, ry, m, N⟩ x.1) ((m : Int).toNat), undef, undef, undef, undef, undef, undef, undef, undef, undef], defers := [] }) ?assign ?body ?done ?stop
  case assign =>
    intro l x W K hK
    simp only [rowE]
    gi_wp2
    exact hK
  case body =>
    rintro l2 pre ⟨k, hkN⟩ W2 ⟨hrow, ht⟩ _
    have e2 := (rowO_in HOK.out HR.out (i := k) (by simp only; omega)).2.1
    rw [HM.out] at e2
    simp only [Int.toNat_natCast] at e2
    obtain ⟨lo, hlo⟩ : ∃ lo, k * m = lo := ⟨_, rfl⟩
    have hlo1 : lo + m ≤ n := by
      rw [← HN.out, ← hlo]
      have := Nat.mul_le_mul_right m (show k + 1 ≤ N by omega)
      rwa [Nat.add_mul, Nat.one_mul] at this
    have f1 : IntKind.i64.wrap ((k : Int) * (m : Int)) = lo := (IntWalk.i64_in _ (by rw [← Int.natCast_mul, hlo]; omega)).trans (by rw [← Int.natCast_mul, hlo])
    have f2 : wrap64 ((k : Int) * (m : Int)) = lo := (IntWalk.wrap64_in _ (by rw [← Int.natCast_mul, hlo]; omega)).trans (by rw [← Int.natCast_mul, hlo])
    have HF1 := Lib.hid f1
    have HF2 := Lib.hid f2
    clear f1 f2
    have hne2 : w.heap.size ∉ [w.heap.size + 1] := by simp
    have hne3 : w.heap.size + 2 ∉ [w.heap.size + 1] := by simp
    have d1 := ht.cell (by omega) hne3 p5
    have d2 := ht.cell (by omega) hne2 r2
    have hcut : ∀ Wx : World, (Instr.slice 30 (.slice (some ⟨w.heap.size + 1, 0, none⟩) n n) (some (.int .i64 (lo : Int))) none none).run Try.prog Wx = .ok (cutV (w.heap.size + 1) n lo (n - lo)) Wx := by
      have hlq := Nat.le_trans (Nat.le_add_right lo m) hlo1
      intro Wx
      exact run_from Wx _ _ _ hlq _ rfl
    obtain ⟨W3, hcp, hrow3, ht3, hk3⟩ := copy_run W2 (w.heap.size + 1) n lo (n - lo) (takeR W ⟨rx, ry, m, N⟩ l N m (pre.map (·.1))) (by unfold takeR; rw [gen_length]; exact HN.out) hrow (by omega)
      (if M = rowO W ⟨rx, ry, m, N⟩ k then some ⟨g, 0, none⟩ else some ⟨g, rowO W ⟨rx, ry, m, N⟩ k, none⟩) ((m : Int).toNat) (M - rowO W ⟨rx, ry, m, N⟩ k) m (by rw [Int.toNat_natCast]; omega) (fun j => px l (rowO W ⟨rx, ry, m, N⟩ k + j)) (fun h0 => by
        refine ⟨g, rowO W ⟨rx, ry, m, N⟩ k, if_neg (by omega), fun j hj => SRC.out W2 ht _ (by omega)⟩)
    rw [← hlo, takeR_step W ⟨rx, ry, m, N⟩ l N m k (pre.map (·.1)) n HN.out] at hrow3
    have hcp : (Builtin.copy_ #[30, 30] 3 #[cutV (w.heap.size + 1) n lo (n - lo), cutV g M (rowO W ⟨rx, ry, m, N⟩ k) ((m : Int).toNat)]).run Try.prog W2 = .ok (.int .i64 (m : Int)) W3 := hcp
    dsimp only
    generalize cutV g M (rowO W ⟨rx, ry, m, N⟩ k) ((m : Int).toNat) = CV at *
    generalize cutV (w.heap.size + 1) n lo (n - lo) = QV at *
    have f1 := HF1.out
    have f2 := HF2.out
    have HRO := Lib.hid hrow3
    have HT3 := Lib.hid ht3
    have HK3 := Lib.hid hk3
    have HT := Lib.hid ht
    clear e2 hN4 hm4 hlo hlo1 hn4 hne2 hne3 hrow ht hrow3 ht3 hk3 SRC HSEQ C0 ra rb rc rd r0 r1 r2 r3 sa sb sc sd p5 hw1 hw2 hw3 hw4 hw5 hmk
    gi_wp2
    clear HF1 HF2 f1 f2
    refine ⟨HK3.out, fun k hk => HT3.out.block k ?_ ?_, ?_, HT.out.trans2 HT3.out⟩
    · have := HT.out.size
      simp only [List.mem_cons, List.mem_nil_iff, or_false] at hk
      rcases hk with rfl | rfl | rfl <;> omega
    · simp only [List.mem_cons, List.mem_nil_iff, or_false] at hk ⊢
      rcases hk with rfl | rfl | rfl <;> omega
    · have := HRO.out
      rwa [List.map_append]
  case done =>
    rintro D ys W2 hD rfl ⟨hrow, ht⟩ hK
    have hne3 : w.heap.size + 2 ∉ [w.heap.size + 1] := by simp
    have d1 := ht.cell (by omega) hne3 p5
    have HK := Lib.hid hK
    have HT := Lib.hid ht
    have HRW := Lib.hid hrow
    clear hK ht hrow hne3
    gi_wp2
    refine ⟨by simp, .inl ⟨_, _, rfl, run_takeDeferred HK.out, ?_⟩⟩
    have hw := (HT.out.put D (.deferred none) hD)
    refine ⟨_, results_tmp rfl _ _ _, _, rfl, ?_, ?_⟩
    · have hgd : w.heap.size + 1 ≠ D := by omega
      have hq : (W2.putObj D (.deferred none)).heap[w.heap.size + 1]? = some (.cells (ints (partL W ⟨rx, ry, m, N⟩ l)).toArray 3 (0, 0)) := by
        rw [World.putObj_heap_other hgd, HRW.out, takeR_all HOK.out HR.out rfl rfl]
      have := ints_owned (B := w.heap.size) (by omega) (by rw [HPL.out]; exact hn4) hq
      rw [HPL.out] at this
      exact this
    · exact ⟨hw.os.trans HB5.out.os, hw.tape.trans HB5.out.tape, hw.output.trans HB5.out.output, Nat.le_trans HB5.out.size hw.size, fun k hk => (hw.block k (by omega) (by simp; omega)).trans (HB5.out.block k hk)⟩
  case stop =>
    rintro D c pre W2 _ _ hf _
    exact hf.elim
end Go.Proofs.Ytlamdgdegmjljaa.Scr
