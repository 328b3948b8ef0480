/-
  The program's draw: a loop over the rows of a rectangle.
-/
import Derived.Test.YtlamdgdegmjljaaScrPrgE
namespace Go.Proofs.Ytlamdgdegmjljaa.Scr
open Go.ChangeShapes Go.WideShapes Go.ChangeAt Go.RowKit Go.Shelf Lz RowG RegVal Reg
set_option linter.unusedVariables false
set_option maxRecDepth 100000
attribute [local go_sem] Oper.semAt_some

theorem Touch.trans2 {a b c : World} {F : List Nat} (h : Touch a b F) (k : Touch b c F) : Touch a c F :=
  ⟨k.os.trans h.os, k.tape.trans h.tape, k.output.trans h.output, Nat.le_trans h.size k.size, fun i hi hm => (k.block i (Nat.lt_of_lt_of_le hi h.size) hm).trans (h.block i hi hm)⟩
theorem Touch.cell {w w' : World} {F : List Nat} (h : Touch w w' F) {B o : Nat} (hB : B < w.heap.size) (hF : B ∉ F) {v : Value} (c : w.cell? ⟨B, o, none⟩ = some v) : w'.cell? ⟨B, o, none⟩ = some v := by
  have e := h.block B hB hF
  rw [← c]
  simp only [World.cell?, e]
theorem Touch.put {w W : World} {F : List Nat} (h : Touch w W F) (D : Nat) (o : Obj) (hD : w.heap.size ≤ D) : Touch w (W.putObj D o) F :=
  ⟨h.os, h.tape, h.output, by have := h.size; simpa [World.putObj] using this, fun k hk hm => (World.putObj_heap_other (by omega)).trans (h.block k hk hm)⟩
/-- What stands between two rounds: block g's row, and all else as it was. -/
theorem own_row {α : Type} {w : World} {g : Nat} (hg : g < w.heap.size) (T : TypeId) (f : List α → Array Value) : OwnFrom w.heap.size (fun pre W => W.heap[g]? = some (.cells (f pre) T (0, 0)) ∧ Touch w W [g]) := by
  rintro s A B row ⟨h1, h2⟩ hgr hr
  refine ⟨?_, hgr.os.trans h2.os, hgr.tape.trans h2.tape, hgr.output.trans h2.output, Nat.le_trans h2.size hgr.size, fun k hk hm => ?_⟩
  · rw [hgr.block g (Nat.lt_of_lt_of_le hg h2.size) (fun e => by have := (hr g e.symm).1; omega)]
    exact h1
  · rw [hgr.block k (Nat.lt_of_lt_of_le hk h2.size) (fun e => by have := (hr k e.symm).1; omega)]
    exact h2.block k hk hm
theorem run_tail (W : World) (qa : Option Addr) (n c lo : Nat) (h1 : lo ≤ n) (p : Int) (hp : p = lo) :
    (Instr.slice 30 (.slice qa n c) (some (.int .i64 p)) none none).run Try.prog W = .ok (.slice (if c = lo then qa else qa.map (·.add lo)) (n - lo) (c - lo)) W := by
  subst hp
  have h3 : (lo : Int) ≤ n := by omega
  have hc := run_sliceBound (P := Try.prog) (w := W) .i64 (lo : Int) n .sliceB (by omega) h3
  simp [Instr.slice, run_underlying Try.underlying30, Instr.sliceBounds, hc]
set_option maxHeartbeats 4000000 in
theorem draw_any {w : World} {b g : Nat} {W H : Int} {l : List Int} (h : ScrAt w b g W H l) (r : Rc) (hr : insB r W H = true) (q : List Int) (qv : Value) (hq : SW w qv q) (hrm : Room qv) (hoff : 0 < q.length → ∀ k, qv.ownBlock = some k → k ≠ g) (hright : rightQ r q = true) :
    Calls Try.prog 42 #[ptr b, r.v, qv] w fun e w' => e = .returned (.tuple #[]) ∧ ScrAt w' b g W H (blitL W r q l) ∧ Touch w w' [g] := by
  have hok := h.ok
  have HBL := Lib.hid (hok.blit r hright)
  have hlen : (q.length : Int) = r.w * r.h := by
    unfold rightQ at hright
    simp only [Bool.and_eq_true, decide_eq_true_eq] at hright
    exact hright.1
  clear hright
  have hrr := ins_iff.1 hr
  obtain ⟨rx, ry, rw', rh⟩ := r
  simp only at hrr hlen
  obtain ⟨m, rfl⟩ : ∃ m : Nat, rw' = m := ⟨rw'.toNat, by omega⟩
  obtain ⟨N, rfl⟩ : ∃ N : Nat, rh = N := ⟨rh.toNat, by omega⟩
  have hlen : q.length = N * m := by
    have e : ((N * m : Nat) : Int) = (m : Int) * N := by rw [Int.natCast_mul, Int.mul_comm]
    omega
  obtain ⟨qa, qc, rfl, _, hqc⟩ := hq
  have hrm := hrm _ _ _ rfl
  obtain ⟨M, hM⟩ : ∃ M, l.length = M := ⟨_, rfl⟩
  obtain ⟨qn, hqn⟩ : ∃ qn, q.length = qn := ⟨_, rfl⟩
  rw [hqn] at hqc hrm hlen hoff ⊢
  have hlt := h.lt
  have z1 := alloc_size w (.cells #[.int .i64 rx, .int .i64 ry, .int .i64 m, .int .i64 N] 35)
  have i1 := RAt.box w ⟨rx, ry, m, N⟩ 35
  have b1 := (Below.refl w.heap.size w).alloc (Nat.le_refl _) (.cells #[.int .i64 rx, .int .i64 ry, .int .i64 m, .int .i64 N] 35)
  obtain ⟨w1, hw1⟩ : ∃ w1, w.alloc (.cells #[.int .i64 rx, .int .i64 ry, .int .i64 m, .int .i64 N] 35) = w1 := ⟨_, rfl⟩
  rw [hw1] at z1
  simp only at i1
  rw [hw1] at i1 b1
  have z2 := alloc_size w1 (.cells #[.slice qa qn qc] 30)
  obtain ⟨k2, x2⟩ := box1 w1 #[.slice qa qn qc] 30
  have x2 := x2 0 _ rfl
  obtain ⟨w2, hw2⟩ : ∃ w2, w1.alloc (.cells #[.slice qa qn qc] 30) = w2 := ⟨_, rfl⟩
  rw [hw2] at z2 k2 x2
  have C0 := Lib.hid (rows_any b ⟨rx, ry, m, N⟩ w2)
  have z3 := alloc_size w2 (.cells #[ptr b] 25)
  obtain ⟨k3, x3⟩ := box1 w2 #[ptr b] 25
  have x3 := x3 0 _ rfl
  obtain ⟨w3, hw3⟩ : ∃ w3, w2.alloc (.cells #[ptr b] 25) = w3 := ⟨_, rfl⟩
  simp only at C0
  rw [hw3] at z3 k3 x3 C0
  have z4 := alloc_size w3 (.cells #[.int .i64 rx, .int .i64 ry, .int .i64 m, .int .i64 N] 35)
  have i4 := RAt.box w3 ⟨rx, ry, m, N⟩ 35
  have k4 := (Below.refl w3.heap.size w3).alloc (Nat.le_refl _) (.cells #[.int .i64 rx, .int .i64 ry, .int .i64 m, .int .i64 N] 35)
  simp only at i4
  obtain ⟨w4, hw4⟩ : ∃ w4, w3.alloc (.cells #[.int .i64 rx, .int .i64 ry, .int .i64 m, .int .i64 N] 35) = w4 := ⟨_, rfl⟩
  rw [hw4] at z4 k4 i4 C0
  have bel4 : Below w.heap.size w w4 := ((b1.trans (k2.mono (by omega))).trans (k3.mono (by omega))).trans (k4.mono (by omega))
  have hS := h.below bel4 (Nat.le_refl _)
  have z1 : w1.heap.size = w.heap.size + 1 := by omega
  have z2 : w2.heap.size = w.heap.size + 2 := by omega
  have z3 : w3.heap.size = w.heap.size + 3 := by omega
  have z4 : w4.heap.size = w.heap.size + 4 := by omega
  obtain ⟨ra, rb, rc, rd⟩ := i1.below k2 (by omega)
  simp only at ra rb rc rd
  have r4 : RAt w4 w.heap.size ⟨rx, ry, m, N⟩ := ((i1.below k2 (by omega)).below k3 (by omega)).below k4 (by omega)
  have p4 : w4.cell? ⟨w.heap.size + 1, 0, none⟩ = some (.slice qa qn qc) := by
    rw [z1] at x2
    exact (k4.cell (p := ⟨w.heap.size + 1, 0, none⟩) (by show w.heap.size + 1 < _; omega)).trans ((k3.cell (p := ⟨w.heap.size + 1, 0, none⟩) (by show w.heap.size + 1 < _; omega)).trans x2)
  have s4 : w4.cell? ⟨w.heap.size + 2, 0, none⟩ = some (.pointer (some ⟨b, 0, none⟩)) := by
    rw [z2] at x3
    exact (k4.cell (p := ⟨w.heap.size + 2, 0, none⟩) (by show w.heap.size + 2 < _; omega)).trans x3
  rw [z3] at i4
  obtain ⟨sc0, sc1, sc2⟩ := hS.cells
  rw [hM] at sc2
  have hC : Caps w4 (w.heap.size + 3) (w.heap.size + 2) b W H ⟨rx, ry, m, N⟩ g M := ⟨s4, i4, sc0, sc2⟩
  have hseq := rows_stops 4 (by decide) (w.heap.size + 3) (w.heap.size + 2) b g W H l hok ⟨rx, ry, m, N⟩ hr N rfl M hM w4 hC (fun k hk => by
    simp only [List.mem_cons, List.mem_nil_iff, or_false] at hk
    rcases hk with rfl | rfl | rfl <;> omega)
  have SRC : RowKit.Hid (∀ Wd, Touch w4 Wd [g] → 0 < qn → ∃ p x, qa = some ⟨p, x, none⟩ ∧ ∀ i, i < qn → Wd.cell? ⟨p, x + i, none⟩ = some (.int .i64 (px q i))) := Lib.hid (fun Wd ht h0 => by
    obtain ⟨p, x, rfl, hp, hc⟩ := hqc h0
    refine ⟨p, x, rfl, fun i hi => ht.cell (by omega) (by simpa using hoff h0 p rfl) ((bel4.cell (p := ⟨p, x + i, none⟩) hp).trans (hc i hi))⟩)
  have HB4 := Lib.hid bel4
  have HS4 := Lib.hid hS
  have HOK := Lib.hid hok
  have HR := Lib.hid hr
  have HM := Lib.hid hM
  have HQN := Lib.hid hqn
  have HSEQ := Lib.hid hseq
  have HLEN := Lib.hid hlen
  have HRR := Lib.hid hrr
  obtain ⟨r0, r1, r2, r3⟩ := r4
  simp only at r0 r1 r2 r3
  clear i1 b1 k2 x2 k3 x3 i4 k4 bel4 hS s4 sc0 sc1 sc2 hC hseq hqc hoff hlen hok h hr hrr hM hqn z1
  unfold Rc.v ptr at *
  simp only at *
  refine (callsIn_wide (n := 5)).1 ?_
  refine callsIn_of_wp_marks Try.func42 rfl trivial ?_ rfl
  simp only [Try.ntmps42, List.size_toArray, List.length_cons, List.length_nil, Nat.reduceAdd, Nat.reduceSub, Array.replicate_succ, Array.replicate_zero, List.push_toArray, List.append_toArray, List.nil_append, List.cons_append]
  gi_wp2
  refine ⟨trivial, (callsIn_wide.2 C0.out).mono ?_⟩
  rintro e w' ⟨rfl, hw'⟩
  subst w'
  gi_wp2
  refine wpIn_rangeFunc_ownF (F := Fence.wide) (n := 5) rfl (by decide) (gf := 47) (lb := #[.pointer (some ⟨w.heap.size + 1 + 1 + 1, 0, none⟩), .pointer (some ⟨w.heap.size + 1 + 1, 0, none⟩)]) rfl trivial (enters_of Try.func47 (by kernel_rfl) rfl) HSEQ.out
    (fun h k => h.trans k) (Same.put (fun k hk => by
      simp only [List.mem_cons, List.mem_nil_iff, or_false] at hk
      rcases hk with rfl | rfl | rfl <;> omega)) (Below.refl _ _) (fun _ => rfl)
    (fun (pre : List (Fin N)) W' => W'.heap[g]? = some (.cells (ints (mixR W ⟨rx, ry, m, N⟩ q l (pre.map (·.1)))).toArray 3 (0, 0)) ∧ Touch w4 W' [g])
    (fun _ _ _ => False)
    (own_row (α := Fin N) (w := w4) (g := g) (by omega) 3 (fun (pre : List (Fin N)) => (ints (mixR W ⟨rx, ry, m, N⟩ q l (pre.map (·.1)))).toArray))
    (fun _ _ _ _ _ hs _ _ => hs)
    ⟨by rw [List.map_nil, mixR_nil]; exact HS4.out.row, Touch.of_below (Below.refl _ _) _⟩
    (fun x => { tmps := #[.pointer (some ⟨b, 0, none⟩), .agg #[.int .i64 rx, .int .i64 ry, .int .i64 m, .int .i64 N], .slice qa qn qc, undef, .pointer (some ⟨w.heap.size, 0, none⟩), .pointer (some ⟨w.heap.size + 1, 0, none⟩), .int .i64 (x.1 : Int), cutV g M (rowO W ⟨rx, ry, m, N⟩ x.1) ((m : Int).toNat), .pointer (some ⟨b, 0, none⟩), .agg #[.int .i64 rx, .int .i64 ry, .int .i64 m, .int .i64 N], .func (.func 47) #[] #[.pointer (some ⟨w.heap.size + 1 + 1 + 1, 0, none⟩), .pointer (some ⟨w.heap.size + 1 + 1, 0, none⟩)], .int .i64 (x.1 : Int), cutV g M (rowO W ⟨rx, ry, m, N⟩ x.1) ((m : Int).toNat), undef, undef, undef, undef, undef, undef, undef, undef], defers := [] }) ?assign ?body ?done ?stop
  case assign =>
    intro l x W K hK
    simp only [rowE]
    gi_wp2
    exact hK
  case body =>
    rintro l2 pre ⟨k, hkN⟩ W2 ⟨hrow, ht⟩ _
    have e2 := (rowO_in HOK.out HR.out (i := k) (by simp only; omega)).2.1
    rw [HM.out] at e2
    have hN4 : N ≤ 4096 := by have := HRR.out; have := HOK.out.h; omega
    have hm4 : m ≤ 4096 := by have := HRR.out; have := HOK.out.w; omega
    obtain ⟨lo, hlo⟩ : ∃ lo, k * m = lo := ⟨_, rfl⟩
    have hlo1 : lo + m ≤ qn := by
      rw [HLEN.out, ← hlo]
      have := Nat.mul_le_mul_right m (show k + 1 ≤ N by omega)
      rwa [Nat.add_mul, Nat.one_mul] at this
    have hlo2 : lo ≤ 16777216 := by
      have h1 := Nat.mul_le_mul (show k ≤ 4096 by omega) hm4
      rw [hlo] at h1
      omega
    have f1 : IntKind.i64.wrap ((k : Int) * (m : Int)) = lo := (IntWalk.i64_in _ (by rw [← Int.natCast_mul, hlo]; omega)).trans (by rw [← Int.natCast_mul, hlo])
    have f2 : wrap64 ((k : Int) * (m : Int)) = lo := (IntWalk.wrap64_in _ (by rw [← Int.natCast_mul, hlo]; omega)).trans (by rw [← Int.natCast_mul, hlo])
    have HF1 := Lib.hid f1
    have HF2 := Lib.hid f2
    clear f1 f2
    have hst := HRR.out
    have hne : w.heap.size + 1 ∉ [g] := by simp; omega
    have hne2 : w.heap.size ∉ [g] := by simp; omega
    have d1 := ht.cell (by omega) hne p4
    have d2 := ht.cell (by omega) hne2 r2
    have hcut : ∀ Wx : World, (Instr.slice 30 (.slice qa qn qc) (some (.int .i64 (lo : Int))) none none).run Try.prog Wx = .ok (.slice (if qc = lo then qa else qa.map (·.add lo)) (qn - lo) (qc - lo)) Wx := by
      have hlq := Nat.le_trans (Nat.le_add_right lo m) hlo1
      intro Wx
      exact run_tail Wx qa qn qc lo hlq _ rfl
    obtain ⟨W3, hcp, hrow3, ht3, hk3⟩ := copy_run W2 g M (rowO W ⟨rx, ry, m, N⟩ k) ((m : Int).toNat) (mixR W ⟨rx, ry, m, N⟩ q l (pre.map (·.1))) (by rw [mixR_length]; exact HM.out) hrow e2
      (if qc = lo then qa else qa.map (·.add lo)) (qn - lo) (qc - lo) m (by rw [Int.toNat_natCast]; omega) (fun j => px q (k * m + j)) (fun h0 => by
        obtain ⟨p, x, rfl, hc⟩ := SRC.out W2 ht (by omega)
        refine ⟨p, x + lo, ?_, fun j hj => ?_⟩
        · rw [if_neg (by omega), Option.map_some, Go.WideShapes.add_plain]
        · rw [hlo]
          have := hc (lo + j) (by omega)
          rwa [Nat.add_assoc])
    rw [mixR_step HOK.out HR.out (by simp only; omega) q (pre.map (·.1)) M m HM.out rfl _ (fun j _ => rfl)] at hrow3
    dsimp only
    generalize cutV g M (rowO W ⟨rx, ry, m, N⟩ k) ((m : Int).toNat) = CV at *
    generalize (if qc = lo then qa else qa.map (·.add lo)) = QA at *
    have f1 := HF1.out
    have f2 := HF2.out
    have HRO := Lib.hid hrow3
    have HT3 := Lib.hid ht3
    have HK3 := Lib.hid hk3
    have HT := Lib.hid ht
    clear e2 hN4 hm4 hlo hlo1 hlo2 hst hne hne2 hrow ht hrow3 ht3 hk3 SRC HSEQ C0 ra rb rc rd r0 r1 r2 r3 p4 hw1 hw2 hw3 hw4
    gi_wp2
    clear HF1 HF2 f1 f2
    refine ⟨HK3.out, fun k hk => HT3.out.block k ?_ ?_, ?_, HT.out.trans2 HT3.out⟩
    · have := HT.out.size
      simp only [List.mem_cons, List.mem_nil_iff, or_false] at hk
      rcases hk with rfl | rfl | rfl <;> omega
    · simp only [List.mem_cons, List.mem_nil_iff, or_false] at hk ⊢
      rcases hk with rfl | rfl | rfl
      · omega
      · omega
      · exact HS4.out.ne
    · have := HRO.out
      rwa [List.map_append]
  case done =>
    rintro D ys W2 hD rfl ⟨hrow, ht⟩ hK
    gi_wp2
    refine ⟨by simp, .inl ⟨_, _, rfl, run_takeDeferred hK, ?_⟩⟩
    have hw := (ht.put D (.deferred none) hD)
    refine ⟨_, results_none rfl _ _ _, rfl, ⟨HBL.out, HS4.out.ne, ?_, ?_⟩, ?_⟩
    · rw [hw.block b (by omega) (by simpa using HS4.out.ne)]
      have := HS4.out.head
      unfold blitL
      rw [gen_length]
      exact this
    · have hgd : g ≠ D := by omega
      rw [World.putObj_heap_other hgd, hrow]
      rw [mixR_all rfl]
    · exact ⟨hw.os.trans HB4.out.os, hw.tape.trans HB4.out.tape, hw.output.trans HB4.out.output, Nat.le_trans HB4.out.size hw.size, fun k hk hm => (hw.block k (by omega) hm).trans (HB4.out.block k hk)⟩
  case stop =>
    rintro D c pre W2 _ _ hf _
    exact hf.elim
end Go.Proofs.Ytlamdgdegmjljaa.Scr
