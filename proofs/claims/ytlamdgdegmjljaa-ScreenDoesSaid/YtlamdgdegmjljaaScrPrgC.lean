/-
  How the program's screen lies in memory; its New, Size, has, At.
-/
import Derived.Test.YtlamdgdegmjljaaScrPrgB
namespace Go.Proofs.Ytlamdgdegmjljaa.Scr
open Go.ChangeShapes Go.WideShapes Go.ChangeAt Go.RowKit Lz RowG RegVal Reg
set_option linter.unusedVariables false
set_option maxRecDepth 100000

/-- A screen at block b, its colours at block g. -/
structure ScrAt (w : World) (b g : Nat) (W H : Int) (l : List Int) : Prop where
  ok : ImOk W H l
  ne : b ≠ g
  head : w.heap[b]? = some (.cells #[.int .i64 W, .int .i64 H, .slice (some ⟨g, 0, none⟩) l.length l.length] 66 (0, 0))
  row : w.heap[g]? = some (.cells (ints l).toArray 3 (0, 0))
def lies : Lies := fun w b W H l F => ∃ g, F = [b, g] ∧ ScrAt w b g W H l
theorem ScrAt.keep {w w' : World} {b g : Nat} {W H : Int} {l : List Int} (h : ScrAt w b g W H l) (h1 : w'.heap[b]? = w.heap[b]?) (h2 : w'.heap[g]? = w.heap[g]?) : ScrAt w' b g W H l :=
  ⟨h.ok, h.ne, h1.trans h.head, h2.trans h.row⟩
theorem ScrAt.lt {w : World} {b g : Nat} {W H : Int} {l : List Int} (h : ScrAt w b g W H l) : b < w.heap.size ∧ g < w.heap.size :=
  ⟨(Array.getElem?_eq_some_iff.1 h.head).1, (Array.getElem?_eq_some_iff.1 h.row).1⟩
theorem ScrAt.below {w w' : World} {b g n : Nat} {W H : Int} {l : List Int} (h : ScrAt w b g W H l) (k : Below n w w') (hn : w.heap.size ≤ n) : ScrAt w' b g W H l :=
  h.keep (k.block b (by have := h.lt; omega)) (k.block g (by have := h.lt; omega))
theorem ScrAt.cells {w : World} {b g : Nat} {W H : Int} {l : List Int} (h : ScrAt w b g W H l) :
    w.cell? ⟨b, 0, none⟩ = some (.int .i64 W) ∧ w.cell? ⟨b, 1, none⟩ = some (.int .i64 H) ∧ w.cell? ⟨b, 2, none⟩ = some (.slice (some ⟨g, 0, none⟩) l.length l.length) := by
  have o0 := cell_of_row w b 0 _ _ _ h.head
  have o1 := cell_of_row w b 1 _ _ _ h.head
  have o2 := cell_of_row w b 2 _ _ _ h.head
  exact ⟨by simpa using o0, by simpa using o1, by simpa using o2⟩
theorem row_cell {w : World} {g : Nat} {l : List Int} (h : w.heap[g]? = some (.cells (ints l).toArray 3 (0, 0))) {i : Nat} (hi : i < l.length) : w.cell? ⟨g, i, none⟩ = some (.int .i64 (px l i)) := by
  have o := cell_of_row w g i _ _ _ h
  rw [o, px_get hi, ← ints_get hi]
  simp
theorem lies_lt {w : World} {b : Nat} {W H : Int} {l : List Int} {F : List Nat} (h : lies w b W H l F) : ∀ k ∈ F, k < w.heap.size := by
  obtain ⟨g, rfl, h⟩ := h
  have := h.lt
  intro k hk
  simp only [List.mem_cons, List.mem_nil_iff, or_false] at hk
  rcases hk with rfl | rfl <;> omega
theorem lies_ok {w : World} {b : Nat} {W H : Int} {l : List Int} {F : List Nat} (h : lies w b W H l F) : ImOk W H l := by
  obtain ⟨g, rfl, h⟩ := h
  exact h.ok
theorem lies_keep {w w' : World} {b : Nat} {W H : Int} {l : List Int} {F : List Nat} (h : lies w b W H l F) (k : ∀ k ∈ F, w'.heap[k]? = w.heap[k]?) (_ : w.heap.size ≤ w'.heap.size) : lies w' b W H l F := by
  obtain ⟨g, rfl, h⟩ := h
  exact ⟨g, rfl, h.keep (k b (by simp)) (k g (by simp))⟩

theorem infoI : (Try.prog.info? 3).map (fun i => (i.zero, i.size, i.bytes)) = some (some (.int .i64 0), 1, 8) := by kernel_rfl
theorem zeros_gen (n : Nat) : madeCells #[Value.int .i64 0] n = (ints (gen n (fun _ => 0))).toArray := by
  unfold madeCells ints gen
  apply Array.ext_getElem?
  intro i
  by_cases h : i < n
  · simp [h, Nat.mod_one]
  · simp [h]
theorem make_black (n : Nat) (hn : n ≤ 16777216) (w : World) : (Instr.makeSlice 30 (.int .i64 n) (.int .i64 n)).run Try.prog w = .ok (.slice (some ⟨w.heap.size, 0, none⟩) n n) (w.alloc (.cells (ints (gen n (fun _ => 0))).toArray 3)) := by
  obtain ⟨i0, hi, hz0, hz1, hz2⟩ := info_parts infoI
  have := run_make (P := Try.prog) w 30 3 i0 (.int .i64 0) Try.underlying30 hi hz0 .i64 .i64 n n (by omega) (by omega) (by rw [hz2]; omega) (by omega)
  rw [hz1] at this
  rw [← zeros_gen]
  simpa [Value.cells] using this
set_option maxHeartbeats 4000000 in
theorem newY_any (W H : Int) (w : World) (hW : sideB W = true) (hH : sideB H = true) : Calls Try.prog 10 #[.int .i64 W, .int .i64 H] w fun e w' => ∃ b F, e = .returned (.tuple #[ptr b, .int .i64 0]) ∧ lies w' b W H (blackL W H) F ∧ (∀ k ∈ F, w.heap.size ≤ k) ∧ Below w.heap.size w w' := by
  obtain ⟨⟨u1, u2⟩, ⟨v1, v2⟩, m1, m2⟩ := side_mul hW hH
  obtain ⟨n, hn⟩ : ∃ n : Nat, W * H = n := ⟨(W * H).toNat, by omega⟩
  have hok := ImOk.black hW hH
  have hbl : blackL W H = gen n (fun _ => 0) := by unfold blackL; rw [hn]; rfl
  rw [hbl] at hok ⊢
  have hk := make_black n (by omega) w
  have hlen : (gen n (fun _ => 0)).length = n := gen_length _ _
  have wr : IntKind.i64.wrap (W * H) = n := (IntWalk.i64_in _ (by omega)).trans hn
  have wr2 : wrap64 (W * H) = n := (IntWalk.wrap64_in _ (by omega)).trans hn
  have C1 := Lib.hid (isSide_any W w)
  have C2 := Lib.hid (isSide_any H w)
  rw [hW] at C1
  rw [hH] at C2
  have HL := Lib.hid hlen
  have HO := Lib.hid hok
  clear hlen hok hbl hn u1 u2 v1 v2 m1 m2 hW hH
  generalize gen n (fun _ => 0) = L at *
  go_enter Try.func10, Try.ntmps10
  go_wp2_with fail
  refine C1.out.mono ?_
  rintro e w' ⟨rfl, rfl⟩
  go_wp2_with fail
  refine C2.out.mono ?_
  rintro e w' ⟨rfl, rfl⟩
  go_wp2_with fail
  go_ret2
  refine ⟨w.heap.size + 1, [w.heap.size + 1, w.heap.size], rfl, ⟨w.heap.size, rfl, HO.out, by omega, ?_, ?_⟩, ?_, ?_⟩
  · rw [HL.out]
    have := heap_alloc_new (w.alloc (.cells (ints L).toArray 3)) (.cells #[.int .i64 W, .int .i64 H, .slice (some ⟨w.heap.size, 0, none⟩) n n] 66)
    rwa [alloc_size] at this
  · rw [(Below.refl _ _).alloc (Nat.le_refl _) _ |>.block w.heap.size (by rw [alloc_size]; omega)]
    exact heap_alloc_new w _
  · intro k hk
    simp only [List.mem_cons, List.mem_nil_iff, or_false] at hk
    rcases hk with rfl | rfl <;> omega
  · exact ((Below.refl _ w).alloc (Nat.le_refl _) _).alloc (by rw [alloc_size]; omega) _
set_option maxHeartbeats 1000000 in
theorem newN_any (W H : Int) (w : World) (h : (sideB W && sideB H) = false) : Calls Try.prog 10 #[.int .i64 W, .int .i64 H] w fun e w' => e = .returned (.tuple #[.pointer none, .int .i64 1]) ∧ Below w.heap.size w w' := by
  have C1 := Lib.hid (isSide_any W w)
  have C2 := Lib.hid (isSide_any H w)
  generalize sideB W = p at *
  generalize sideB H = q at *
  cases p with
  | false =>
    clear h C2
    go_enter Try.func10, Try.ntmps10
    go_wp2_with fail
    refine C1.out.mono ?_
    rintro e w' ⟨rfl, rfl⟩
    go_wp2_with fail
    go_ret2
    exact ⟨rfl, Below.refl _ _⟩
  | true =>
    obtain rfl : q = false := by simpa using h
    clear h
    go_enter Try.func10, Try.ntmps10
    go_wp2_with fail
    refine C1.out.mono ?_
    rintro e w' ⟨rfl, rfl⟩
    go_wp2_with fail
    refine C2.out.mono ?_
    rintro e w' ⟨rfl, rfl⟩
    go_wp2_with fail
    go_ret2
    exact ⟨rfl, Below.refl _ _⟩
set_option maxHeartbeats 1000000 in
theorem size_any {w : World} {b g : Nat} {W H : Int} {l : List Int} (h : ScrAt w b g W H l) : Calls Try.prog 24 #[ptr b] w fun e w' => e = .returned (.tuple #[.int .i64 W, .int .i64 H]) ∧ ∃ q, w' = w.drewN q := by
  obtain ⟨c0, c1, c2⟩ := h.cells
  clear h
  unfold ptr
  go_enter Try.func24, Try.ntmps24
  go_wp2_with fail
  go_quiet (fail)
  go_wp2_with fail
  go_ret2
  exact ⟨rfl, nq, rfl⟩
theorem ImOk.wf {W H : Int} {l : List Int} (h : ImOk W H l) : (Lit.int .i64 W).wf = true ∧ (Lit.int .i64 H).wf = true := by
  have h1 := h.w
  have h2 := h.h
  constructor <;> simp only [Lit.wf, IntKind.min, IntKind.max, IntKind.signed, IntKind.bits, Bool.and_eq_true, decide_eq_true_eq, if_true] <;> omega
set_option maxHeartbeats 1000000 in
theorem has_any {w : World} {b g : Nat} {W H : Int} {l : List Int} (h : ScrAt w b g W H l) (r : Rc) : Calls Try.prog 36 #[ptr b, r.v] w fun e w' => e = .returned (.bool (insB r W H)) ∧ Below w.heap.size w w' := by
  have AT := RAt.box w r 35
  have bel := (Below.refl w.heap.size w).alloc (Nat.le_refl _) (.cells #[.int .i64 r.x, .int .i64 r.y, .int .i64 r.w, .int .i64 r.h] 35)
  have C1 := Lib.hid (size_any (h.below bel (Nat.le_refl _)))
  obtain ⟨p1, p2⟩ := h.ok.wf
  have C2 := Lib.hid (fun w0 => inside_any r W H w0 p1 p2)
  generalize insB r W H = res at *
  obtain ⟨rx, ry, rw, rh⟩ := r
  unfold Rc.v ptr at *
  simp only at *
  obtain ⟨w1, hw1⟩ : ∃ w1, w.alloc (.cells #[.int .i64 rx, .int .i64 ry, .int .i64 rw, .int .i64 rh] 35) = w1 := ⟨_, rfl⟩
  rw [hw1] at AT bel C1
  have HB := Lib.hid bel
  clear bel h p1 p2
  go_enter Try.func36, Try.ntmps36
  go_wp2_with fail
  refine C1.out.mono ?_
  rintro e w' ⟨rfl, q, rfl⟩
  have AT2 : RAt (w1.drewN q) w.heap.size ⟨rx, ry, rw, rh⟩ := AT
  have HB2 := Lib.hid (below_q HB.out q)
  clear AT HB C1 hw1
  generalize w1.drewN q = w2 at *
  obtain ⟨c0, c1, c2, c3⟩ := AT2
  simp only at c0 c1 c2 c3
  have D := Lib.hid (C2.out w2)
  clear C2
  go_wp2_with fail
  refine D.out.mono ?_
  rintro e w3 ⟨rfl, hb⟩
  have HB3 := Lib.hid (below_n HB2.out hb)
  clear HB2 hb D c0 c1 c2 c3
  go_wp2_with fail
  go_ret
  exact ⟨rfl, HB3.out⟩
set_option maxHeartbeats 1000000 in
theorem place_any {w : World} {b g : Nat} {W H : Int} {l : List Int} (h : ScrAt w b g W H l) (x y : Int) : Calls Try.prog 27 #[ptr b, .int .i64 x, .int .i64 y] w fun e w' => e = .returned (.int .i64 (atI W H l x y)) ∧ Below w.heap.size w w' := by
  have C1 := Lib.hid (has_any h ⟨x, y, 1, 1⟩)
  by_cases hin : 0 ≤ x ∧ 0 ≤ y ∧ x < W ∧ y < H
  · have h1 : insB ⟨x, y, 1, 1⟩ W H = true := ins_iff.2 (by simp only; omega)
    have h2 : atI W H l x y = px l (y * W + x).toNat := if_pos hin
    have hs := at_spot (H := H) ⟨hin.1, hin.2.2.1⟩ ⟨hin.2.1, hin.2.2.2⟩
    have hn := h.ok.n
    have hl := h.ok.bound
    obtain ⟨k, hk⟩ : ∃ k : Nat, y * W + x = k := ⟨(y * W + x).toNat, by omega⟩
    have hm : 0 ≤ y * W := Int.mul_nonneg hin.2.1 (by omega)
    rw [h1] at C1
    rw [h2, hk, Int.toNat_natCast]
    have hkl : k < l.length := by omega
    obtain ⟨m, hmm⟩ : ∃ m, y * W = m := ⟨_, rfl⟩
    have e1 : IntKind.i64.wrap (y * W) = m := (IntWalk.i64_in _ (by omega)).trans hmm
    have e2 : wrap64 (y * W) = m := (IntWalk.wrap64_in _ (by omega)).trans hmm
    have e3 : IntKind.i64.wrap (m + x) = k := (IntWalk.i64_in _ (by omega)).trans (by omega)
    have e4 : wrap64 (m + x) = k := (IntWalk.wrap64_in _ (by omega)).trans (by omega)
    have HA := Lib.hid h
    obtain ⟨N, hN⟩ : ∃ N, l.length = N := ⟨_, rfl⟩
    rw [hN] at hkl
    have HN := Lib.hid hN
    clear h h1 h2 hs hn hl hk hm hin hmm hN
    unfold ptr Rc.v at *
    simp only at C1
    go_enter Try.func27, Try.ntmps27
    go_wp2_with fail
    refine C1.out.mono ?_
    rintro e w1 ⟨rfl, hb⟩
    have hA := HA.out.below hb (Nat.le_refl _)
    obtain ⟨c0, c1, c2⟩ := hA.cells
    have c3 := row_cell hA.row (i := k) (by rw [HN.out]; exact hkl)
    rw [HN.out] at c2
    have HB := Lib.hid hb
    clear C1 HA hA hb
    go_wp2_with fail
    go_quiet (fail)
    go_wp2_with fail
    go_ret
    exact ⟨rfl, below_q HB.out nq⟩
  · have h1 : insB ⟨x, y, 1, 1⟩ W H = false := by
      rw [Bool.eq_false_iff]
      intro h
      have := ins_iff.1 h
      simp only at this
      exact hin (by omega)
    have h2 : atI W H l x y = 0 := if_neg hin
    rw [h1] at C1
    rw [h2]
    clear h h1 h2 hin
    unfold ptr Rc.v at *
    simp only at C1
    go_enter Try.func27, Try.ntmps27
    go_wp2_with fail
    refine C1.out.mono ?_
    rintro e w1 ⟨rfl, hb⟩
    have HB := Lib.hid hb
    clear C1 hb
    go_wp2_with fail
    go_ret
    exact ⟨rfl, HB.out⟩
end Go.Proofs.Ytlamdgdegmjljaa.Scr
