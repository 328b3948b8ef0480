/-
  Contracts of deflate's several, alike and runs.
-/
import Derived.Test.YtkpieakgpnnonaaGreatDflRow
namespace Go.Proofs.YtkpieakgpnnonaaGreat.Dfl
open Go.ChangeShapes Go.WideShapes Go.ChangeAt Go.RowKit
open Go.Proofs.YtkpieakgpnnonaaGreat.Def
set_option linter.unusedVariables false
set_option maxRecDepth 100000

/-- Runs in a row of their own. -/
structure RunsAt (B : Nat) (w : World) (v : Value) (Y : List (Nat × Nat)) : Prop where
  own : w.ownsRow 0 83 3 v Y.length (cellsR Y)
  new : ∀ j, v.ownBlock = some j → B ≤ j
theorem RunsAt.nil (B : Nat) (w : World) : RunsAt B w (.slice none 0 0) [] := ⟨World.ownsRow_nil _ _ _ _, fun j h => by cases h⟩
theorem RunsAt.sees {B : Nat} {w : World} {v : Value} {Y : List (Nat × Nat)} (h : RunsAt B w v Y) : Huf.Sees w 3 v Y.length (cellsR Y) := by
  refine ⟨cellsR_length Y, cellsR_one Y, ?_⟩
  rcases h.own.2 with ⟨h1, h2⟩ | ⟨g, cap, cur, h1, _⟩
  · exact .inl ⟨h1, h2⟩
  · have h1 : v = .slice (some ⟨g, 0, none⟩) Y.length cap := h1
    subst h1
    refine .inr ⟨g, 0, cap, rfl, (h.own.lt g rfl).2, fun j u hj => ?_⟩
    have := h.own.cells (g := g) rfl j u hj
    rwa [Go.WideShapes.add_plain] at this
theorem RunsAt.below {B : Nat} {w w' : World} {v : Value} {Y : List (Nat × Nat)} (h : RunsAt B w v Y) (k : Below w.heap.size w w') : RunsAt B w' v Y := by
  refine ⟨⟨h.own.1, ?_⟩, h.new⟩
  rcases h.own.2 with h1 | ⟨g, cap, cur, h1, h2, hg, h3⟩
  · exact .inl h1
  · refine .inr ⟨g, cap, cur, h1, h2, ?_, h3⟩
    rw [k.block g (Array.getElem?_eq_some_iff.1 hg).1]; exact hg
theorem RunsAt.grown {B : Nat} {w0 wr w' : World} {v v' : Value} {Y Z : List (Nat × Nat)} (h : RunsAt B wr v Y) (hb : Below B w0 wr) (hB : B ≤ w0.heap.size) (ho : w'.ownsRow 0 83 3 v' (Y.length + Z.length) (cellsR Y ++ cellsR Z)) (hg : wr.grownBy w' v.ownBlock) (hn : ∀ k, v'.ownBlock = some k → v.ownBlock = some k ∨ wr.heap.size ≤ k) :
    RunsAt B w' v' (Y ++ Z) ∧ Below B w0 w' := by
  refine ⟨⟨by rw [List.length_append, cellsR_append]; exact ho, fun j hj => ?_⟩, hb.grown hg (Nat.le_trans hB hb.size) h.new⟩
  rcases hn j hj with h1 | h1
  · exact h.new j h1
  · have := hb.size; omega
/-- A literal row of one run. -/
theorem run_lit (w : World) (y : Nat × Nat) (T : TypeId) : ∀ j u, (cellsR [y])[j]? = some u → (w.alloc (.cells #[.int .i64 (y.1 : Nat), .int .i64 (y.2 : Nat), .int .i64 (xb y.1 : Nat)] T)).cell? ((⟨w.heap.size, 0, none⟩ : Addr).add j) = some u := by
  intro j u hj
  rw [Go.WideShapes.add_plain, Nat.zero_add, cell_of_row _ _ j _ _ _ (heap_alloc_new _ _)]
  match j, hj with
  | 0, h => exact h
  | 1, h => exact h
  | 2, h => exact h

/-- Spans in a block. -/
def SpansAt (w : World) (g : Nat) (S : List Nat) : Prop := g < w.heap.size ∧ ∀ i (h : i < S.length), w.cell? ⟨g, i * 3, none⟩ = some (.int .i64 (S[i] : Nat)) ∧ w.cell? ⟨g, i * 3 + 1, none⟩ = some (.int .i64 (lst S[i] : Nat)) ∧ w.cell? ⟨g, i * 3 + 2, none⟩ = some (.int .i64 (xb S[i] : Nat))
theorem SpansAt.block {w w' : World} {g : Nat} {S : List Nat} (h : SpansAt w g S) (hs : g < w'.heap.size) (k : w'.heap[g]? = w.heap[g]?) : SpansAt w' g S :=
  ⟨hs, fun i hi => ⟨(World.cell?_of_block (w := w) (w' := w') (a := ⟨g, i * 3, none⟩) k).trans (h.2 i hi).1, (World.cell?_of_block (w := w) (w' := w') (a := ⟨g, i * 3 + 1, none⟩) k).trans (h.2 i hi).2.1, (World.cell?_of_block (w := w) (w' := w') (a := ⟨g, i * 3 + 2, none⟩) k).trans (h.2 i hi).2.2⟩⟩

set_option maxHeartbeats 4000000 in
theorem several_any (g : Nat) (S : List Nat) (q cap x n : Nat) (w : World) (hq : S.length = q) (hS : SpansAt w g S) (hok : ∀ s ∈ S, okS x s) (hx : x < 16) (hn : n ≤ 1000) (hq2 : q ≤ 100) :
    Calls Tryz.prog 79 #[.slice (some ⟨g, 0, none⟩) q cap, .int .i64 x, .int .i64 n] w fun e w' => ∃ v Y, e = .returned v ∧ Sev x Y n ∧ RunsAt w.heap.size w' v Y ∧ Below w.heap.size w w' ∧ SevR x S n Y := by
  obtain ⟨i0, hi, hz0, hz1, hz2⟩ := Huf.info_parts info_run
  have HS := Lib.hid hS
  have HOK := Lib.hid hok
  have HQ := Lib.hid hq
  clear hS hok
  go_enter Tryz.func79, Tryz.ntmps79
  go_wp2_with fail
  go_loopw [2, 7, 13] (fun sn u i wr => ∃ (k m : Nat) (Y : List (Nat × Nat)), k ≤ q ∧ m ≤ n ∧ i = .int .i64 k ∧ sn = .int .i64 m ∧ Sev x Y (n - m) ∧ RunsAt w.heap.size wr u Y ∧ Below w.heap.size w wr ∧ SevK x S n k m Y) (fun _ _ i _ => q - (intOf i).toNat)
  case atStart => exact ⟨0, n, [], Nat.zero_le _, Nat.le_refl _, rfl, rfl, by rw [Nat.sub_self]; exact Sev.nil x, RunsAt.nil _ _, Below.refl _ _, fun Z h => h⟩
  case round =>
    obtain ⟨k, m, Y, hk, hm, rfl, rfl, hY, hR, hb, hK⟩ := hrel
    have HKK := Lib.hid hK
    clear hK
    by_cases hlt : k < q
    · have hlt' : (k : Int) < q := by omega
      have hkq : k < S.length := by omega
      obtain ⟨hg, hc⟩ := HS.out
      obtain ⟨q1, q2, q3⟩ := hc k hkq
      have c1 := (hb.cell (p := ⟨g, k * 3, none⟩) hg).trans q1
      have c2 := (hb.cell (p := ⟨g, k * 3 + 1, none⟩) hg).trans q2
      have c3 := (hb.cell (p := ⟨g, k * 3 + 2, none⟩) hg).trans q3
      have hs := HOK.out S[k] (List.getElem_mem hkq)
      have HDR := Lib.hid (List.drop_eq_getElem_cons hkq)
      generalize S[k] = s at *
      obtain ⟨L, hL⟩ : ∃ L, lst s = L := ⟨_, rfl⟩
      obtain ⟨E, hE⟩ : ∃ E, xb s = E := ⟨_, rfl⟩
      have hL2 := hs.lst_pos
      have hE2 : E ≤ 7 := by rw [← hE]; unfold xb; split <;> (try split) <;> (try split) <;> omega
      rw [hL] at c2 hL2
      rw [hE] at c3
      have HSL := Lib.hid (And.intro hs (And.intro hL hE))
      have hX := heap_alloc_new wr (.cells #[.int .i64 s, .int .i64 L, .int .i64 E] 122)
      have bX : Below wr.heap.size wr (wr.alloc (.cells #[.int .i64 s, .int .i64 L, .int .i64 E] 122)) := (Below.refl _ _).alloc (Nat.le_refl _) _
      have oX : u7.ownBlock ≠ some wr.heap.size := fun e => by have := (hR.own.lt _ e).2; omega
      have sX : wr.heap.size < (wr.alloc (.cells #[.int .i64 s, .int .i64 L, .int .i64 E] 122)).heap.size := by simp
      generalize hW5 : wr.alloc (.cells #[.int .i64 s, .int .i64 L, .int .i64 E] 122) = w5 at *
      have R5 := Lib.hid (hR.below bX)
      have B5 := Lib.hid (hb.trans (bX.mono hb.size))
      generalize hP : wr.heap.size = P at *
      have HX := Lib.hid (And.intro hX (And.intro oX sX))
      have HY := Lib.hid hY
      clear hY hR hb hX bX oX sX q1 q2 q3 hc hg hs hL hE
      go_wp2_with fail
      go_loopw [2, 7] (fun sn u wr => ∃ (m : Nat) (Y : List (Nat × Nat)), m ≤ n ∧ sn = .int .i64 m ∧ Sev x Y (n - m) ∧ RunsAt w.heap.size wr u Y ∧ Below w.heap.size w wr ∧ wr.heap[P]? = some (.cells #[.int .i64 s, .int .i64 L, .int .i64 E] 122 (0, 0)) ∧ u.ownBlock ≠ some P ∧ P < wr.heap.size ∧ SevK x S n k m Y) (fun sn _ _ => (intOf sn).toNat)
      case atStart => exact ⟨m, Y, hm, rfl, HY.out, R5.out, B5.out, HX.out.1, HX.out.2.1, HX.out.2.2, HKK.out⟩
      case round =>
        clear c1 c2 c3 hW5 hP HX HY R5 B5
        obtain ⟨m, Y, hm, rfl, hY, hR, hb, hp, ho, hps, hK⟩ := hrel
        clear HKK
        have HKK := Lib.hid hK
        clear hK
        have d0 : wr.cell? ⟨P, 0, none⟩ = some (.int .i64 s) := by rw [cell_of_row _ _ 0 _ _ _ hp]; rfl
        have d1 : wr.cell? ⟨P, 1, none⟩ = some (.int .i64 L) := by rw [cell_of_row _ _ 1 _ _ _ hp]; rfl
        have d2 : wr.cell? ⟨P, 2, none⟩ = some (.int .i64 E) := by rw [cell_of_row _ _ 2 _ _ _ hp]; rfl
        have hml' : (L : Int) ≤ m ∨ (m : Int) < L := by omega
        by_cases hml : L ≤ m
        · obtain ⟨d, hd⟩ : ∃ d, m - L = d := ⟨_, rfl⟩
          obtain ⟨T, hT⟩ : ∃ T, 2 ^ E = T := ⟨_, rfl⟩
          have hT2 : 1 ≤ T ∧ T ≤ 128 := by
            rw [← hT]
            exact ⟨Nat.one_le_two_pow, Nat.le_trans (Nat.pow_le_pow_right (by decide) hE2) (by decide)⟩
          obtain ⟨M, hM⟩ : ∃ M, T - 1 = M := ⟨_, rfl⟩
          obtain ⟨e, he⟩ : ∃ e, min d M = e := ⟨_, rfl⟩
          have hd1 : (m : Int) - L = d := by omega
          have hp1 : (2 : Int) ^ E = (T : Int) := by rw [← hT]; exact_mod_cast rfl
          have hp2 : IntKind.i64.wrap (T : Int) = (T : Int) := IntWalk.i64_in _ (by omega)
          have hM1 : (T : Int) - 1 = M := by omega
          have he1 : min (d : Int) (M : Int) = e := by omega
          have he2 : (if (M : Int) < (d : Int) then (M : Int) else (d : Int)) = e := by split <;> omega
          have he3 : (if M < d then (M : Int) else (d : Int)) = e := by split <;> omega
          have hem : e ≤ d ∧ e ≤ M := by omega
          have hge : decide ((L : Int) ≤ m) = true := by simp; omega
          have hge2 : decide (L ≤ m) = true := by simp; omega
          have FE : Hid (Sev x (Y ++ [(s, e)]) (n - (d - e)) ∧ d - e ≤ n ∧ d - e < m) := by
            obtain ⟨h1, h2, h3⟩ := HSL.out
            refine ⟨?_, by omega, by omega⟩
            have := (show Sev x Y (n - m) from hY).span h1 (e := e) (by rw [h3, hT]; omega)
            rw [h2] at this
            rw [show n - (d - e) = n - m + (L + e) by omega]
            exact this
          obtain ⟨r, hr⟩ : ∃ r, L + e = r := ⟨_, rfl⟩
          obtain ⟨m', hm'⟩ : ∃ m', d - e = m' := ⟨_, rfl⟩
          have hr1 : (L : Int) + e = (r : Int) := by omega
          have hr2 : (m : Int) - (r : Int) = (m' : Int) := by omega
          have hr3 : r ≤ 1000 := by omega
          have NK : Hid (SevK x S n k m' (Y ++ [(s, e)])) := Lib.hid fun Z hZ => by
            obtain ⟨h1, h2, h3⟩ := HSL.out
            rw [List.append_assoc]
            refine HKK.out _ ?_
            rw [HDR.out] at hZ ⊢
            refine .more s _ m e Z (by omega) (by rw [h2, h3, hT]; omega) ?_
            rw [h2, show m - (L + e) = m' by omega]
            exact hZ
          rw [hm'] at FE
          have HXB := Lib.hid HSL.out.2.2
          have hR1 : RunsAt w.heap.size wr.drew u7 Y := ⟨hR.own, hR.new⟩
          have hb1 : Below w.heap.size w wr.drew := hb.drew
          have hp1' : wr.drew.heap[P]? = some (.cells #[.int .i64 s, .int .i64 L, .int .i64 E] 122 (0, 0)) := hp
          have hps1 : P < wr.drew.heap.size := hps
          obtain ⟨W, hW⟩ : ∃ W, wr.drew = W := ⟨_, rfl⟩
          rw [hW] at hR1 hb1 hp1' hps1
          have HO : Hid (∀ o, (W.alloc o).ownsRow 0 83 3 u7 Y.length (cellsR Y)) := Lib.hid fun o => hR1.own.alloc o
          have e0 : W.cell? ⟨P, 0, none⟩ = some (.int .i64 s) := by rw [cell_of_row _ _ 0 _ _ _ hp1']; rfl
          have e1 : W.cell? ⟨P, 1, none⟩ = some (.int .i64 L) := by rw [cell_of_row _ _ 1 _ _ _ hp1']; rfl
          have e2 : W.cell? ⟨P, 2, none⟩ = some (.int .i64 E) := by rw [cell_of_row _ _ 2 _ _ _ hp1']; rfl
          have NEXT : Hid (∀ y wr' v', (W.alloc (.cells #[.int .i64 (y.1 : Nat), .int .i64 (y.2 : Nat), .int .i64 (xb y.1 : Nat)] 83)).grownBy wr' u7.ownBlock → Lz.Near (W.alloc (.cells #[.int .i64 (y.1 : Nat), .int .i64 (y.2 : Nat), .int .i64 (xb y.1 : Nat)] 83)) u7 v' → wr'.ownsRow 0 83 3 v' (Y.length + 1) (cellsR Y ++ cellsR [y]) →
              RunsAt w.heap.size wr' v' (Y ++ [y]) ∧ Below w.heap.size w wr' ∧ wr'.heap[P]? = some (.cells #[.int .i64 s, .int .i64 L, .int .i64 E] 122 (0, 0)) ∧ v'.ownBlock ≠ some P ∧ P < wr'.heap.size) := by
            intro y wr' v' g1 n1 o1
            have bb := (Below.refl W.heap.size W).alloc (Nat.le_refl _) (.cells #[.int .i64 (y.1 : Nat), .int .i64 (y.2 : Nat), .int .i64 (xb y.1 : Nat)] 83)
            obtain ⟨h1, h2⟩ := (hR1.below bb).grown (Z := [y]) (hb1.trans (bb.mono hb1.size)) (Nat.le_refl _) o1 g1 n1
            refine ⟨h1, h2, ?_, fun e => ?_, Nat.lt_of_lt_of_le (Nat.lt_of_lt_of_le hps1 bb.size) g1.size⟩
            · rw [g1.block P (Nat.lt_of_lt_of_le hps1 bb.size) (fun e => ho e.symm), bb.block P hps1]; exact hp1'
            · rcases n1 P e with h | h
              · exact ho h
              · have := bb.size; omega
          have N2 := Lib.hid (NEXT.out (s, e))
          have LIT := Lib.hid (run_lit W (s, e) 83)
          simp only [HXB.out] at N2 LIT
          have hyl : Y.length ≤ 1000 := by have := hY.2; omega
          generalize hYL : Y.length = yl at *
          have HW := Lib.hid hW
          clear hY hR hb hp ho hps NEXT hd hT hM he hr hm' hml' hW hR1 hb1 hp1' hps1 HXB
          go_wp2_with fail
          go_region
          rw [HW.out]
          clear d0 d1 d2 HW
          go_wp2_with (at_builtin; refine Lz.wpList_append_near _ rfl _ _ 78 rfl 83 i0 (.agg #[.int .i64 0, .int .i64 0, .int .i64 0]) 3 24 Tryz.underlying78 hi hz0 hz1 hz2 rfl (by decide) u7 yl (cellsR Y) rfl (HO.out _) ⟨W.heap.size, 0, none⟩ 1 1 (cellsR [(s, e)]) rfl rfl LIT.out (cellsR_one _) (by unfold maxLen; omega) (by omega) ?_; intro v6 w6 o6 g6 n6; have H6 := Lib.hid (N2.out w6 v6 g6 n6 o6); have f0 : w6.cell? ⟨P, 1, none⟩ = some (.int .i64 L) := (cell_of_row _ _ 1 _ _ _ H6.out.2.2.1).trans rfl; clear o6 g6 n6 e0 e1 e2 LIT N2 HO)
          refine ⟨⟨m', Y ++ [(s, e)], FE.out.2.1, rfl, FE.out.1, H6.out.1, H6.out.2.1, H6.out.2.2.1, H6.out.2.2.2.1, H6.out.2.2.2.2, NK.out⟩, ?_⟩
          have := FE.out.2.2
          simp [intOf]; omega
        · have hge : decide ((L : Int) ≤ m) = false := by simp; omega
          have hge2 : decide (L ≤ m) = false := by simp; omega
          have NK : Hid (SevK x S n (k + 1) m Y) := Lib.hid fun Z hZ => by
            obtain ⟨h1, h2, h3⟩ := HSL.out
            refine HKK.out _ ?_
            rw [HDR.out]
            exact .skip s _ m Z (by omega) hZ
          have HF := Lib.hid (And.intro hY (And.intro hR hb))
          clear hY hR hb hp ho hps hml'
          go_wp2_with fail
          refine ⟨⟨k + 1, m, Y, by omega, hm, by go_num, rfl, HF.out.1, HF.out.2.1, HF.out.2.2, NK.out⟩, ?_⟩
          simp [intOf]; omega
    · obtain rfl : k = q := by omega
      have hX := heap_alloc_new wr (.cells #[.int .i64 x, .int .i64 0, .int .i64 0] 83)
      have bX : Below wr.heap.size wr (wr.alloc (.cells #[.int .i64 x, .int .i64 0, .int .i64 0] 83)) := (Below.refl _ _).alloc (Nat.le_refl _) _
      have R5 := Lib.hid (hR.below bX)
      have B5 := Lib.hid (hb.trans (bX.mono hb.size))
      have CR := Lib.hid (repR_any wr.heap.size x m _ hx hX (by omega))
      have HSR : Hid (SevR x S n (Y ++ List.replicate m (x, 0))) := Lib.hid (HKK.out _ (by rw [List.drop_of_length_le (by have := HQ.out; omega)]; exact .done m))
      have HY := Lib.hid hY
      have hyl : Y.length ≤ 1000 := by have := hY.2; omega
      clear hY hR hb hX bX
      go_wp2_with fail
      refine CR.out.mono ?_
      rintro r w6 ⟨rfl, hX6, b6⟩
      have S6 : Huf.Sees w6 3 (.slice (some ⟨(wr.alloc (.cells #[.int .i64 x, .int .i64 0, .int .i64 0] 83)).heap.size, 0, none⟩) m m) m (cellsR (List.replicate m (x, 0))) := by
        refine ⟨by rw [cellsR_length, List.length_replicate], cellsR_one _, .inr ⟨_, 0, m, rfl, (Array.getElem?_eq_some_iff.1 hX6).1, fun j u hj => ?_⟩⟩
        rw [Nat.zero_add, cell_of_row _ _ j _ _ _ hX6, List.getElem?_toArray]; exact hj
      have R6 := Lib.hid (R5.out.below b6)
      have B6 := Lib.hid (B5.out.trans (b6.mono B5.out.size))
      generalize (wr.alloc (.cells #[.int .i64 x, .int .i64 0, .int .i64 0] 83)) = w5 at *
      have HS6 := Lib.hid S6
      obtain ⟨Z, hZ⟩ : ∃ Z, List.replicate m (x, 0) = Z := ⟨_, rfl⟩
      have HZ : Hid (Sev x (Y ++ Z) n ∧ Z.length = m) := Lib.hid ⟨by have := HY.out.plain hx m; rw [hZ] at this; rw [show n - m + m = n by omega] at this; exact this, by rw [← hZ, List.length_replicate]⟩
      rw [hZ] at HS6 HSR
      have NEXT : Hid (∀ wr' v', w6.grownBy wr' u7.ownBlock → Bit.Near w6 u7 v' → wr'.ownsRow 0 83 3 v' (Y.length + m) (cellsR Y ++ cellsR Z) → RunsAt w.heap.size wr' v' (Y ++ Z) ∧ Below w.heap.size w wr') := by
        intro wr' v' g1 n1 o1
        exact R6.out.grown (Z := Z) B6.out (Nat.le_refl _) (by rw [HZ.out.2]; exact o1) g1 n1
      have HO := Lib.hid R6.out.own
      generalize hYL : Y.length = yl at *
      clear S6 hX6 b6 R5 B5 R6 B6 CR hZ
      go_wp2_with (at_builtin; refine Huf.wpl_append_sees _ rfl _ _ 78 rfl 83 i0 (.agg #[.int .i64 0, .int .i64 0, .int .i64 0]) 3 24 Tryz.underlying78 hi hz0 hz1 hz2 rfl (by decide) u7 yl (cellsR Y) rfl HO.out _ m (cellsR Z) rfl HS6.out (by unfold maxLen; omega) (by omega) ?_; intro v7 w7 o7 g7 n7; have H7 := Lib.hid (NEXT.out w7 v7 g7 n7 o7); clear o7 g7 n7)
      go_ret
      exact ⟨_, _, rfl, HZ.out.1, H7.out.1, H7.out.2, HSR.out⟩
end Go.Proofs.YtkpieakgpnnonaaGreat.Dfl
