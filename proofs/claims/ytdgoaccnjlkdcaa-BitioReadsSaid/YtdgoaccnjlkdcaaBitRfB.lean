/-
  Contract of the reference's reader of layer 2: Bytes.
-/
import Derived.Test.YtdgoaccnjlkdcaaBitRfR
namespace Go.Proofs.Ytdgoaccnjlkdcaa.Bit
open Go.ChangeShapes Go.WideShapes Go.ChangeAt Go.RowKit
set_option linter.unusedVariables false

theorem grown_below {w w1 w2 : World} {b : Nat} (h : w.grownBy w1 (some b)) (k : Below w1.heap.size w1 w2) : w.grownBy w2 (some b) :=
  ⟨k.os.trans h.os, k.tape.trans h.tape, k.output.trans h.output, Nat.le_trans h.size k.size, fun i hi hr => (k.block i (Nat.lt_of_lt_of_le hi h.size)).trans (h.block i hi hr)⟩

set_option maxHeartbeats 2000000 in
theorem rfbytes_bad (b : Nat) (v : Value) (t : ByteArray) (i : Nat) (e : Bool) (n : Int) (w : World) (h : RfAt w b v (tb t) i e) (hi : i ≤ (tb t).length) (ht : t.size ≤ 100000) (hok : yOk (tb t) i e n = false) :
    Calls Try.prog 28 #[.pointer (some ⟨b, 0, none⟩), .int .i64 n] w fun r w' => r = .returned (.string ⟨#[]⟩) ∧ RfAt w' b v (tb t) i true ∧ w.grownBy w' (some b) := by
  have hlen := tb_length t
  obtain ⟨k, hk⟩ : ∃ k : Nat, (k : Int) = max n 0 := ⟨(max n 0).toNat, by omega⟩
  have hmx : (if n < 0 then (0 : Int) else n) = k := by rw [hk]; split <;> omega
  obtain ⟨a, cap, rfl, _⟩ := h.row.shape
  obtain ⟨q, hq⟩ : ∃ q, (tb t).length = q := ⟨_, rfl⟩
  have H := Lib.hid h
  obtain ⟨c0, c1, c2, f1, f2⟩ := h.cells
  rw [hq] at c0 hi hlen
  have HQ := Lib.hid hq
  clear h
  cases e with
  | true =>
    have c3 : w.cell? ⟨b, 2, none⟩ = some (.int .i64 2) := c2
    clear c2 hok hq hk hlen
    go_enter Try.func28, Try.ntmps28
    go_wp2_with fail
    go_quiet (fail)
    have H2 := Lib.hid (H.out.draws nq)
    have G2 := Lib.hid (rgrown_drewN (World.grownBy.refl w (some b)) nq)
    obtain ⟨c4, c5, c6, f4, f5⟩ := H2.out.cells
    have c7 : (w.drewN nq).cell? ⟨b, 2, none⟩ = some (.int .i64 2) := c6
    clear c0 c1 c3 f1 f2 c6
    generalize w.drewN nq = w2 at *
    go_wp2_with fail
    go_ret
    exact ⟨rfl, H2.out, G2.out⟩
  | false =>
    have c3 : w.cell? ⟨b, 2, none⟩ = some (.int .i64 0) := c2
    obtain ⟨G, hG, hG7⟩ : ∃ G, gap i = G ∧ G ≤ 7 := ⟨_, rfl, by unfold gap; omega⟩
    obtain ⟨R, hR⟩ : ∃ R, (q - i) / 8 = R := ⟨_, rfl⟩
    have hqr : q - i = 8 * R + G := by rw [← hR, ← hG]; unfold gap; omega
    have hm : R < k := by
      unfold yOk at hok
      rw [hq, hR, ← hk] at hok
      simp at hok
      omega
    have k1 : IntKind.i64.wrap ((q : Int) - i) = ((q - i : Nat) : Int) := by rw [show (q : Int) - i = ((q - i : Nat) : Int) by omega]; exact IntWalk.i64_in _ (by omega)
    have k2 : IntKind.i64.wrap (((q - i : Nat) : Int) - G) = ((8 * R : Nat) : Int) := by rw [show ((q - i : Nat) : Int) - G = ((8 * R : Nat) : Int) by omega]; exact IntWalk.i64_in _ (by omega)
    obtain ⟨R8, hR8⟩ : ∃ R8, 8 * R = R8 := ⟨_, rfl⟩
    rw [hR8] at k2
    have k3 : (R8 : Int).tdiv 8 = R := by rw [Int.tdiv_eq_ediv_of_nonneg (by omega)]; omega
    have k3b : IntKind.i64.wrap (R : Int) = R := IntWalk.i64_in _ (by omega)
    have k3c : (R8 : Int) / 8 = R := by omega
    have k4 : decide ((R : Int) < (k : Int)) = true := by simp; omega
    have gc : Hid (∀ W, RfAt W b (.slice a (tb t).length cap) (tb t) i false → Calls Try.prog 39 #[.pointer (some ⟨b, 0, none⟩)] W fun r w' => r = .returned (.int .i64 G) ∧ W = w') := fun W hW => by
      have := gap_any b _ _ i false W hW (by omega)
      rw [hG] at this
      exact this
    have kk : (R : Int) < k := by omega
    clear c2 hok hq hk hqr hR hG hR8 hm hlen
    go_enter Try.func28, Try.ntmps28
    go_wp2_with fail
    go_quiet ((go_at_call 39; exact quiet_w (gc.out _ (H.out.draws _))))
    have H2 := Lib.hid (H.out.draws nq)
    have G2 := Lib.hid (rgrown_drewN (World.grownBy.refl w (some b)) nq)
    obtain ⟨c4, c5, c6, f4, f5⟩ := H2.out.cells
    clear c0 c1 c3 f1 f2
    generalize w.drewN nq = w2 at *
    go_wp2_with fail
    go_ret
    exact ⟨rfl, H2.out.set2, rgrown_trans G2.out (rgrown_set _ _ _ _)⟩

/-- A cut of a row of bits, whatever its address. -/
theorem run_cut (W : World) (a : Option Addr) (q cap F k : Nat) (h : F + 8 * k ≤ cap) :
    (Instr.slice 29 (.slice a q cap) (some (.int .i64 (F : Int))) (some (.int .i64 ((F : Int) + 8 * k))) none).run Try.prog W = .ok (.slice (if cap = F then a else a.map (·.add F)) (8 * k) (cap - F)) W := by
  have h0 : (0 : Int) ≤ F := by omega
  have h1 : (F : Int) + 8 * k ≤ cap := by omega
  have h2 : (F : Int) ≤ (F : Int) + 8 * k := by omega
  have e1 : ((F : Int) + 8 * k).toNat = F + 8 * k := by omega
  have h3 : 0 ≤ (F : Int) + 8 * k := by omega
  have h5 : (F : Int) ≤ ((F + 8 * k : Nat) : Int) := by omega
  have hb := run_sliceBound (P := Try.prog) (w := W) .i64 (F : Int) (F + 8 * k) .sliceB h0 h5
  have e2 : F + 8 * k - F = 8 * k := by omega
  simp [Instr.slice, run_underlying Try.underlying29, Instr.sliceBounds, run_sliceBound, h1, h3, e1, hb, e2]

theorem sees_cut {W : World} {a : Option Addr} {cap F k : Nat} {T : List Bool} (h : BlAt W (.slice a T.length cap) T) (hF : F + 8 * k ≤ T.length) : SeesV W (.slice (if cap = F then a else a.map (·.add F)) (8 * k) (cap - F)) ((T.drop F).take (8 * k)) := by
  have hyl : ((T.drop F).take (8 * k)).length = 8 * k := by rw [List.length_take, List.length_drop]; omega
  rcases h.2 with ⟨e, h1⟩ | ⟨g, cp, cur, e, _, _, h2, h3, _⟩
  · simp only [Value.slice.injEq] at e
    obtain ⟨rfl, _, rfl⟩ := e
    obtain rfl : F = 0 := by omega
    obtain rfl : k = 0 := by omega
    left
    simp
  · simp only [Value.slice.injEq] at e
    obtain ⟨rfl, _, rfl⟩ := e
    right
    by_cases hc : cap = F
    · rw [if_pos hc]
      exact ⟨g, 0, cap - F, by rw [hyl], fun j hj => by omega⟩
    · rw [if_neg hc]
      refine ⟨g, F, cap - F, ?_, fun j hj => ?_⟩
      · rw [hyl, Option.map_some, Go.WideShapes.add_plain, Nat.zero_add]
      · exact SeesV.cut h F (8 * k) hF j (by omega)

set_option maxHeartbeats 4000000 in
theorem rfbytes_ok (b : Nat) (v : Value) (t : ByteArray) (i : Nat) (n : Int) (w : World) (h : RfAt w b v (tb t) i false) (hi : i ≤ (tb t).length) (ht : t.size ≤ 100000) (hok : yOk (tb t) i false n = true) :
    Calls Try.prog 28 #[.pointer (some ⟨b, 0, none⟩), .int .i64 n] w fun r w' => r = .returned (.string (yS t i false n)) ∧ RfAt w' b v (tb t) (yI (tb t) i false n) false ∧ w.grownBy w' (some b) := by
  have hlen := tb_length t
  obtain ⟨k, hk, hk0⟩ : ∃ k : Nat, (k : Int) = max n 0 ∧ n.toNat = k := ⟨n.toNat, by omega, rfl⟩
  have hmx : (if n < 0 then (0 : Int) else n) = k := by rw [hk]; split <;> omega
  obtain ⟨f, hf⟩ : ∃ f, (i + 7) / 8 = f := ⟨_, rfl⟩
  have s1 : yS t i false n = t.extract f (f + k) := by unfold yS; rw [if_pos hok, hk0, hf]
  have s2 : yI (tb t) i false n = 8 * f + 8 * k := by unfold yI; rw [if_pos hok, hk0, hf]; omega
  have hpc := pack_cut t f k
  obtain ⟨s, hs⟩ : ∃ s, t.extract f (f + k) = s := ⟨_, rfl⟩
  rw [s1, s2, hs]
  rw [hs] at hpc
  obtain ⟨G, hG, hG7⟩ : ∃ G, gap i = G ∧ G ≤ 7 := ⟨_, rfl, by unfold gap; omega⟩
  obtain ⟨q, hq⟩ : ∃ q, (tb t).length = q := ⟨_, rfl⟩
  obtain ⟨R, hR⟩ : ∃ R, (q - i) / 8 = R := ⟨_, rfl⟩
  have hiG : i + G = 8 * f := by rw [← hG, ← hf]; unfold gap; omega
  have hqr : q - i = 8 * R + G := by rw [← hR, ← hG]; unfold gap; omega
  have hm : k ≤ R := by
    unfold yOk at hok
    rw [hq, hR, ← hk] at hok
    simp at hok
    omega
  obtain ⟨F, hF⟩ : ∃ F, 8 * f = F := ⟨_, rfl⟩
  rw [hF] at hiG hpc ⊢
  have hFk : F + 8 * k ≤ q := by omega
  obtain ⟨y, hy⟩ : ∃ y, ((tb t).drop F).take (8 * k) = y := ⟨_, rfl⟩
  have hyl : y.length = 8 * k := by rw [← hy, List.length_take, List.length_drop]; omega
  rw [hy] at hpc
  obtain ⟨c0, c1, c2, f1, f2⟩ := h.cells
  have c3 : w.cell? ⟨b, 2, none⟩ = some (.int .i64 0) := c2
  obtain ⟨a, cap, rfl, hsh⟩ := h.row.shape
  clear hsh
  have hcap : (a = none ∧ q = 0 ∧ cap = 0) ∨ (∃ g, a = some ⟨g, 0, none⟩ ∧ q ≤ cap ∧ cap ≤ maxLen) := by
    rcases h.row.2 with ⟨e, h1⟩ | ⟨g, cp, cur, e, _, _, h2, h3, _⟩
    · simp only [Value.slice.injEq] at e
      exact .inl ⟨e.1, by omega, e.2.2⟩
    · simp only [Value.slice.injEq] at e
      obtain ⟨rfl, _, rfl⟩ := e
      exact .inr ⟨g, rfl, by omega, h3⟩
  have HCAP := Lib.hid hcap
  clear hcap
  have H := Lib.hid h
  rw [hq] at c0 hi
  have HQ := Lib.hid hq
  have hq6 : q ≤ 800000 := by omega
  have k1 : IntKind.i64.wrap ((q : Int) - i) = ((q - i : Nat) : Int) := by rw [show (q : Int) - i = ((q - i : Nat) : Int) by omega]; exact IntWalk.i64_in _ (by omega)
  have k2 : IntKind.i64.wrap (((q - i : Nat) : Int) - G) = ((8 * R : Nat) : Int) := by rw [show ((q - i : Nat) : Int) - G = ((8 * R : Nat) : Int) by omega]; exact IntWalk.i64_in _ (by omega)
  obtain ⟨R8, hR8⟩ : ∃ R8, 8 * R = R8 := ⟨_, rfl⟩
  rw [hR8] at k2
  have k3 : (R8 : Int).tdiv 8 = R := by rw [Int.tdiv_eq_ediv_of_nonneg (by omega)]; omega
  have k3b : IntKind.i64.wrap (R : Int) = R := IntWalk.i64_in _ (by omega)
  have k3c : (R8 : Int) / 8 = R := by omega
  have k4 : decide ((R : Int) < (k : Int)) = false := by simp; omega
  have k4n : decide (R < k) = false := by simp; omega
  have gc : Hid (∀ W, RfAt W b (.slice a (tb t).length cap) (tb t) i false → Calls Try.prog 39 #[.pointer (some ⟨b, 0, none⟩)] W fun r w' => r = .returned (.int .i64 G) ∧ W = w') := fun W hW => by
    have := gap_any b _ _ i false W hW (by omega)
    rw [hG] at this
    exact this
  have k5 : IntKind.i64.wrap ((i : Int) + G) = F := by rw [show (i : Int) + G = F by omega]; exact IntWalk.i64_in _ (by omega)
  have PC := Lib.hid hpc
  have HY := Lib.hid (And.intro hy hyl)
  clear c2 hok hq hk hqr hR hG hR8 hm hlen hk0 hf hs hpc hiG hF hy hyl h s1 s2
  go_enter Try.func28, Try.ntmps28
  go_wp2_with fail
  go_quiet ((go_at_call 39; exact quiet_w (gc.out _ (H.out.draws _))))
  have H2 := Lib.hid (H.out.draws nq)
  have G2 := Lib.hid (rgrown_drewN (World.grownBy.refl w (some b)) nq)
  obtain ⟨c4, c5, c6, f4, f5⟩ := H2.out.cells
  have c7 : (w.drewN nq).cell? ⟨b, 2, none⟩ = some (.int .i64 0) := c6
  clear c0 c1 c3 f1 f2 c6 k1 k2 k3 k3b k3c
  generalize w.drewN nq = w2 at *
  go_wp2_with fail
  go_region_with (go_at_call 39; refine (gc.out w2.drew H2.out.drew).mono ?_; rintro r w' ⟨rfl, rfl⟩)
  all_goals
    have h3 := (H2.out.set1 F).drew
    have g3 := rgrown_drewN (rgrown_trans G2.out (rgrown_set w2 b 1 (.int .i64 (F : Int)))) 1
    have g3' : w.grownBy (w2.setCell ⟨b, 1, none⟩ (.int .i64 (F : Int))).drew (some b) := g3
    obtain ⟨c8, c9, c10, f6, f7⟩ := h3.cells
    rw [HQ.out] at c8
    have H3 := Lib.hid h3
    have G3 := Lib.hid g3'
    clear h3 g3 g3' c4 c5 c7 f4 f5 c10 k5
    generalize (w2.setCell ⟨b, 1, none⟩ (.int .i64 (F : Int))).drew = w3 at *
    have h4 := H3.out.set1 (F + 8 * k)
    have g4 := rgrown_trans G3.out (rgrown_set w3 b 1 (.int .i64 ((F + 8 * k : Nat) : Int)))
    obtain ⟨d0, d1, d2, _, _⟩ := h4.cells
    rw [show ((F + 8 * k : Nat) : Int) = (F : Int) + 8 * k by omega] at h4 g4 d0 d1 d2
    rw [HQ.out] at d0
    have H4 := Lib.hid h4
    have G4 := Lib.hid g4
    have q1 : (F : Int) + 8 * k ≤ 800000 := by omega
    have k6 : IntKind.i64.wrap (8 * (k : Int)) = 8 * k := IntWalk.i64_in _ (by omega)
    have k7 : IntKind.i64.wrap ((F : Int) + 8 * k - 8 * k) = F := by rw [show (F : Int) + 8 * k - 8 * k = F by omega]; exact IntWalk.i64_in _ (by omega)
    have k8 : IntKind.i64.wrap (F : Int) = F := IntWalk.i64_in _ (by omega)
    clear h4 g4
    go_wp2_with fail
    clear c8 c9 f6 f7 H3 G3
    generalize w3.setCell ⟨b, 1, none⟩ (.int .i64 ((F : Int) + 8 * k)) = w4 at *
    obtain ⟨X, hX⟩ : ∃ X, (if cap = F then a else a.map (·.add F)) = X := ⟨_, rfl⟩
    have hcap2 : F + 8 * k ≤ cap := by
      rcases HCAP.out with ⟨_, h1, _⟩ | ⟨_, _, h1, _⟩ <;> omega
    have hsl : ∀ W : World, (Instr.slice 29 (.slice a q cap) (some (.int .i64 (F : Int))) (some (.int .i64 ((F : Int) + 8 * k))) none).run Try.prog W = .ok (.slice X (8 * k) (cap - F)) W := fun W => by
      rw [run_cut W a q cap F k hcap2, hX]
    have SV : Hid (∀ W : World, RfAt W b (.slice a (tb t).length cap) (tb t) (F + 8 * k) false → SeesV W (.slice X (8 * k) (cap - F)) y) := fun W hW => by
      have := sees_cut (F := F) (k := k) hW.row (by rw [HQ.out]; omega)
      rw [hX, HY.out.1] at this
      exact this
    clear hX hcap2
    go_still_tail 16, (by kernel_rfl)
    change wpList _ _ _ _ _ w4.drew
    have h5 := H4.out.drew
    have g5 : w.grownBy w4.drew (some b) := rgrown_drewN G4.out 1
    clear d0 d1 d2 H4 G4 hsl k6 k7 k8
    generalize w4.drew = w5 at *
    go_wp2_with fail
    refine (text_any _ y _ (by rw [HY.out.2]; omega) (SV.out _ h5)).mono ?_
    rintro r w6 ⟨rfl, b6⟩
    rw [PC.out]
    have HH := Lib.hid (And.intro (h5.below b6) (grown_below g5 b6))
    clear h5 g5 b6
    go_wp2_with fail
    go_ret
    exact ⟨rfl, HH.out.1, HH.out.2⟩

theorem rfbytes_any (b : Nat) (v : Value) (t : ByteArray) (i : Nat) (e : Bool) (n : Int) (w : World) (h : RfAt w b v (tb t) i e) (hi : i ≤ (tb t).length) (ht : t.size ≤ 100000) :
    Calls Try.prog 28 #[.pointer (some ⟨b, 0, none⟩), .int .i64 n] w fun r w' => r = .returned (.string (yS t i e n)) ∧ RfAt w' b v (tb t) (yI (tb t) i e n) (!yOk (tb t) i e n) ∧ w.grownBy w' (some b) := by
  cases hok : yOk (tb t) i e n with
  | false =>
    have e1 : yS t i e n = ⟨#[]⟩ := by unfold yS; rw [hok]; rfl
    have e2 : yI (tb t) i e n = i := by unfold yI; rw [hok]; rfl
    rw [e1, e2]
    exact rfbytes_bad b v t i e n w h hi ht hok
  | true =>
    have he : e = false := by
      unfold yOk at hok
      simp only [Bool.and_eq_true, Bool.not_eq_true', decide_eq_true_eq] at hok
      exact hok.1
    subst he
    exact rfbytes_ok b v t i n w h hi ht hok
end Go.Proofs.Ytdgoaccnjlkdcaa.Bit
