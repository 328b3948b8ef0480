/-
  The program of layer 17 (rre): a rectangle of one number.
-/
import Derived.Test.YtmjjbapahgejmaaRrePrgB
namespace Go.Proofs.Ytmjjbapahgejmaa.Rre
open Go.ChangeShapes Go.WideShapes Go.ChangeAt Go.RowKit Lz RowG RegVal Pln
set_option linter.unusedVariables false
set_option linter.unusedSimpArgs false
set_option maxRecDepth 100000

theorem ints_set (l : List Int) (j : Nat) (x : Int) : (ints l).set j (.int .i64 x) = ints (l.set j x) := by unfold ints; rw [List.map_set]
theorem ints_put {B g cap : Nat} {w : World} {l : List Int} {n : Nat} (hn : l.length = n) (h : IntsAt B w (.slice (some ⟨g, 0, none⟩) n cap) l) {j : Nat} (hj : j < n) (x : Int) :
    IntsAt B (w.setCell ⟨g, j, none⟩ (.int .i64 x)) (.slice (some ⟨g, 0, none⟩) n cap) (l.set j x) := by
  unfold IntsAt at *
  rw [List.length_set, ← ints_set]
  rw [hn] at h ⊢
  exact RowAt.setCell h (by omega) rfl
theorem ints_cells {B g cap : Nat} {w : World} {l : List Int} {n : Nat} (hn : l.length = n) (h : IntsAt B w (.slice (some ⟨g, 0, none⟩) n cap) l) :
    B ≤ g ∧ g < w.heap.size ∧ (∀ i, i < n → w.cell? ⟨g, i, none⟩ = some (.int .i64 (px l i))) ∧ (∀ i, w.frozen? ⟨g, i, none⟩ = false) ∧ n ≤ cap ∧ ∃ cs, w.heap[g]? = some (.cells cs 3 (0, 0)) := by
  unfold IntsAt at h
  rw [hn] at h
  obtain ⟨h1, h2, h3, h4⟩ := RowAt.block h
  refine ⟨h1, h2, fun i hi => ?_, h4, ?_, (own_type h g rfl).2⟩
  · rw [px_get (show i < l.length by omega)]
    exact h3 i _ (ints_get (by omega))
  · rcases h.1.2 with ⟨h5, _⟩ | ⟨g', cap', cur, h5, _, _, hnc, _⟩
    · simp at h5
    · simp only [Value.slice.injEq] at h5
      omega
/-- How far it is painted: so many rows, and so many places of the next one. -/
def mixF (W : Nat) (l : List Int) (p : Pc) (i j : Nat) (k : Nat) : Int :=
  if p.x ≤ k % W ∧ k % W < p.x + p.n ∧ p.y ≤ k / W ∧ (k / W < p.y + i ∨ (k / W = p.y + i ∧ k % W < p.x + j)) then p.v else px l k
def mixL (W : Nat) (l : List Int) (p : Pc) (i j : Nat) : List Int := gen l.length (mixF W l p i j)
theorem mix_length (W : Nat) (l : List Int) (p : Pc) (i j : Nat) : (mixL W l p i j).length = l.length := gen_length _ _
theorem mix_start (W : Nat) (l : List Int) (p : Pc) : mixL W l p 0 0 = l := by
  refine row_ext (mix_length _ _ _ _ _) (fun k hk => ?_)
  rw [mix_length] at hk
  unfold mixL
  rw [px_gen hk]
  unfold mixF
  rw [if_neg (by omega)]
theorem mix_row (W : Nat) (l : List Int) (p : Pc) (i : Nat) : mixL W l p i p.n = mixL W l p (i + 1) 0 := by
  unfold mixL
  refine gen_congr (fun k hk => ?_)
  unfold mixF
  congr 1
  rw [eq_iff_iff]
  omega
theorem mix_end (W : Nat) (l : List Int) (p : Pc) : mixL W l p p.m 0 = paint1 W l p := by
  unfold mixL paint1
  refine gen_congr (fun k hk => ?_)
  unfold mixF
  by_cases h : p.has (k % W) (k / W) = true
  · rw [if_pos h]
    rw [has_iff] at h
    rw [if_pos (by omega)]
  · rw [if_neg h]
    rw [has_iff] at h
    rw [if_neg (by omega)]
theorem mix_step {W : Nat} {l : List Int} {p : Pc} {i j : Nat} (hj : j < p.n) (hW : p.x + p.n ≤ W) (hq : (p.y + i) * W + p.x + j < l.length) : (mixL W l p i j).set ((p.y + i) * W + p.x + j) p.v = mixL W l p i (j + 1) := by
  refine row_ext (by rw [List.length_set, mix_length, mix_length]) (fun k hk => ?_)
  rw [List.length_set, mix_length] at hk
  have e1 : px ((mixL W l p i j).set ((p.y + i) * W + p.x + j) p.v) k = if (p.y + i) * W + p.x + j = k then p.v else px (mixL W l p i j) k := by
    unfold px
    rw [List.getD_eq_getElem?_getD, List.getElem?_set]
    split
    · rename_i h
      subst h
      rw [if_pos (by rw [mix_length]; exact hk)]
      rfl
    · rw [List.getD_eq_getElem?_getD]
  rw [e1]
  unfold mixL
  rw [px_gen hk, px_gen hk]
  obtain ⟨a1, a2⟩ := at_mod (w := W) (x := p.x + j) (y := p.y + i) (by omega)
  rw [← Nat.add_assoc] at a1 a2
  by_cases h : (p.y + i) * W + p.x + j = k
  · rw [if_pos h]
    unfold mixF
    rw [← h, a1, a2, if_pos (by omega)]
  · rw [if_neg h]
    unfold mixF
    have hk2 : ¬ (k % W = p.x + j ∧ k / W = p.y + i) := fun hh => h (by
      have := Nat.div_add_mod k W
      rw [hh.1, hh.2, Nat.mul_comm] at this
      omega)
    congr 1
    rw [eq_iff_iff]
    omega
set_option maxHeartbeats 2000000 in
theorem fill_any (W H : Nat) (l : List Int) (p : Pc) (B g N cap : Nat) (w : World) (hN : W * H = N) (hl : l.length = N) (hW : W ≤ 4096) (hH : H ≤ 4096) (hx : p.x + p.n ≤ W) (hy : p.y + p.m ≤ H)
    (hA : IntsAt B w (.slice (some ⟨g, 0, none⟩) N cap) l) :
    Calls Try.prog 29 #[.int .i64 W, .slice (some ⟨g, 0, none⟩) N cap, .agg #[.int .i64 p.x, .int .i64 p.y, .int .i64 p.n, .int .i64 p.m], .int .i64 p.v] w fun e w' =>
      e = .returned (.tuple #[]) ∧ IntsAt B w' (.slice (some ⟨g, 0, none⟩) N cap) (paint1 W l p) ∧ Pln.Touch (fun k => k = g) w w' := by
  obtain ⟨v, px', py', pn, pm⟩ := p
  dsimp only at *
  obtain ⟨hBg, hg, _, _, hcap, _⟩ := ints_cells hl hA
  have HS := Lib.hid (mix_start W l ⟨v, px', py', pn, pm⟩)
  have HR := Lib.hid (mix_row W l ⟨v, px', py', pn, pm⟩)
  have HE := Lib.hid (mix_end W l ⟨v, px', py', pn, pm⟩)
  have HML := Lib.hid (fun i j => (mix_length W l ⟨v, px', py', pn, pm⟩ i j).trans hl)
  have hNb : N ≤ 4096 * 4096 := by rw [← hN]; exact Nat.mul_le_mul hW hH
  have HAT : RowKit.Hid (∀ i, i < pm → (py' + i) * W + px' + pn ≤ N) := Lib.hid (fun i hi => by
    have : (py' + i + 1) * W ≤ H * W := Nat.mul_le_mul_right _ (by omega)
    rw [Nat.add_mul, Nat.one_mul, Nat.mul_comm H W, hN] at this
    omega)
  have HST : RowKit.Hid (∀ i j, i < pm → j < pn → (mixL W l ⟨v, px', py', pn, pm⟩ i j).set ((py' + i) * W + px' + j) v = mixL W l ⟨v, px', py', pn, pm⟩ i (j + 1)) := Lib.hid (fun i j hi hj => mix_step hj hx (by have := HAT.out i hi; show (py' + i) * W + px' + j < l.length; omega))
  have HA0 : IntsAt B (w.alloc (.cells #[.int .i64 px', .int .i64 py', .int .i64 pn, .int .i64 pm] 29)) (.slice (some ⟨g, 0, none⟩) N cap) (mixL W l ⟨v, px', py', pn, pm⟩ 0 0) := by
    rw [HS.out]; exact RowAt.alloc hA _
  have n1 := heap_alloc_new w (.cells #[.int .i64 px', .int .i64 py', .int .i64 pn, .int .i64 pm] 29)
  have k1 : Pln.Touch (fun k => k = g) w (w.alloc (.cells #[.int .i64 px', .int .i64 py', .int .i64 pn, .int .i64 pm] 29)) := Pln.Touch.of_below ((Below.refl _ _).alloc (Nat.le_refl _) _)
  generalize mixL W l ⟨v, px', py', pn, pm⟩ = MX at *
  generalize paint1 W l ⟨v, px', py', pn, pm⟩ = RES at *
  have HA1 := Lib.hid HA0
  have HN1 := Lib.hid n1
  have HK1 := Lib.hid k1
  have hgn : g ≠ w.heap.size := by omega
  clear hA HA0 n1 k1 HS
  go_enter Try.func29, Try.ntmps29
  have c2 := cellAt (o := 3) HN1.out rfl
  go_wp2_with fail
  generalize w.alloc (.cells #[.int .i64 px', .int .i64 py', .int .i64 pn, .int .i64 pm] 29) = w1 at *
  obtain ⟨C, hC⟩ : ∃ C, w.heap.size = C := ⟨_, rfl⟩
  rw [hC] at HN1 hgn hg ⊢
  clear c2
  go_loopw [14] (fun vi wr => ∃ i : Nat, i ≤ pm ∧ vi = .int .i64 i ∧ IntsAt B wr (.slice (some ⟨g, 0, none⟩) N cap) (MX i 0) ∧ wr.heap[C]? = some (.cells #[.int .i64 px', .int .i64 py', .int .i64 pn, .int .i64 pm] 29 (0, 0)) ∧ Pln.Touch (fun k => k = g) w wr) (fun vi _ => pm - (intOf vi).toNat)
  case atStart => exact ⟨0, Nat.zero_le _, rfl, HA1.out, HN1.out, HK1.out⟩
  case round =>
    obtain ⟨i, hi, rfl, hA, hN1, hK⟩ := hrel
    have HA := Lib.hid hA
    have HN := Lib.hid hN1
    have HK := Lib.hid hK
    by_cases hlt : i < pm
    · have dk : decide ((i : Int) < (pm : Int)) = true := decide_eq_true (by omega)
      obtain ⟨M, hM⟩ : ∃ M, (py' + i) * W = M := ⟨_, rfl⟩
      obtain ⟨A, hA'⟩ : ∃ A, M + px' = A := ⟨_, rfl⟩
      obtain ⟨E, hE⟩ : ∃ E, A + pn = E := ⟨_, rfl⟩
      have hAT := HAT.out i hlt
      have HST1 := Lib.hid (fun j => HST.out i j hlt)
      rw [hM, hA'] at hAT HST1
      have hMy : py' + i ≤ 4096 := by omega
      have t1 : IntKind.i64.wrap (((py' : Int) + (i : Int)) * W) = (M : Nat) := by
        have : ((py' : Int) + (i : Int)) * W = (M : Nat) := by rw [← hM]; simp
        rw [this]; exact IntWalk.i64_in _ (by omega)
      have t2 : IntKind.i64.wrap ((M : Int) + px') = (A : Nat) := by
        rw [← Int.natCast_add, hA']; exact IntWalk.i64_in _ (by omega)
      have t3 : IntKind.i64.wrap ((A : Int) + pn) = (E : Nat) := by
        rw [← Int.natCast_add, hE]; exact IntWalk.i64_in _ (by omega)
      have hEA : E - A = pn := by omega
      have c0 := cellAt (o := 0) hN1 rfl
      have c1 := cellAt (o := 1) hN1 rfl
      have c2 := cellAt (o := 2) hN1 rfl
      have c3 := cellAt (o := 3) hN1 rfl
      clear hA hN1 hK hM
      by_cases hcA : cap = A
      · have hp0 : pn = 0 := by omega
        have HRI := Lib.hid (HR.out i)
        rw [hp0] at HRI
        subst hcA hp0
        have hz : decide ((0 : Int) < ((0 : Nat) : Int)) = false := rfl
        go_wp2_with fail
        refine wp_loop_rounds 1 ?_
        rw [rounds_succ]
        go_wp2_with fail
        exact ⟨⟨i + 1, by omega, by go_num, by rw [← HRI.out]; exact HA.out, HN.out, HK.out⟩, by simp [intOf]; omega⟩
      have hcA2 : A < cap := by omega
      have hcA3 : (cap == A) = false := by simpa using hcA
      go_wp2_with fail
      go_loopw [35] (fun vj wq => ∃ j : Nat, j ≤ pn ∧ vj = .int .i64 j ∧ IntsAt B wq (.slice (some ⟨g, 0, none⟩) N cap) (MX i j) ∧ wq.heap[C]? = some (.cells #[.int .i64 px', .int .i64 py', .int .i64 pn, .int .i64 pm] 29 (0, 0)) ∧ Pln.Touch (fun k => k = g) w wq) (fun vj _ => pn - (intOf vj).toNat)
      case atStart => exact ⟨0, Nat.zero_le _, rfl, HA.out, HN.out, HK.out⟩
      case round =>
        obtain ⟨j, hj, rfl, hA2, hN2, hK2⟩ := hrel
        have HA2 := Lib.hid hA2
        have HN2 := Lib.hid hN2
        have HK2 := Lib.hid hK2
        by_cases hlj : j < pn
        · have dj : decide ((j : Int) < (pn : Int)) = true := decide_eq_true (by omega)
          obtain ⟨_, _, hcl, hfr, _, _⟩ := ints_cells (HML.out i j) hA2
          have q0 := hcl (A + j) (by omega)
          have f0 := hfr (A + j)
          have HA3 := Lib.hid (ints_put (HML.out i j) hA2 (j := A + j) (by omega) v)
          have HNX := Lib.hid (HST1.out j hlj)
          clear hcl hfr hA2 hN2 hK2
          generalize px (MX i j) (A + j) = u at *
          go_wp2_with fail
          refine ⟨⟨j + 1, by omega, by go_num, ?_, ?_, ?_⟩, by simp [intOf]; omega⟩
          · rw [← HNX.out]; exact HA3.out
          · rw [setOther (by omega)]; exact HN2.out
          · exact HK2.out.trans (Pln.Touch.set rfl)
        · obtain rfl : j = pn := by omega
          have dj : decide ((j : Int) < (j : Int)) = false := decide_eq_false (by omega)
          have HRI := Lib.hid (HR.out i)
          clear hA2 hN2 hK2
          go_wp2_with fail
          exact ⟨⟨i + 1, by omega, by go_num, by rw [← HRI.out]; exact HA2.out, HN2.out, HK2.out⟩, by simp [intOf]; omega⟩
    · obtain rfl : i = pm := by omega
      have dk : decide ((i : Int) < (i : Int)) = false := decide_eq_false (by omega)
      clear hA hN1 hK
      go_wp2_with fail
      go_end0
      exact ⟨rfl, by rw [← HE.out]; exact HA.out, HK.out⟩
end Go.Proofs.Ytmjjbapahgejmaa.Rre
