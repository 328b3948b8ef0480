/-
  The program's smallest rectangle that has all places.
-/
import Derived.Test.YtedlhfemmofbpaaRegPrgQ
import Derived.Test.YtedlhfemmofbpaaRegRefE
namespace Go.Proofs.Ytedlhfemmofbpaa.Reg
open Go.ChangeShapes Go.WideShapes Go.ChangeAt Go.RowKit Go.Shelf Lz RowG RegVal OwnL
set_option linter.unusedVariables false
set_option linter.unusedSimpArgs false
set_option maxRecDepth 100000

def lo (a b : Int) : Int := if b < a then b else a
def hi (a b : Int) : Int := if a < b then b else a
/-- What the loop holds behind the first k rectangles. -/
structure BInv (l : List Rc) (k : Nat) (L T R D : Int) : Prop where
  all : ∀ i, (h : i < l.length) → i < k → L ≤ l[i].x ∧ l[i].x + l[i].w ≤ R ∧ T ≤ l[i].y ∧ l[i].y + l[i].h ≤ D
  none : k = 0 → L = 1048576 ∧ T = 1048576 ∧ R = -1048576 ∧ D = -1048576
  left : 0 < k → ∃ i, ∃ h : i < l.length, l[i].x = L
  right : 0 < k → ∃ i, ∃ h : i < l.length, l[i].x + l[i].w = R
  top : 0 < k → ∃ i, ∃ h : i < l.length, l[i].y = T
  down : 0 < k → ∃ i, ∃ h : i < l.length, l[i].y + l[i].h = D
  n : -1048576 ≤ L ∧ L ≤ 1048576 ∧ -1048576 ≤ T ∧ T ≤ 1048576 ∧ -1048576 ≤ R ∧ R ≤ 1048576 ∧ -1048576 ≤ D ∧ D ≤ 1048576
theorem BInv.step {l : List Rc} {k : Nat} {L T R D : Int} (h : BInv l k L T R D) (hk : k < l.length) (hc : counts l[k] = true) : BInv l (k + 1) (lo L l[k].x) (lo T l[k].y) (hi R (l[k].x + l[k].w)) (hi D (l[k].y + l[k].h)) := by
  have c := counts_iff.1 hc
  have n := h.n
  unfold lo hi
  refine ⟨fun i hi hik => ?_, fun e => by omega, fun _ => ?_, fun _ => ?_, fun _ => ?_, fun _ => ?_, ?_⟩
  · by_cases e : i = k
    · subst e
      refine ⟨?_, ?_, ?_, ?_⟩ <;> split <;> omega
    · have := h.all i hi (by omega)
      refine ⟨?_, ?_, ?_, ?_⟩ <;> split <;> omega
  · split
    · exact ⟨k, hk, rfl⟩
    · by_cases e : k = 0
      · have := h.none e; exact ⟨k, hk, by omega⟩
      · exact h.left (by omega)
  · split
    · exact ⟨k, hk, rfl⟩
    · by_cases e : k = 0
      · have := h.none e; exact ⟨k, hk, by omega⟩
      · exact h.right (by omega)
  · split
    · exact ⟨k, hk, rfl⟩
    · by_cases e : k = 0
      · have := h.none e; exact ⟨k, hk, by omega⟩
      · exact h.top (by omega)
  · split
    · exact ⟨k, hk, rfl⟩
    · by_cases e : k = 0
      · have := h.none e; exact ⟨k, hk, by omega⟩
      · exact h.down (by omega)
  · refine ⟨?_, ?_, ?_, ?_, ?_, ?_, ?_, ?_⟩ <;> split <;> omega
theorem hasL_filter (l : List Rc) (x y : Int) : hasL (l.filter counts) x y = hasL l x y := by
  rw [Bool.eq_iff_iff, hasL_iff, hasL_iff]
  constructor
  · rintro ⟨r, hr, h⟩
    exact ⟨r, (List.mem_filter.1 hr).1, h⟩
  · rintro ⟨r, hr, hc, h⟩
    exact ⟨r, List.mem_filter.2 ⟨hr, hc⟩, hc, h⟩
theorem bounds_of {l : List Rc} {L T R D : Int} (h : BInv (l.filter counts) (l.filter counts).length L T R D) (hn : 0 < (l.filter counts).length) : boundsL l = ⟨L, T, R - L, D - T⟩ := by
  obtain ⟨r0, h0⟩ := List.exists_mem_of_length_pos hn
  obtain ⟨m0, c0⟩ := List.mem_filter.1 h0
  refine Tight.one (bounds_tight m0 c0) (m := l.filter counts) ⟨fun r hr _ => ?_, ?_, ?_, ?_, ?_⟩ (fun x y => (hasL_filter l x y).symm)
  · obtain ⟨i, hi, rfl⟩ := List.getElem_of_mem hr
    have := h.all i hi hi
    simp only
    omega
  · obtain ⟨i, hi, e⟩ := h.left hn
    exact ⟨_, List.getElem_mem hi, (List.mem_filter.1 (List.getElem_mem hi)).2, e⟩
  · obtain ⟨i, hi, e⟩ := h.right hn
    exact ⟨_, List.getElem_mem hi, (List.mem_filter.1 (List.getElem_mem hi)).2, by simp only; omega⟩
  · obtain ⟨i, hi, e⟩ := h.top hn
    exact ⟨_, List.getElem_mem hi, (List.mem_filter.1 (List.getElem_mem hi)).2, e⟩
  · obtain ⟨i, hi, e⟩ := h.down hn
    exact ⟨_, List.getElem_mem hi, (List.mem_filter.1 (List.getElem_mem hi)).2, by simp only; omega⟩
theorem bounds_zero {l : List Rc} (h : (l.filter counts).length = 0) : boundsL l = ⟨0, 0, 0, 0⟩ := by
  unfold boundsL
  rw [if_pos (bord_nil.1.2 (fun r hr => ?_))]
  have h := List.length_eq_zero_iff.1 h
  rw [List.filter_eq_nil_iff] at h
  simpa using h r hr
theorem min_lo (a b : Int) : min a b = lo a b := by unfold lo; split <;> omega
theorem max_hi (a b : Int) : max a b = hi a b := by unfold hi; split <;> omega
set_option maxHeartbeats 8000000 in
theorem bounds_any (l : List Rc) (v : Value) (w : World) (hl : l.length ≤ 20000) (hw : WFs l) (h : SeesR w v l) :
    Calls Try.prog 23 #[v] w fun e w' => e = .returned (boundsL l).v ∧ Below w.heap.size w w' := by
  obtain ⟨n0, hn0⟩ : ∃ n0, w.heap.size = n0 := ⟨_, rfl⟩
  have z1 := alloc_size w (.cells #[.int .i64 0, .int .i64 0, .int .i64 0, .int .i64 0] 32)
  have o1 := heap_alloc_new w (.cells #[.int .i64 0, .int .i64 0, .int .i64 0, .int .i64 0] 32)
  have k1 := (Below.refl w.heap.size w).alloc (Nat.le_refl _) (.cells #[.int .i64 0, .int .i64 0, .int .i64 0, .int .i64 0] 32)
  obtain ⟨w1, hw1⟩ : ∃ w1, w.alloc (.cells #[.int .i64 0, .int .i64 0, .int .i64 0, .int .i64 0] 32) = w1 := ⟨_, rfl⟩
  rw [hw1] at z1 o1 k1
  have C := Lib.hid (counted_any l v w1 hl hw (h.below k1))
  rw [hn0] at z1 o1 k1 ⊢
  have HK1 := Lib.hid k1
  have HO1 := Lib.hid o1
  have HL := Lib.hid hl
  obtain ⟨a, cap, rfl, _⟩ := h
  obtain ⟨n, hln⟩ : ∃ n, l.length = n := ⟨_, rfl⟩
  have HLN := Lib.hid hln
  rw [hln] at C ⊢
  clear hl hw k1 o1 hln
  go_enter Try.func23, Try.ntmps23
  go_wp2_with fail
  refine C.out.mono ?_
  rintro e w2 ⟨u, rfl, hrow, k2⟩
  have hfl0 : (l.filter counts).length ≤ l.length := List.length_filter_le _ _
  have hres : w2.heap[n0]? = some (.cells #[.int .i64 0, .int .i64 0, .int .i64 0, .int .i64 0] 32 (0, 0)) := (k2.block _ (by omega)).trans HO1.out
  have HK2 : RowKit.Hid (Below n0 w w2) := Lib.hid (HK1.out.trans (k2.mono (by omega)))
  have HRES := Lib.hid hres
  have hsz : n0 < w2.heap.size := (Array.getElem?_eq_some_iff.1 hres).1
  obtain ⟨p, c, rfl⟩ := RowAt.shape hrow
  obtain ⟨F, hF⟩ : ∃ F, l.filter counts = F := ⟨_, rfl⟩
  have HF := Lib.hid hF
  have HCF : RowKit.Hid (∀ r ∈ F, counts r = true) := Lib.hid (fun r hr => by rw [← hF] at hr; exact (List.mem_filter.1 hr).2)
  rw [hF] at hrow ⊢
  obtain ⟨m, hm⟩ : ∃ m, F.length = m := ⟨_, rfl⟩
  have HM := Lib.hid hm
  rw [hm] at hrow ⊢
  have HROW := Lib.hid hrow
  have hml : m ≤ 20000 := by have := HL.out; rw [hF] at hfl0; omega
  clear C hrow k2 hF hfl0
  by_cases hm0 : m = 0
  · have HB : RowKit.Hid (boundsL l = ⟨0, 0, 0, 0⟩) := Lib.hid (bounds_zero (by rw [HF.out, HM.out]; exact hm0))
    subst hm0
    have d0 := cellAt (o := 0) hres rfl
    have d1 := cellAt (o := 1) hres rfl
    have d2 := cellAt (o := 2) hres rfl
    have d3 := cellAt (o := 3) hres rfl
    have f0 := frozenAt (o := 0) hres
    have f1 := frozenAt (o := 1) hres
    have f2 := frozenAt (o := 2) hres
    have f3 := frozenAt (o := 3) hres
    clear hres hm
    go_wp2_with fail
    refine bodyPost_ret (Ret.ret_cell rfl _ _ n0 32 _ (0, 0) _ rfl (set4_own HRES.out _ _ _ _) Try.underlying32 rfl (by kernel_rfl)) rfl ⟨by rw [HB.out]; rfl, set4_below HK2.out (Nat.le_refl _) _ _ _ _⟩
  · have e1 : ((m : Int) == 0) = false := by simp; omega
    have e2 : decide ((m : Int) = 0) = false := decide_eq_false (by omega)
    obtain ⟨g, rfl⟩ : ∃ g, p = some ⟨g, 0, none⟩ := by
      rcases HROW.out.1.2 with ⟨h5, _⟩ | ⟨g, cap', cur, h5, _⟩
      · simp only [Value.slice.injEq] at h5
        omega
      · simp only [Value.slice.injEq] at h5
        exact ⟨g, h5.1⟩
    clear hres
    go_wp2_with fail
    go_loopw [4, 5, 6, 7, 18] (fun a4 a5 a6 a7 q wr => ∃ (k : Nat) (L T R D : Int), q = .int .i64 k ∧ a4 = .int .i64 L ∧ a5 = .int .i64 T ∧ a6 = .int .i64 R ∧ a7 = .int .i64 D ∧ k ≤ m ∧ BInv F k L T R D ∧ Below w2.heap.size w2 wr) (fun _ _ _ _ q _ => m - (intOf q).toNat)
    case atStart => exact ⟨0, 1048576, 1048576, -1048576, -1048576, rfl, rfl, rfl, rfl, rfl, Nat.zero_le _, ⟨fun i _ h => absurd h (by omega), fun _ => ⟨rfl, rfl, rfl, rfl⟩, fun h => absurd h (by omega), fun h => absurd h (by omega), fun h => absurd h (by omega), fun h => absurd h (by omega), by omega⟩, Below.refl _ _⟩
    case round =>
      obtain ⟨k, L, T, R, D, rfl, rfl, rfl, rfl, rfl, hk, hinv, hB⟩ := hrel
      have nn := hinv.n
      have HINV := Lib.hid hinv
      have HBB := Lib.hid hB
      by_cases hlt : k < m
      · have hkl : k < F.length := by have := HM.out; omega
        obtain ⟨r, hr⟩ : ∃ r, F[k] = r := ⟨_, rfl⟩
        obtain ⟨b1, b2, b3, b4, b5, b6⟩ := RectsAt.cells HM.out (RowG.RowAt.below HROW.out (hB.mono (by have := HK2.out.size; omega)))
        have hcell := b4 k hkl
        rw [hr] at hcell
        have hcr : counts r = true := by rw [← hr]; exact HCF.out _ (List.getElem_mem _)
        have cc := counts_iff.1 hcr
        have hst := hinv.step hkl (by rw [hr]; exact hcr)
        rw [hr] at hst
        have HST := Lib.hid hst
        have kA := (Below.refl wr.heap.size wr).alloc (Nat.le_refl _) (.cells #[.int .i64 r.x, .int .i64 r.y, .int .i64 r.w, .int .i64 r.h] 32)
        have bA := box4 wr r 32
        obtain ⟨W1, hW1⟩ : ∃ W1, wr.alloc (.cells #[.int .i64 r.x, .int .i64 r.y, .int .i64 r.w, .int .i64 r.h] 32) = W1 := ⟨_, rfl⟩
        rw [hW1] at bA kA
        have HB3 : RowKit.Hid (Below w2.heap.size w2 W1) := Lib.hid (hB.trans (kA.mono hB.size))
        obtain ⟨x, y, u, z⟩ := r
        obtain ⟨c0, c1, c2, c3⟩ := hcell
        obtain ⟨e0, e1', e2', e3⟩ := bA
        simp only [Nat.zero_add] at e0 e1' e2' e3
        simp only at c0 c1 c2 c3 e0 e1' e2' e3 hW1 HST cc
        obtain ⟨L', hL⟩ : ∃ L', lo L x = L' := ⟨_, rfl⟩
        obtain ⟨T', hT⟩ : ∃ T', lo T y = T' := ⟨_, rfl⟩
        obtain ⟨X', hX⟩ : ∃ X', x + u = X' := ⟨_, rfl⟩
        obtain ⟨Y', hY⟩ : ∃ Y', y + z = Y' := ⟨_, rfl⟩
        rw [hX, hY] at HST
        obtain ⟨R', hR⟩ : ∃ R', hi R X' = R' := ⟨_, rfl⟩
        obtain ⟨D', hD⟩ : ∃ D', hi D Y' = D' := ⟨_, rfl⟩
        rw [hL, hT, hR, hD] at HST
        have w1' : IntKind.i64.wrap (x + u) = X' := by rw [hX]; exact IntWalk.i64_in _ (by omega)
        have w2' : IntKind.i64.wrap (y + z) = Y' := by rw [hY]; exact IntWalk.i64_in _ (by omega)
        have m1 : min L x = L' := (min_lo L x).trans hL
        have m2 : min T y = T' := (min_lo T y).trans hT
        have m3 : max R X' = R' := (max_hi R X').trans hR
        have m4 : max D Y' = D' := (max_hi D Y').trans hD
        have i1 : (if x < L then x else L) = L' := hL
        have i2 : (if y < T then y else T) = T' := hT
        have i3 : (if R < X' then X' else R) = R' := hR
        have i4 : (if D < Y' then Y' else D) = D' := hD
        have dl : decide ((k : Int) < m) = true := decide_eq_true (by omega)
        have dl2 : decide (k < m) = true := decide_eq_true hlt
        clear hinv hB hr hcr hst b4 b5 b6 kA hL hT hX hY hR hD cc nn
        go_wp2_with fail
        go_quiet (fail)
        go_wp2_with fail
        go_quiet (fail)
        go_wp2_with fail
        go_roundw
        case rel => exact ⟨k + 1, L', T', R', D', by go_num, rfl, rfl, rfl, rfl, by omega, HST.out, below_q HB3.out _⟩
        case measure => simp [intOf]; omega
      · have hkm : k = m := by omega
        subst hkm
        have HE : RowKit.Hid (boundsL l = ⟨L, T, R - L, D - T⟩) := Lib.hid (bounds_of (by rw [HF.out, HM.out]; exact hinv) (by rw [HF.out, HM.out]; omega))
        have hres3 := (hB.block n0 hsz).trans HRES.out
        have HR3 := Lib.hid hres3
        have d0 := cellAt (o := 0) hres3 rfl
        have d1 := cellAt (o := 1) hres3 rfl
        have d2 := cellAt (o := 2) hres3 rfl
        have d3 := cellAt (o := 3) hres3 rfl
        have f0 := frozenAt (o := 0) hres3
        have f1 := frozenAt (o := 1) hres3
        have f2 := frozenAt (o := 2) hres3
        have f3 := frozenAt (o := 3) hres3
        have w1' : IntKind.i64.wrap (R - L) = R - L := IntWalk.i64_in _ (by omega)
        have w2' : IntKind.i64.wrap (D - T) = D - T := IntWalk.i64_in _ (by omega)
        have dl : decide ((k : Int) < k) = false := decide_eq_false (by omega)
        have dl2 : decide (k < k) = false := decide_eq_false (by omega)
        clear hinv hB hres3 nn
        go_wp2_with fail
        refine bodyPost_ret (Ret.ret_cell rfl _ _ n0 32 _ (0, 0) _ rfl (set4_own HR3.out _ _ _ _) Try.underlying32 rfl (by kernel_rfl)) rfl ⟨by rw [HE.out]; rfl, set4_below (HK2.out.trans (HBB.out.mono (by omega))) (Nat.le_refl _) _ _ _ _⟩
end Go.Proofs.Ytedlhfemmofbpaa.Reg
