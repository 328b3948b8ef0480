/-
  The library's DeleteFunc over rectangles; those that count.
-/
import Derived.Test.YtedlhfemmofbpaaRegPrgO
namespace Go.Proofs.Ytedlhfemmofbpaa.Reg
open Go.ChangeShapes Go.WideShapes Go.ChangeAt Go.RowKit Go.Shelf Lz RowG RegVal OwnL
set_option linter.unusedVariables false
set_option linter.unusedSimpArgs false
set_option maxRecDepth 100000

def notC (r : Rc) : Bool := !counts r
theorem idxF_cases (l : List Rc) : (idxF notC l 0 = -1 ∧ l.filter counts = l) ∨ ∃ k, ∃ h : k < l.length, idxF notC l 0 = (k : Int) ∧ counts l[k] = false ∧ l.take k = (l.take (k + 1)).filter counts := by
  by_cases h : ∃ k, ∃ hk : k < l.length, notC l[k] = true ∧ ∀ i, (h : i < l.length) → i < k → notC l[i] = false
  · obtain ⟨k, hk, h1, h2⟩ := h
    right
    refine ⟨k, hk, idxF_hit h2 hk h1, by unfold notC at h1; simpa using h1, ?_⟩
    rw [List.take_succ_eq_append_getElem hk, List.filter_append]
    have e1 : (l.take k).filter counts = l.take k := by
      rw [List.filter_eq_self]
      intro r hr
      obtain ⟨i, hi, rfl⟩ := List.getElem_of_mem hr
      rw [List.length_take] at hi
      rw [List.getElem_take]
      have := h2 i (by omega) (by omega)
      unfold notC at this
      simpa using this
    have e2 : [l[k]].filter counts = [] := by
      unfold notC at h1
      simp at h1
      simp [h1]
    rw [e1, e2, List.append_nil]
  · left
    have hall : ∀ k, ∀ i, (h : i < l.length) → i < k → notC l[i] = false := by
      intro k
      induction k with
      | zero => intro i _ h; exact absurd h (by omega)
      | succ k ih =>
        intro i hi hik
        by_cases e : i = k
        · subst e
          cases hq : notC l[i] with
          | false => rfl
          | true => exact absurd ⟨i, hi, hq, ih⟩ h
        · exact ih i hi (by omega)
    refine ⟨idxF_none (fun i hi => hall l.length i hi hi), ?_⟩
    rw [List.filter_eq_self]
    intro r hr
    obtain ⟨i, hi, rfl⟩ := List.getElem_of_mem hr
    have := hall l.length i hi hi
    unfold notC at this
    simpa using this
/-- A rectangle is written over another one. -/
def put4 (w : World) (g o : Nat) (r : Rc) : World := (((w.setCell ⟨g, o, none⟩ (.int .i64 r.x)).setCell ⟨g, o + 1, none⟩ (.int .i64 r.y)).setCell ⟨g, o + 2, none⟩ (.int .i64 r.w)).setCell ⟨g, o + 3, none⟩ (.int .i64 r.h)
theorem RectsAt.put {B g cap : Nat} {w : World} {l : List Rc} (h : RectsAt B w (.slice (some ⟨g, 0, none⟩) l.length cap) l) {i : Nat} (hi : i < l.length) (r : Rc) : RectsAt B (put4 w g (i * 4) r) (.slice (some ⟨g, 0, none⟩) l.length cap) (l.set i r) := by
  have h1 := RowG.RowAt.setCell h (j := i * 4) (by omega) (u := .int .i64 r.x) rfl
  have h2 := RowG.RowAt.setCell h1 (j := i * 4 + 1) (by omega) (u := .int .i64 r.y) rfl
  have h3 := RowG.RowAt.setCell h2 (j := i * 4 + 2) (by omega) (u := .int .i64 r.w) rfl
  have h4 := RowG.RowAt.setCell h3 (j := i * 4 + 3) (by omega) (u := .int .i64 r.h) rfl
  rw [cellsR_set l i hi r] at h4
  unfold RectsAt
  rw [List.length_set]
  exact h4
theorem put4_below {B g o : Nat} {a w : World} (h : Below B a w) (hg : B ≤ g) (r : Rc) : Below B a (put4 w g o r) := below_set1 (below_set1 (below_set1 (below_set1 h hg _ _) hg _ _) hg _ _) hg _ _
theorem RectsAt.cells {B g cap : Nat} {w : World} {l : List Rc} {n : Nat} (hn : l.length = n) (h : RectsAt B w (.slice (some ⟨g, 0, none⟩) n cap) l) : B ≤ g ∧ g < w.heap.size ∧ n ≤ cap ∧ (∀ i, (hi : i < l.length) → RcAt w g (i * 4) l[i]) ∧ (∀ j, w.frozen? ⟨g, j, none⟩ = false) ∧ ∀ j, j < n * 4 → (w.cell? ⟨g, j, none⟩).isSome = true := by
  subst hn
  have hb := RowG.RowAt.block h
  refine ⟨hb.1, hb.2.1, ?_, fun i hi => ?_, hb.2.2.2, fun j hj => ?_⟩
  · rcases h.1.2 with ⟨h5, _⟩ | ⟨g', cap', cur, h5, _, _, hnc, _⟩
    · simp at h5
    · simp only [Value.slice.injEq, Option.some.injEq, Addr.mk.injEq, true_and, and_true] at h5
      obtain ⟨rfl, rfl⟩ := h5
      exact hnc
  · obtain ⟨g0, g1, g2, g3⟩ := cellsR_get l i hi
    exact ⟨hb.2.2.1 _ _ g0, hb.2.2.1 _ _ g1, hb.2.2.1 _ _ g2, hb.2.2.1 _ _ g3⟩
  · have hjl : j < (cellsR l).length := by rw [cellsR_length]; exact hj
    rw [hb.2.2.1 j _ (List.getElem?_eq_getElem hjl)]
    rfl
set_option maxHeartbeats 8000000 in
theorem delete_any (l : List Rc) (v : Value) (B : Nat) (w : World) (hl : l.length ≤ 100000) (hB : B ≤ w.heap.size) (hwf : WFs l) (h : RectsAt B w v l) :
    Calls Try.prog 45 #[v, .func (.func 47) #[] #[]] w fun e w' => ∃ u, e = .returned u ∧ RectsAt B w' u (l.filter counts) ∧ Below B w w' := by
  have eg := enters_of Try.func47 (by kernel_rfl) rfl
  have C0 := Lib.hid (index0_any notC l v w (by omega) (RectsAt.sees h) eg (fun r hr W hW => drop_any r (hwf r hr) W))
  obtain ⟨a, cap, hv⟩ := RowAt.shape h
  obtain ⟨n, hn⟩ : ∃ n, l.length = n := ⟨_, rfl⟩
  rw [hn] at hv hl
  have HWF := Lib.hid hwf
  have HROW := Lib.hid h
  have HN := Lib.hid hn
  have HBB := Lib.hid hB
  have HCASE := Lib.hid (idxF_cases l)
  generalize idxF notC l 0 = I at *
  subst hv
  clear h hwf hn hB
  go_enter Try.func45, Try.ntmps45
  go_wp2_with fail
  refine C0.out.mono ?_
  rintro e w1 ⟨rfl, k1⟩
  have HR1 : RowKit.Hid (RectsAt B w1 (.slice a n cap) l) := Lib.hid (RowG.RowAt.below HROW.out k1)
  have HB1 : RowKit.Hid (Below B w w1) := Lib.hid (k1.mono HBB.out)
  clear k1 C0 HROW
  rcases HCASE.out with ⟨hI, hf⟩ | ⟨k, hk, hI, hck, htk⟩
  · subst hI
    have HF := Lib.hid hf
    clear hf HCASE
    go_wp2_with fail
    go_ret
    exact ⟨_, rfl, by rw [HF.out]; exact HR1.out, HB1.out⟩
  · subst hI
    have HTK := Lib.hid htk
    have hkn : k < n := by have := HN.out; omega
    obtain ⟨g, rfl⟩ : ∃ g, a = some ⟨g, 0, none⟩ := by
      rcases HR1.out.1.2 with ⟨h5, _⟩ | ⟨g, cap', cur, h5, _⟩
      · have := HN.out
        simp only [Value.slice.injEq] at h5
        omega
      · simp only [Value.slice.injEq] at h5
        exact ⟨g, h5.1⟩
    have dm : ((k : Int) == -1) = false := by simp
    have dm2 : decide ((k : Int) = -1) = false := decide_eq_false (by omega)
    clear htk hck hk HCASE
    go_wp2_with fail
    go_loopw [5, 6] (fun p q wr => ∃ (i j : Nat) (l' : List Rc), p = .int .i64 i ∧ q = .int .i64 j ∧ i < j ∧ j ≤ n ∧ l'.length = n ∧ l'.take i = (l.take j).filter counts ∧ l'.drop j = l.drop j ∧ RectsAt B wr (.slice (some ⟨g, 0, none⟩) n cap) l' ∧ Below B w wr) (fun _ q _ => n - (intOf q).toNat)
    case atStart => exact ⟨k, k + 1, l, rfl, by simp, by omega, by omega, HN.out, HTK.out, rfl, HR1.out, HB1.out⟩
    case round =>
      obtain ⟨i, j, l', rfl, rfl, hij, hjn, hln, ht, hd, hrow, hbw⟩ := hrel
      obtain ⟨b1, b2, b3, b4, b5, b6⟩ := RectsAt.cells hln hrow
      have HROW2 := Lib.hid hrow
      have HT := Lib.hid ht
      have HD := Lib.hid hd
      have HBW := Lib.hid hbw
      have HLN := Lib.hid hln
      by_cases hlt : j < n
      · obtain ⟨r, hr⟩ : ∃ r, l'[j]'(by omega) = r := ⟨_, rfl⟩
        have hjl : j < l.length := by have := HN.out; omega
        have hr2 : l[j] = r := by
          have e := congrArg (fun q => q[0]?) hd
          simp only [List.getElem?_drop, Nat.add_zero] at e
          rw [List.getElem?_eq_getElem (by omega), List.getElem?_eq_getElem hjl] at e
          rw [← hr]; exact (Option.some.inj e).symm
        have hcell := b4 j (by omega)
        rw [hr] at hcell
        have hci := b4 i (by omega)
        have hwr : r.wf := HWF.out r (by rw [← hr2]; exact List.getElem_mem _)
        have CW := Lib.hid (fun W => drop_any r hwr W)
        have HR := Lib.hid hr2
        have nA := heap_alloc_new wr (.cells #[.int .i64 r.x, .int .i64 r.y, .int .i64 r.w, .int .i64 r.h] 32)
        have kA := (Below.refl wr.heap.size wr).alloc (Nat.le_refl _) (.cells #[.int .i64 r.x, .int .i64 r.y, .int .i64 r.w, .int .i64 r.h] 32)
        have zA := alloc_size wr (.cells #[.int .i64 r.x, .int .i64 r.y, .int .i64 r.w, .int .i64 r.h] 32)
        have bA := box4 wr r 32
        obtain ⟨W1, hW1⟩ : ∃ W1, wr.alloc (.cells #[.int .i64 r.x, .int .i64 r.y, .int .i64 r.w, .int .i64 r.h] 32) = W1 := ⟨_, rfl⟩
        rw [hW1] at nA kA zA bA
        have HROW3 : RowKit.Hid (RectsAt B W1 (.slice (some ⟨g, 0, none⟩) n cap) l') := Lib.hid (RowG.RowAt.below hrow kA)
        have HBW3 : RowKit.Hid (Below B w W1) := Lib.hid (hbw.trans (kA.mono (by omega)))
        obtain ⟨CB, hCB⟩ : ∃ CB, counts r = CB := ⟨_, rfl⟩
        have HCB := Lib.hid hCB
        have C := Lib.hid (CW.out W1)
        rw [hCB] at C
        have HI := Lib.hid (counts_iff (r := r))
        obtain ⟨x, y, u, z⟩ := r
        obtain ⟨c0, c1, c2, c3⟩ := hcell
        obtain ⟨e0, e1, e2, e3⟩ := bA
        unfold Rc.v at C
        simp only [Nat.zero_add] at e0 e1 e2 e3
        simp only at c0 c1 c2 c3 C e0 e1 e2 e3 hW1
        have dl : decide ((j : Int) < n) = true := decide_eq_true (by omega)
        have dl2 : decide (j < n) = true := decide_eq_true hlt
        clear hrow ht hd hbw hr hr2 hci hwr nA b4 b6 CW hCB
        have hz : wr.heap.size < W1.heap.size := by omega
        clear zA
        go_wp2_with fail
        refine C.out.mono ?_
        rintro e w2 ⟨rfl, k2⟩
        have hrow4 := RowG.RowAt.below HROW3.out k2
        obtain ⟨q1, q2, q3, q4, q5, q6⟩ := RectsAt.cells HLN.out hrow4
        have hB4 : Below B w w2 := HBW3.out.trans (k2.mono (by have := HBW3.out.size; have := HBB.out; omega))
        have f0 := (k2.cell (p := ⟨wr.heap.size, 0, none⟩) hz).trans e0
        have f1 := (k2.cell (p := ⟨wr.heap.size, 1, none⟩) hz).trans e1
        have f2 := (k2.cell (p := ⟨wr.heap.size, 2, none⟩) hz).trans e2
        have f3 := (k2.cell (p := ⟨wr.heap.size, 3, none⟩) hz).trans e3
        have HROW4 := Lib.hid hrow4
        have HB4 := Lib.hid hB4
        clear C k2 e0 e1 e2 e3 c0 c1 c2 c3 hW1 hrow4 hB4 kA
        cases CB with
        | false =>
          have HT2 : RowKit.Hid (l'.take i = (l.take (j + 1)).filter counts) := Lib.hid (by
            rw [List.take_succ_eq_append_getElem hjl, List.filter_append, HT.out, HR.out]
            simp [HCB.out])
          have HD2 : RowKit.Hid (l'.drop (j + 1) = l.drop (j + 1)) := Lib.hid (by rw [← List.drop_drop, ← List.drop_drop, HD.out])
          clear q4 q6 f0 f1 f2 f3
          go_wp2_with fail
          go_roundw
          case rel => exact ⟨i, j + 1, l', rfl, by go_num, by omega, by omega, HLN.out, HT2.out, HD2.out, HROW4.out, HB4.out⟩
          case measure => simp [intOf]; omega
        | true =>
          obtain ⟨d0, d1, d2, d3⟩ := q4 i (by omega)
          have q50 := q5 (i * 4)
          have q51 := q5 (i * 4 + 1)
          have q52 := q5 (i * 4 + 2)
          have q53 := q5 (i * 4 + 3)
          have HP : RowKit.Hid (RectsAt B (put4 w2 g (i * 4) ⟨x, y, u, z⟩) (.slice (some ⟨g, 0, none⟩) n cap) (l'.set i ⟨x, y, u, z⟩)) := Lib.hid (by
            have h1 := HROW4.out
            rw [← HLN.out] at h1 ⊢
            exact RectsAt.put h1 (by have := HLN.out; omega) ⟨x, y, u, z⟩)
          have HBP : RowKit.Hid (Below B w (put4 w2 g (i * 4) ⟨x, y, u, z⟩)) := Lib.hid (put4_below HB4.out q1 _)
          have HT2 : RowKit.Hid ((l'.set i ⟨x, y, u, z⟩).take (i + 1) = (l.take (j + 1)).filter counts) := Lib.hid (by
            have hil : i < (l'.set i (⟨x, y, u, z⟩ : Rc)).length := by rw [List.length_set]; have := HLN.out; omega
            rw [List.take_succ_eq_append_getElem hil, List.getElem_set_self, List.take_set_of_le (Nat.le_refl _), List.take_succ_eq_append_getElem hjl, List.filter_append, HT.out, HR.out]
            simp [HCB.out])
          have HD2 : RowKit.Hid ((l'.set i ⟨x, y, u, z⟩).drop (j + 1) = l.drop (j + 1)) := Lib.hid (by
            rw [List.drop_set_of_lt (by omega), ← List.drop_drop, ← List.drop_drop, HD.out])
          clear q4 q5 q6
          go_wp2_with fail
          go_roundw
          case rel => exact ⟨i + 1, j + 1, l'.set i ⟨x, y, u, z⟩, by go_num, by go_num, by omega, by omega, by rw [List.length_set]; exact HLN.out, HT2.out, HD2.out, HP.out, HBP.out⟩
          case measure => simp [intOf]; omega
      · obtain rfl : j = n := by omega
        have hs1 := fun W => run_fromR W (some ⟨g, 0, none⟩) j cap i (by omega)
        have hs2 := fun W => run_takeR W g 0 j cap i (by omega)
        have efr : fromR (some ⟨g, 0, none⟩) j cap i = .slice (some ⟨g, i * 4, none⟩) (j - i) (cap - i) := by
          unfold fromR
          rw [if_neg (by omega), Option.map_some, Go.WideShapes.add_plain, Nat.zero_add]
        rw [efr] at hs1
        have hcl := fun ty => run_clearR wr ty g (i * 4) (j - i) (cap - i) (by omega) (fun t ht => b6 _ (by omega)) (fun t ht => b5 _)
        have hrow' : RectsAt B wr (.slice (some ⟨g, 0, none⟩) l'.length cap) l' := by rw [HLN.out]; exact HROW2.out
        have hrow5 := RowAt.pasts (List.replicate ((j - i) * 4) (.int .i64 0)) (i * 4) wr (RowAt.take hrow' (k := i) (by have := HLN.out; omega)) (Nat.le_refl _)
        rw [cellsR_take] at hrow5
        have HF : RowKit.Hid (RectsAt B (wr.setCells g (i * 4) (List.replicate ((j - i) * 4) (.int .i64 0))) (.slice (some ⟨g, 0, none⟩) i cap) (l.filter counts)) := Lib.hid (by
          have e : l'.take i = l.filter counts := by rw [ht, List.take_of_length_le (by have := HN.out; omega)]
          unfold RectsAt
          rw [← e, List.length_take, Nat.min_eq_left (by omega)]
          exact hrow5)
        have HBF : RowKit.Hid (Below B w (wr.setCells g (i * 4) (List.replicate ((j - i) * 4) (.int .i64 0)))) := Lib.hid (below_setCells b1 _ _ _ hbw)
        have dl : decide ((j : Int) < j) = false := decide_eq_false (by omega)
        have dl2 : decide (j < j) = false := decide_eq_false (by omega)
        generalize wr.setCells g (i * 4) (List.replicate ((j - i) * 4) (.int .i64 0)) = w9 at *
        clear hrow hrow' ht hd hbw b4 b6 hrow5 efr
        go_wp2_with fail
        go_ret
        exact ⟨_, rfl, HF.out, HBF.out⟩
end Go.Proofs.Ytedlhfemmofbpaa.Reg
