/-
  Contracts of the document's own answer (miradorref05): Codes, Same.
-/
import Derived.Test.YtikfenimgjeplaaHufRef
namespace Go.Proofs.Ytikfenimgjeplaa.Huf
open Go.ChangeShapes Go.WideShapes Go.ChangeAt Go.RowKit
set_option linter.unusedVariables false

theorem rowC_congr (n : Nat) (F G F' G' : Nat → Nat) (h : ∀ i, i < n → F i = F' i ∧ G i = G' i) : rowC n F G = rowC n F' G' := by
  unfold rowC
  apply List.map_congr_left
  intro j hj
  have : j < n * 2 := by simpa using hj
  rw [(h (j / 2) (by omega)).1, (h (j / 2) (by omega)).2]

def doneA (N : List Nat) (l k i : Nat) : Bool := decide (N.getD i 0 ≠ 0) && (decide (N.getD i 0 < l) || (decide (N.getD i 0 = l) && decide (i < k)))
def cdA (N : List Nat) (l k i : Nat) : Nat := if doneA N l k i then codeV N i else 0
def lnA (N : List Nat) (l k i : Nat) : Nat := if doneA N l k i then N.getD i 0 else 0
theorem doneA_next (N : List Nat) (l n i : Nat) (h : i < n) : doneA N l n i = doneA N (l + 1) 0 i := by
  unfold doneA
  rw [Bool.eq_iff_iff]
  simp
  omega
theorem doneA_same (N : List Nat) (l k i : Nat) (h : i ≠ k ∨ N.getD k 0 ≠ l) : doneA N l (k + 1) i = doneA N l k i := by
  unfold doneA
  rw [Bool.eq_iff_iff]
  simp
  rcases h with h | h
  · omega
  · by_cases e : i = k
    · subst e; simp at h; omega
    · omega

set_option maxRecDepth 10000 in
set_option maxHeartbeats 2000000 in
theorem refCodes_any (a : Option Addr) (n cap : Nat) (N : List Nat) (w : World) (hn : N.length = n) (h : IsInts w a (N.map fun (x : Nat) => (x : Int))) (hl : n ≤ 320) (h15 : ∀ x ∈ N, x ≤ 15) :
    Calls Try.prog 53 #[.slice a n cap] w fun e w' => ∃ b, e = .returned (.slice (some ⟨b, 0, none⟩) n n) ∧ Below w.heap.size w w' ∧
      w'.ownsRow w.heap.size 81 2 (.slice (some ⟨b, 0, none⟩) n n) n (rowC n (codeV N) (fun i => N.getD i 0)) := by
  obtain ⟨i0, hi, hz0, hz1, hz2⟩ := info_parts info_code
  have HI := Lib.hid h
  have H15 := Lib.hid h15
  clear h h15
  go_enter Try.func53, Try.ntmps53
  go_wp2_with (at_make; refine wpList_make_full _ rfl _ _ 76 rfl w.heap.size 81 i0 (.agg #[.int .i64 0, .int .i64 0]) 2 Try.underlying76 hi hz0 hz1 .i64 .i64 _ _ n rfl rfl rfl rfl (by rw [hz2]; omega) (by unfold maxLen; omega) (by omega) ?_; intro w2 hown hgrow)
  have HB2 := Lib.hid (show Below w.heap.size w w2 from (Below.refl _ _).grown hgrow (Nat.le_refl _) (fun k hk => by cases hk))
  have HO2 : Hid (w2.ownsRow w.heap.size 81 2 (.slice (some ⟨w.heap.size, 0, none⟩) n n) n (rowC n (cdA N 1 0) (lnA N 1 0))) := Lib.hid (by
    rw [rowC_congr n (cdA N 1 0) (lnA N 1 0) (fun _ => 0) (fun _ => 0) (fun i _ => by
      have : doneA N 1 0 i = false := by unfold doneA; simp
      unfold cdA lnA; rw [this]; exact ⟨rfl, rfl⟩), ← madeC]
    exact hown)
  have HZ : Hid (w.heap.size ≤ w.heap.size) := Lib.hid (Nat.le_refl _)
  clear hown hgrow
  generalize hX : w.heap.size = X at HO2 HZ ⊢
  have HX := Lib.hid hX
  clear hX
  go_loopw [4, 5] (fun v i wr => ∃ l T : Nat, 1 ≤ l ∧ l ≤ 16 ∧ i = .int .i64 l ∧ v = .int .i64 T ∧ top N (l - 1) = T ∧ Below w.heap.size w wr ∧
    wr.ownsRow X 81 2 (.slice (some ⟨X, 0, none⟩) n n) n (rowC n (cdA N l 0) (lnA N l 0))) (fun _ i _ => 16 - (intOf i).toNat)
  case atStart => exact ⟨1, 0, by omega, by omega, rfl, rfl, by simp [top, fst, cn], HB2.out, HO2.out⟩
  case round =>
    obtain ⟨l, T, hl1, hl2, rfl, rfl, hT, hb, ho⟩ := hrel
    clear HB2 HO2 HZ
    have HB := Lib.hid hb
    have HO := Lib.hid ho
    have HT := Lib.hid hT
    clear hb ho hT
    by_cases hlt : l ≤ 15
    · have hlt' : (l : Int) ≤ 15 := by omega
      obtain ⟨F, hF⟩ : ∃ F, fst N l = F := ⟨_, rfl⟩
      have hFT : T * 2 = F := by
        rw [← hF, ← HT.out]
        obtain ⟨m, rfl⟩ : ∃ m, l = m + 1 := ⟨l - 1, by omega⟩
        show (fst N m + cn N m) * 2 = 2 * (fst N m + cn N m)
        omega
      have hFb : F ≤ 65534000000 := by rw [← hF]; exact fst_small N l hlt (by omega)
      have hFI : (T : Int) * 2 = F := by omega
      have HF := Lib.hid hF
      clear hF
      go_wp2_with fail
      go_loopw [4, 6] (fun v i wx => ∃ k Y : Nat, k ≤ n ∧ i = .int .i64 k ∧ v = .int .i64 Y ∧ F + (N.take k).count l = Y ∧ Below w.heap.size w wx ∧
        wx.ownsRow X 81 2 (.slice (some ⟨X, 0, none⟩) n n) n (rowC n (cdA N l k) (lnA N l k))) (fun _ i _ => n - (intOf i).toNat)
      case atStart => exact ⟨0, F, Nat.zero_le _, rfl, rfl, by simp, HB.out, HO.out⟩
      case round =>
        obtain ⟨k, Y, hk, rfl, rfl, hY, hb, ho⟩ := hrel
        clear HB HO
        have HB := Lib.hid hb
        have HO := Lib.hid ho
        have hYb : Y ≤ 65534000320 := by
          have : (N.take k).count l ≤ n := Nat.le_trans List.count_le_length (by simp; omega)
          omega
        have HY := Lib.hid hY
        clear hb ho hY
        by_cases hkn : k < n
        · have hkn' : (k : Int) < n := by omega
          obtain ⟨b, off, rfl, hbl, hc⟩ := HI.out (by simp; omega)
          have hck := hc k (by simp; omega)
          rw [List.getElem_map] at hck
          have hcw := (HB.out.cell (p := ⟨b, off + k, none⟩) hbl).trans hck
          have hgd : N.getD k 0 = N[k] := by rw [List.getD_eq_getElem?_getD, List.getElem?_eq_getElem (by omega)]; rfl
          have htk : N.take (k + 1) = N.take k ++ [N[k]] := List.take_succ_eq_append_getElem (by omega)
          have HG := Lib.hid hgd
          have HTK : Hid ((N.take (k + 1)).count l = (N.take k).count l + if N[k] = l then 1 else 0) := Lib.hid (by
            rw [htk, List.count_append, List.count_singleton]; simp [beq_iff_eq])
          clear hc hck hgd htk
          generalize N[k] = x at *
          by_cases hx : x = l
          · subst hx
            have hcv : codeV N k = Y := by unfold codeV; rw [HG.out, if_neg (by omega), HF.out]; exact HY.out
            have hs1 := HO.out.stored (k * 2) (.int .i64 (Y : Nat))
            have hs2 := hs1.1.stored (k * 2 + 1) (.int .i64 (x : Nat))
            have hdn : doneA N x (k + 1) k = true := by unfold doneA; rw [HG.out]; simp; omega
            rw [rowC_set n _ _ (cdA N x (k + 1)) (lnA N x (k + 1)) k Y x (by unfold cdA; rw [hdn, if_pos rfl, hcv]) (by unfold lnA; rw [hdn, if_pos rfl, HG.out])
              (fun j _ hj => by unfold cdA; rw [doneA_same N x k j (.inl hj)]) (fun j _ hj => by unfold lnA; rw [doneA_same N x k j (.inl hj)])] at hs2
            obtain ⟨d1, d2⟩ := rowC_get n (cdA N x k) (lnA N x k) k hkn
            have c1 := HO.out.cellAt (k * 2) (by omega)
            have c2 := HO.out.cellAt (k * 2 + 1) (by omega)
            rw [d1] at c1
            rw [d2] at c2
            have f1 := HO.out.frozenAt (k * 2)
            have f2 := HO.out.frozenAt (k * 2 + 1)
            have HY2 : Hid (F + (N.take (k + 1)).count x = Y + 1) := Lib.hid (by rw [HTK.out, if_pos rfl, ← Nat.add_assoc, HY.out])
            have H2 := Lib.hid ((HB.out.setCell (p := ⟨X, k * 2, none⟩) (by show w.heap.size ≤ X; rw [HX.out]; exact Nat.le_refl _) (.int .i64 (Y : Nat))).setCell (p := ⟨X, k * 2 + 1, none⟩) (by show w.heap.size ≤ X; rw [HX.out]; exact Nat.le_refl _) (.int .i64 (x : Nat)))
            have H3 := Lib.hid hs2.1
            clear hs1 hs2 d1 d2 hdn hcv HO HB HTK HG
            go_wp2_with fail
            refine ⟨⟨k + 1, Y + 1, by omega, by go_num, by go_num, HY2.out, H2.out, H3.out⟩, ?_⟩
            simp [intOf]; omega
          · have HY2 : Hid (F + (N.take (k + 1)).count l = Y) := Lib.hid (by rw [HTK.out, if_neg hx]; exact HY.out)
            have H3 := Lib.hid HO.out
            rw [rowC_congr n (cdA N l k) (lnA N l k) (cdA N l (k + 1)) (lnA N l (k + 1)) (fun i _ => by unfold cdA lnA; rw [doneA_same N l k i (.inr (by rw [HG.out]; exact hx))]; exact ⟨rfl, rfl⟩)] at H3
            have hx' : ((x : Int) == (l : Int)) = false := by simp; omega
            clear HO
            go_wp2_with fail
            refine ⟨⟨k + 1, Y, by omega, by go_num, rfl, HY2.out, HB.out, H3.out⟩, ?_⟩
            simp [intOf]; omega
        · obtain rfl : k = n := by omega
          have HT2 : Hid (top N (l + 1 - 1) = Y) := Lib.hid (by
            show fst N l + cn N l = Y
            rw [HF.out, ← HY.out, List.take_of_length_le (by omega)]
            unfold cn; rw [if_neg (by omega)])
          have H3 := Lib.hid HO.out
          rw [rowC_congr k (cdA N l k) (lnA N l k) (cdA N (l + 1) 0) (lnA N (l + 1) 0) (fun i hi => by unfold cdA lnA; rw [doneA_next N l k i hi]; exact ⟨rfl, rfl⟩)] at H3
          clear HO
          go_wp2_with fail
          refine ⟨⟨l + 1, Y, by omega, by omega, by go_num, rfl, HT2.out, HB.out, H3.out⟩, ?_⟩
          simp [intOf]; omega
    · obtain rfl : l = 16 := by omega
      have H3 := Lib.hid HO.out
      rw [rowC_congr n (cdA N 16 0) (lnA N 16 0) (codeV N) (fun i => N.getD i 0) (fun i hi => by
        have h1 : N.getD i 0 ≤ 15 := by
          rw [List.getD_eq_getElem?_getD, List.getElem?_eq_getElem (by omega)]; exact H15.out _ (List.getElem_mem _)
        unfold cdA lnA
        by_cases h0 : N.getD i 0 = 0
        · have hd : doneA N 16 0 i = false := by unfold doneA; rw [h0]; rfl
          rw [hd]
          unfold codeV
          rw [if_pos h0, h0]; exact ⟨rfl, rfl⟩
        · have hd : doneA N 16 0 i = true := by unfold doneA; rw [decide_eq_true h0, decide_eq_true (show N.getD i 0 < 16 by omega)]; rfl
          rw [hd]; exact ⟨rfl, rfl⟩)] at H3
      clear HO
      go_wp2_with fail
      go_ret
      refine ⟨X, rfl, HB.out, ?_⟩
      rw [HX.out]
      exact H3.out

end Go.Proofs.Ytikfenimgjeplaa.Huf
