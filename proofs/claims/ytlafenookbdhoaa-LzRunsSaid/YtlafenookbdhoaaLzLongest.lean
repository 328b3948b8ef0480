/-
  Contract of lz.longest.
-/
import Derived.Test.YtlafenookbdhoaaLzChains
namespace Go.Proofs.Ytlafenookbdhoaa.Lz
open Go.ChangeShapes Go.WideShapes Go.ChangeAt Go.RowKit
set_option linter.unusedVariables false

theorem ext_drop (s : ByteArray) (p : Nat) : (s.extract p s.size).data.toList = s.data.toList.drop p := by
  simp [ByteArray.data_extract]
  apply List.take_of_length_le
  simp
theorem ext_rest (s : ByteArray) (p m : Nat) (hp : p ≤ s.size) (hm : m = min (p + 258) s.size) : (s.extract p m).data.toList = restL s.data.toList p := by
  unfold restL
  apply List.ext_getElem?
  intro j
  have e : (s.extract p m).data.toList[j]? = if j < m - p then s.data.toList[p + j]? else none := by
    have hz : (s.extract p m).data.toList = (s.data.toList.drop p).take (m - p) := by
      simp [ByteArray.data_extract]
    rw [hz, List.getElem?_take, List.getElem?_drop]
  rw [e, List.getElem?_take, List.getElem?_drop]
  have hl : s.data.toList.length = s.size := by simp
  by_cases h1 : j < m - p
  · rw [if_pos h1, if_pos (by omega)]
  · rw [if_neg h1]
    split
    · exact (List.getElem?_eq_none (by omega)).symm
    · rfl

theorem store3 {w : World} {R : Nat} {x0 x1 x2 : Value} {T : TypeId} (h : w.heap[R]? = some (.cells #[x0, x1, x2] T (0, 0))) (a b c : Value) :
    (((w.setCell ⟨R, 0, none⟩ a).setCell ⟨R, 1, none⟩ b).setCell ⟨R, 2, none⟩ c).heap[R]? = some (.cells #[a, b, c] T (0, 0)) := by
  have h1 := heap_setCell_same w R 0 _ _ a h
  have h2 := heap_setCell_same (w.setCell ⟨R, 0, none⟩ a) R 1 _ _ b h1
  have h3 := heap_setCell_same ((w.setCell ⟨R, 0, none⟩ a).setCell ⟨R, 1, none⟩ b) R 2 _ _ c h2
  exact h3

/-- What a token that lies in a result's cell is handed back as. -/
theorem ret_tok (tmps : Array Value) (w : World) (R : Nat) (t : Tok) (hp : tmps.getD 6 undef = .pointer (some ⟨R, 0, none⟩)) (hg : w.heap[R]? = some (.cells (tokC t) 30 (0, 0))) :
    (results Try.f23 tmps).run Try.prog w = .ok (.agg (tokC t)) w :=
  results_cell_row rfl tmps w R 30 (tokC t) (0, 0) _ hp hg Try.underlying30 rfl (by kernel_rfl)

set_option maxRecDepth 10000 in
set_option maxHeartbeats 2000000 in
theorem longest_any (s : ByteArray) (g p : Nat) (A : List Int) (full : Prop) (w : World) (hs : s.size ≤ 1000000) (hp : p < s.size) (hA : w.heap[g]? = some (.cells (cellsI A).toArray 3 (0, 0))) (hL : Links s.data.toList full A) :
    Calls Try.prog 23 #[.string s, .slice (some ⟨g, 0, none⟩) s.size s.size, .int .i64 p] w fun e w' => ∃ t, e = .returned (.agg (tokC t)) ∧ Good s.data.toList p t ∧ (full → Full s.data.toList p t) ∧ Below w.heap.size w w' := by
  have hSL : s.data.toList.length = s.size := by simp
  have hAl : A.length = s.size := by rw [hL.len, hSL]
  have hgl : g < w.heap.size := (Array.getElem?_eq_some_iff.1 hA).1
  have hgd : s.data.toList.getD p 0 = s[p] := by simp [List.getD_eq_getElem?_getD, hp]; rfl
  have hS := Seek.start hL (by rw [hSL]; exact hp)
  rw [hgd] at hS
  obtain ⟨m, hm⟩ : ∃ m, m = min (p + 258) s.size := ⟨_, rfl⟩
  have hm1 : min ((p : Int) + 258) (s.size : Int) = (m : Int) := by omega
  have hm2 : (if (s.size : Int) < (p : Int) + 258 then (s.size : Int) else (p : Int) + 258) = (m : Int) := by split <;> omega
  have hrest := ext_rest s p m (by omega) hm
  have hmp : p ≤ m ∧ m ≤ s.size := by omega
  have c9 : w.cell? ⟨g, p, none⟩ = some (.int .i64 (A.getD p (-1))) := by
    rw [cell_of_row _ _ _ _ _ _ hA, cellsI_get _ _ (by omega)]
    simp [List.getD_eq_getElem?_getD, show p < A.length by omega]
  generalize A.getD p (-1) = f0 at *
  have hx2 := s[p].toNat_lt
  have HS := Lib.hid hS
  have HA := Lib.hid hA
  have HL := Lib.hid hL
  have HR := Lib.hid hrest
  have HM := Lib.hid hm
  clear hA hL hS hgd hrest hm
  go_enter Try.func23, Try.ntmps23
  go_wp2_with fail
  have hb2 : Below w.heap.size w ((w.alloc (.cells #[.int .i64 0, .int .i64 0, .int .i64 0] 30)).alloc (.cells #[.int .i64 s[p].toNat, .int .i64 0, .int .i64 0] 30)) :=
    ((Below.refl _ _).alloc (Nat.le_refl _) _).alloc (by simp) _
  have h0 : ((w.alloc (.cells #[.int .i64 0, .int .i64 0, .int .i64 0] 30)).alloc (.cells #[.int .i64 s[p].toNat, .int .i64 0, .int .i64 0] 30)).heap[w.heap.size]? = some (.cells #[.int .i64 0, .int .i64 0, .int .i64 0] 30 (0, 0)) := by
    rw [Below.heap_alloc _ _ _ (by simp)]; exact heap_alloc_new _ _
  have h1 : ((w.alloc (.cells #[.int .i64 0, .int .i64 0, .int .i64 0] 30)).alloc (.cells #[.int .i64 s[p].toNat, .int .i64 0, .int .i64 0] 30)).heap[w.heap.size + 1]? = some (.cells (tokC (byteT s[p])) 30 (0, 0)) := by
    have := heap_alloc_new (w.alloc (.cells #[.int .i64 0, .int .i64 0, .int .i64 0] 30)) (.cells #[.int .i64 s[p].toNat, .int .i64 0, .int .i64 0] 30)
    have e : (w.alloc (.cells #[.int .i64 0, .int .i64 0, .int .i64 0] 30)).heap.size = w.heap.size + 1 := by simp
    rw [e] at this
    exact this
  generalize (w.alloc (.cells #[.int .i64 0, .int .i64 0, .int .i64 0] 30)).alloc (.cells #[.int .i64 s[p].toNat, .int .i64 0, .int .i64 0] 30) = w2 at *
  have hrz : (s.extract p m).size ≤ 1000000 := by simp; omega
  generalize s.extract p m = rst at *
  have hrl : rst.size = (restL s.data.toList p).length := by rw [← HR.out]; simp
  have HRL := Lib.hid hrl
  clear hrl hm1 hm2
  obtain ⟨R0, hR0⟩ : ∃ R0, w.heap.size = R0 := ⟨_, rfl⟩
  obtain ⟨R1, hR1⟩ : ∃ R1, w.heap.size + 1 = R1 := ⟨_, rfl⟩
  rw [hR1] at h1
  rw [hR1]
  have hr0 : w.heap.size ≤ R1 := by omega
  rw [hR0] at h0 hb2 hgl hr0
  rw [hR0]
  have hr01 : R0 ≠ R1 := by omega
  have B2 := Lib.hid hb2
  have H0 := Lib.hid h0
  have H1 := Lib.hid h1
  have HRR := Lib.hid hR0
  clear hb2 h0 h1 hR0 hR1 c9
  go_loopw [9, 28] (fun x i wr => ∃ (k : Nat) (f : Int) (t : Tok), k ≤ 128 ∧ i = .int .i64 k ∧ x = .int .i64 f ∧ Seek s.data.toList full p k f t ∧ wr.heap[R1]? = some (.cells (tokC t) 30 (0, 0)) ∧
      wr.heap[R0]? = some (.cells #[.int .i64 0, .int .i64 0, .int .i64 0] 30 (0, 0)) ∧ Below R0 w wr) (fun _ i _ => 128 - (intOf i).toNat)
  case atStart => exact ⟨0, f0, _, by omega, rfl, rfl, HS.out, H1.out, H0.out, B2.out⟩
  case round =>
    obtain ⟨k, f, t, hk, rfl, rfl, hS, h1, h0, hb⟩ := hrel
    clear HS H1 H0 B2
    obtain ⟨b, l, d⟩ := t
    have HS := Lib.hid hS
    have HB := Lib.hid hb
    have H1 := Lib.hid h1
    have H0 := Lib.hid h0
    have d0 : wr.cell? ⟨R1, 0, none⟩ = some (.int .i64 b) := by rw [cell_of_row _ _ 0 _ _ _ h1]; rfl
    have d1 : wr.cell? ⟨R1, 1, none⟩ = some (.int .i64 l) := by rw [cell_of_row _ _ 1 _ _ _ h1]; rfl
    have d2 : wr.cell? ⟨R1, 2, none⟩ = some (.int .i64 d) := by rw [cell_of_row _ _ 2 _ _ _ h1]; rfl
    have z0 : wr.cell? ⟨R0, 0, none⟩ = some (.int .i64 0) := by rw [cell_of_row _ _ 0 _ _ _ h0]; rfl
    have z1 : wr.cell? ⟨R0, 1, none⟩ = some (.int .i64 0) := by rw [cell_of_row _ _ 1 _ _ _ h0]; rfl
    have z2 : wr.cell? ⟨R0, 2, none⟩ = some (.int .i64 0) := by rw [cell_of_row _ _ 2 _ _ _ h0]; rfl
    have y0 : wr.frozen? ⟨R0, 0, none⟩ = false := frozen_of_row _ _ _ _ _ h0
    have y1 : wr.frozen? ⟨R0, 1, none⟩ = false := frozen_of_row _ _ _ _ _ h0
    have y2 : wr.frozen? ⟨R0, 2, none⟩ = false := frozen_of_row _ _ _ _ _ h0
    clear hS hb h1 h0
    by_cases hend : 128 ≤ k
    · obtain rfl : k = 128 := by omega
      have HF := Lib.hid (fun hf => HS.out.full hf (.inr (.inr (.inr (Nat.le_refl _)))))
      have HG := Lib.hid HS.out.good
      have HZ := Lib.hid (store3 H0.out (.int .i64 b) (.int .i64 l) (.int .i64 d))
      clear HS HL HA HR HM
      go_wp2_with fail
      (try simp only [Exit.inBlock, Exit.then])
      refine bodyPost_ret (v := .agg (tokC ⟨b, l, d⟩)) (ret_tok _ _ R0 ⟨b, l, d⟩ rfl HZ.out) rfl ?_
      refine ⟨⟨b, l, d⟩, rfl, HG.out, HF.out, ?_⟩
      rw [HRR.out]
      exact ((HB.out.setCell (Nat.le_refl _) _).setCell (Nat.le_refl _) _).setCell (Nat.le_refl _) _
    have hk2 : k < 128 := by omega
    rcases HS.out.from_ with rfl | ⟨r, rfl, hrp, hp3, hbeg⟩
    · have HS0 := Lib.hid HS.out
      have HF := Lib.hid (fun hf => HS.out.full hf (.inl rfl))
      have HG := Lib.hid HS.out.good
      have HZ := Lib.hid (store3 H0.out (.int .i64 b) (.int .i64 l) (.int .i64 d))
      clear HS HL HA HR HM
      go_wp2_with fail
      (try simp only [Exit.inBlock, Exit.then])
      refine bodyPost_ret (v := .agg (tokC ⟨b, l, d⟩)) (ret_tok _ _ R0 ⟨b, l, d⟩ rfl HZ.out) rfl ?_
      refine ⟨⟨b, l, d⟩, rfl, HG.out, HF.out, ?_⟩
      rw [HRR.out]
      exact ((HB.out.setCell (Nat.le_refl _) _).setCell (Nat.le_refl _) _).setCell (Nat.le_refl _) _
    · have hf1 : ((r : Int) == -1) = false := by simp
      obtain ⟨e, he⟩ : ∃ e : Nat, (p : Int) - (r : Int) = (e : Int) := ⟨p - r, by omega⟩
      by_cases hfar : 32768 < e
      · have hfar1 : decide ((32768 : Int) < (e : Int)) = true := decide_eq_true (by omega)
        have HF := Lib.hid (fun hf => HS.out.full hf (.inr (.inl (by omega))))
        have HG := Lib.hid HS.out.good
        have HZ := Lib.hid (store3 H0.out (.int .i64 b) (.int .i64 l) (.int .i64 d))
        clear HS HL HA HR HM
        go_wp2_with fail
        (try simp only [Exit.inBlock, Exit.then])
        refine bodyPost_ret (v := .agg (tokC ⟨b, l, d⟩)) (ret_tok _ _ R0 ⟨b, l, d⟩ rfl HZ.out) rfl ?_
        refine ⟨⟨b, l, d⟩, rfl, HG.out, HF.out, ?_⟩
        rw [HRR.out]
        exact ((HB.out.setCell (Nat.le_refl _) _).setCell (Nat.le_refl _) _).setCell (Nat.le_refl _) _
      · have hfar1 : decide ((32768 : Int) < (e : Int)) = false := decide_eq_false (by omega)
        by_cases hfull : l = rst.size
        · have hl1 : (l == (rst.size : Int)) = true := by simpa using hfull
          have hl2 : l = ((restL s.data.toList p).length : Nat) := by rw [hfull, HRL.out]
          have HL2 := Lib.hid hl2
          clear hfull hl2
          have HF := Lib.hid (fun hf => HS.out.full hf (.inr (.inr (.inl HL2.out))))
          have HG := Lib.hid HS.out.good
          have HZ := Lib.hid (store3 H0.out (.int .i64 b) (.int .i64 l) (.int .i64 d))
          clear HS HL HA HR HM
          go_wp2_with fail
          (try simp only [Exit.inBlock, Exit.then])
          refine bodyPost_ret (v := .agg (tokC ⟨b, l, d⟩)) (ret_tok _ _ R0 ⟨b, l, d⟩ rfl HZ.out) rfl ?_
          refine ⟨⟨b, l, d⟩, rfl, HG.out, HF.out, ?_⟩
          rw [HRR.out]
          exact ((HB.out.setCell (Nat.le_refl _) _).setCell (Nat.le_refl _) _).setCell (Nat.le_refl _) _
        · have hl1 : (l == (rst.size : Int)) = false := by simpa using hfull
          have CA := Lib.hid (alike_any (s.extract r s.size) rst wr (by simp <;> omega) hrz)
          rw [ext_drop, HR.out] at CA
          obtain ⟨q1, q2, q3⟩ := Seek.step HL.out HS.out (by rw [hSL]; exact hp) (by omega)
          have hN := (alikeL_le (s.data.toList.drop r) (restL s.data.toList p)).2
          rw [← HRL.out] at hN
          have he2 : p - r = e := by omega
          rw [he2] at q3
          have cA : wr.cell? ⟨g, r, none⟩ = some (.int .i64 (A.getD r (-1))) := by
            rw [cell_of_row _ _ _ _ _ _ ((HB.out.block g (by omega)).trans HA.out), cellsI_get _ _ q2]
            simp [List.getD_eq_getElem?_getD, q2]
          generalize alikeL (s.data.toList.drop r) (restL s.data.toList p) = N at *
          generalize A.getD r (-1) = f2 at *
          have Q3 := Lib.hid q3
          clear q3 HS HL HR HM hfull
          go_wp2_with fail
          refine CA.out.mono ?_
          rintro rr w3 ⟨rfl, nq, hw3⟩
          clear CA
          have H13 : Hid (w3.heap[R1]? = some (.cells (tokC ⟨b, l, d⟩) 30 (0, 0))) := Lib.hid (by rw [hw3]; exact H1.out)
          have H03 : Hid (w3.heap[R0]? = some (.cells #[.int .i64 0, .int .i64 0, .int .i64 0] 30 (0, 0))) := Lib.hid (by rw [hw3]; exact H0.out)
          have B3 : Hid (Below R0 w w3) := Lib.hid (by rw [hw3]; exact ⟨HB.out.os, HB.out.tape, HB.out.output, HB.out.size, HB.out.block⟩)
          have cA : w3.cell? ⟨g, r, none⟩ = some (.int .i64 f2) := by rw [hw3]; exact cA
          clear hw3 d0 d1 d2 z0 z1 z2 y0 y1 y2 H1 H0 HB
          have d0 : w3.cell? ⟨R1, 0, none⟩ = some (.int .i64 b) := by rw [cell_of_row _ _ 0 _ _ _ H13.out]; rfl
          have d1 : w3.cell? ⟨R1, 1, none⟩ = some (.int .i64 l) := by rw [cell_of_row _ _ 1 _ _ _ H13.out]; rfl
          have d2 : w3.cell? ⟨R1, 2, none⟩ = some (.int .i64 d) := by rw [cell_of_row _ _ 2 _ _ _ H13.out]; rfl
          have y0 : w3.frozen? ⟨R1, 0, none⟩ = false := frozen_of_row _ _ _ _ _ H13.out
          have y1 : w3.frozen? ⟨R1, 1, none⟩ = false := frozen_of_row _ _ _ _ _ H13.out
          have y2 : w3.frozen? ⟨R1, 2, none⟩ = false := frozen_of_row _ _ _ _ _ H13.out
          by_cases hlN : l < (N : Int)
          · have Q4 : Hid (Seek s.data.toList full p (k + 1) f2 ⟨0, (N : Nat), (e : Nat)⟩) := Lib.hid (by have := Q3.out; rwa [if_pos hlN] at this)
            have H14 := Lib.hid (store3 H13.out (.int .i64 0) (.int .i64 (N : Nat)) (.int .i64 (e : Nat)))
            have H04 : Hid ((((w3.setCell ⟨R1, 0, none⟩ (.int .i64 0)).setCell ⟨R1, 1, none⟩ (.int .i64 (N : Nat))).setCell ⟨R1, 2, none⟩ (.int .i64 (e : Nat))).heap[R0]? = some (.cells #[.int .i64 0, .int .i64 0, .int .i64 0] 30 (0, 0))) := Lib.hid (by
              rw [heap_setCell_other _ ⟨R1, 2, none⟩ R0 _ hr01, heap_setCell_other _ ⟨R1, 1, none⟩ R0 _ hr01, heap_setCell_other _ ⟨R1, 0, none⟩ R0 _ hr01]; exact H03.out)
            have B4 := Lib.hid (((B3.out.setCell (p := ⟨R1, 0, none⟩) hr0 (.int .i64 0)).setCell (p := ⟨R1, 1, none⟩) hr0 (.int .i64 (N : Nat))).setCell (p := ⟨R1, 2, none⟩) hr0 (.int .i64 (e : Nat)))
            have hgR : R1 ≠ g := by omega
            have cA4 : (((w3.setCell ⟨R1, 0, none⟩ (.int .i64 0)).setCell ⟨R1, 1, none⟩ (.int .i64 (N : Nat))).setCell ⟨R1, 2, none⟩ (.int .i64 (e : Nat))).cell? ⟨g, r, none⟩ = some (.int .i64 f2) := by
              rw [World.cell?_setCell_far _ _ _ _ hgR, World.cell?_setCell_far _ _ _ _ hgR, World.cell?_setCell_far _ _ _ _ hgR]; exact cA
            clear Q3 H13 H03 B3
            go_wp2_with fail
            exact ⟨⟨k + 1, f2, _, by omega, by go_num, rfl, Q4.out, H14.out, H04.out, B4.out⟩, by simp [intOf]; omega⟩
          · have Q4 : Hid (Seek s.data.toList full p (k + 1) f2 ⟨b, l, d⟩) := Lib.hid (by have := Q3.out; rwa [if_neg hlN] at this)
            clear Q3
            go_wp2_with fail
            exact ⟨⟨k + 1, f2, _, by omega, by go_num, rfl, Q4.out, H13.out, H03.out, B3.out⟩, by simp [intOf]; omega⟩

end Go.Proofs.Ytlafenookbdhoaa.Lz
