/-
  Contract of lz.Pack.
-/
import Derived.Test.YtlafenookbdhoaaLzLongest
import Derived.Test.YtlafenookbdhoaaLzRef
namespace Go.Proofs.Ytlafenookbdhoaa.Lz
open Go.ChangeShapes Go.WideShapes Go.ChangeAt Go.RowKit
set_option linter.unusedVariables false

theorem litT (w : World) (t : Tok) (T : TypeId) : ∀ j u, (cellsT [t])[j]? = some u → (w.alloc (.cells #[.int .i64 t.B, .int .i64 t.L, .int .i64 t.D] T)).cell? ((⟨w.heap.size, 0, none⟩ : Addr).add j) = some u := by
  intro j u h
  rw [Oct.addr_add, cell_of_row _ _ _ _ _ _ (heap_alloc_new _ _)]
  rw [← h]
  simp [cellsT]

set_option maxRecDepth 10000 in
set_option maxHeartbeats 2000000 in
theorem pack_any (win s : ByteArray) (w : World) (hw : win.size ≤ maxLen) (hs : s.size ≤ 500000) :
    Calls Try.prog 19 #[.string win, .string s] w fun e w' => ∃ a cap l, e = .returned (.slice a l.length cap) ∧ IsToks w' a l ∧ Below w.heap.size w w' ∧ l.length ≤ 1000000 ∧
      Chain (tailL win.data.toList ++ s.data.toList) (fun p t => (tailL win.data.toList).length = 0 → Full (tailL win.data.toList ++ s.data.toList) p t) (tailL win.data.toList).length l (tailL win.data.toList ++ s.data.toList).length := by
  obtain ⟨i0, hi, hz0, hz1, hz2⟩ := info_parts info_tok
  have C1 := Lib.hid (tail_any win w hw)
  have htz := tailB_size win
  rw [← tailB_list]
  generalize tailB win = tw at *
  have htz2 : tw.size ≤ 32768 := by omega
  have hst : tw.data.toList.length = tw.size := by simp
  have hT : tw.data.toList ++ s.data.toList = (tw ++ s).data.toList := by simp
  have hTz : (tw ++ s).size = tw.size + s.size := by simp
  have CC := fun w' => Lib.hid (chains_any (tw ++ s) tw.size w' (by omega) (by omega))
  have hTl : (tw ++ s).data.toList.length = (tw ++ s).size := by simp
  rw [hT, hst, hTl]
  clear hT hw htz
  obtain ⟨T, hTT⟩ : ∃ T, tw ++ s = T := ⟨_, rfl⟩
  rw [hTT] at CC hTl hTz ⊢
  have hTz2 : T.size ≤ 1000000 := by omega
  have hst2 : tw.size ≤ T.size := by omega
  clear hTz hst hTl
  go_enter Try.func19, Try.ntmps19
  go_wp2_with fail
  refine C1.out.mono ?_
  rintro r w1 ⟨rfl, rfl⟩
  clear C1
  go_wp2_with fail
  refine (CC w).out.mono ?_
  rintro r w1 ⟨g, A, rfl, hwg, hA, hb1, hL⟩
  have CLG := fun (p : Nat) (w' : World) (h : Below w1.heap.size w1 w') (hp : p < T.size) => Lib.hid (longest_any T g p A (tw.size = 0) w' hTz2 hp ((h.block g (Array.getElem?_eq_some_iff.1 hA).1).trans hA) hL)
  have HB1 := Lib.hid hb1
  have hW1 : w.heap.size ≤ w1.heap.size := hb1.size
  clear CC hA hL hwg hb1 hTT
  go_wp2_with fail
  go_loopw [7, 8] (fun x i wr => ∃ (p : Nat) (l : List Tok), p ≤ T.size ∧ i = .int .i64 p ∧ Chain T.data.toList (fun p t => tw.size = 0 → Full T.data.toList p t) tw.size l p ∧ wr.ownsRow 0 30 3 x l.length (cellsT l) ∧
      (∀ j, x.ownBlock = some j → w1.heap.size ≤ j) ∧ Below w1.heap.size w1 wr) (fun _ i _ => T.size - (intOf i).toNat)
  case atStart => exact ⟨tw.size, [], hst2, rfl, .nil, World.ownsRow_nil _ _ _ _, fun j hj => by simp [Value.ownBlock] at hj, Below.refl _ _⟩
  case round =>
    obtain ⟨p, l, hp, rfl, hch, ho, hv, hb⟩ := hrel
    have hlp := hch.makes.2
    obtain ⟨a, cap, rfl⟩ := own_slice ho
    have HCH := Lib.hid hch
    have HO := Lib.hid ho
    have HV := Lib.hid hv
    have HB := Lib.hid hb
    clear hch ho hv hb
    by_cases hlt : p < T.size
    · have C2 := CLG p wr HB.out hlt
      clear CLG
      obtain ⟨N, hN⟩ : ∃ N, l.length = N := ⟨_, rfl⟩
      rw [hN] at hlp HO HV ⊢
      go_wp2_with fail
      refine C2.out.mono ?_
      rintro r w2 ⟨t, rfl, hgood, hfull, hb2⟩
      clear C2
      obtain ⟨W, hWd⟩ : ∃ W, wide t = W := ⟨_, rfl⟩
      have hTl : T.data.toList.length = T.size := by simp
      obtain ⟨g1, g2, g3, g4⟩ := hgood.wide (by rw [hTl]; exact hlt)
      rw [hWd, hTl] at g2
      rw [hWd] at g1
      have hmax : max t.L 1 = (W : Int) := by
        rw [← hWd]; unfold wide; omega
      have hmax2 : (if t.L < 1 then (1 : Int) else t.L) = (W : Int) := by
        rw [← hWd]; unfold wide; split <;> omega
      have hch2 : Chain T.data.toList (fun p t => tw.size = 0 → Full T.data.toList p t) tw.size (l ++ [t]) (p + W) := by
        rw [← hWd]
        exact .snoc HCH.out (by rw [hTl]; exact hlt) hgood hfull
      have HCH2 := Lib.hid hch2
      obtain ⟨X, hX⟩ : ∃ X, Obj.cells (tokC t) 30 = X := ⟨_, rfl⟩
      have B2 : Below w1.heap.size w1 w2 := HB.out.trans (hb2.mono HB.out.size)
      have B3 : Below w1.heap.size w1 (w2.alloc X) := B2.alloc B2.size X
      have O2 : w2.ownsRow 0 30 3 (.slice a N cap) N (cellsT l) := by
        refine ⟨HO.out.1, ?_⟩
        rcases HO.out.2 with h | ⟨gg, c2, cur, h1, h2, h3, h4⟩
        · exact .inl h
        · exact .inr ⟨gg, c2, cur, h1, h2, (hb2.block gg (Array.getElem?_eq_some_iff.1 h3).1).trans h3, h4⟩
      have O3 := O2.alloc X
      have hP : (w2.alloc X).heap[w2.heap.size]? = some (.cells #[.int .i64 t.B, .int .i64 t.L, .int .i64 t.D] 30 (0, 0)) := by
        rw [heap_alloc_new, ← hX]; rfl
      have hzz : w2.heap.size < (w2.alloc X).heap.size := by simp
      have hX2 : (w2.alloc (.cells #[.int .i64 t.B, .int .i64 t.L, .int .i64 t.D] 30)) = w2.alloc X := by rw [← hX]; rfl
      rw [show tokC t = #[.int .i64 t.B, .int .i64 t.L, .int .i64 t.D] from rfl]
      obtain ⟨P, hPe⟩ : ∃ P, w2.heap.size = P := ⟨_, rfl⟩
      have hne : (Value.slice a N cap).ownBlock ≠ some P := fun e => by
        have := (O2.lt P e).2
        omega
      rw [hPe] at hP hzz
      clear hb2 B2 O2 HO HB hgood hfull hWd g3 g4 HCH hX hch2
      generalize w2.alloc X = W3 at *
      have p1 : W3.cell? ⟨P, 1, none⟩ = some (.int .i64 t.L) := by rw [cell_of_row _ _ 1 _ _ _ hP]; rfl
      have p0 : W3.cell? ⟨P, 0, none⟩ = some (.int .i64 t.B) := by rw [cell_of_row _ _ 0 _ _ _ hP]; rfl
      have p2 : W3.cell? ⟨P, 2, none⟩ = some (.int .i64 t.D) := by rw [cell_of_row _ _ 2 _ _ _ hP]; rfl
      have STEP : ∀ v4 w4, w4.ownsRow 0 30 3 v4 (N + 1) (cellsT l ++ cellsT [t]) → (W3.alloc (.cells #[.int .i64 t.B, .int .i64 t.L, .int .i64 t.D] 30)).grownBy w4 (Value.slice a N cap).ownBlock → Near (W3.alloc (.cells #[.int .i64 t.B, .int .i64 t.L, .int .i64 t.D] 30)) (.slice a N cap) v4 →
          w4.ownsRow 0 30 3 v4 (l ++ [t]).length (cellsT (l ++ [t])) ∧ (∀ j, v4.ownBlock = some j → w1.heap.size ≤ j) ∧ Below w1.heap.size w1 w4 := fun v4 w4 o4 g4 n4 =>
        ⟨by rw [cellsT_append, List.length_append, hN]; exact o4, fun j hj => by
          rcases n4 j hj with h | h
          · exact HV.out j h
          · have := B3.size; simp at h; omega, (B3.alloc B3.size _).grown g4 (by have := B3.size; simp; omega) HV.out⟩
      have ST := Lib.hid STEP
      have HO3 := Lib.hid O3
      clear O3
      have C4 : ∀ w4, (W3.alloc (.cells #[.int .i64 t.B, .int .i64 t.L, .int .i64 t.D] 30)).grownBy w4 (Value.slice a N cap).ownBlock → w4.cell? ⟨P, 1, none⟩ = some (.int .i64 t.L) := fun w4 g4 => by
        refine (World.cell?_of_block (a := ⟨P, 1, none⟩) (g4.block P (by simp; omega) (fun e => hne e.symm))).trans ?_
        exact (((Below.refl W3.heap.size W3).alloc (Nat.le_refl _) _).cell (p := ⟨P, 1, none⟩) hzz).trans p1
      have CC4 := Lib.hid C4
      have hNb : N ≤ 1000000 := by omega
      clear STEP C4 B3 HV hlp hne
      go_wp2_with (at_builtin; refine wpList_append_near _ rfl (.tmp 29) (.tmp 31) 22 rfl 30 i0 (.agg #[.int .i64 0, .int .i64 0, .int .i64 0]) 3 24 Try.underlying22 hi hz0 hz1 hz2 rfl (by decide) (.slice a N cap) N (cellsT l) rfl (HO3.out.alloc _) ⟨W3.heap.size, 0, none⟩ 1 1 (cellsT [t]) rfl rfl (litT _ _ _) (cellsT_one _) (by unfold maxLen; omega) (by omega) ?_; intro v4 w4 o4 g4 n4; have c4 := CC4.out w4 g4; have S4 := Lib.hid (ST.out v4 w4 o4 g4 n4); clear o4 g4 n4)
      exact ⟨⟨p + W, l ++ [t], g2, by go_num, HCH2.out, S4.out.1, S4.out.2.1, S4.out.2.2⟩, by simp [intOf]; omega⟩
    · obtain rfl : p = T.size := by omega
      clear CLG
      have HT := Lib.hid (toks_of_row rfl HO.out)
      have HF := Lib.hid (HB1.out.trans (HB.out.mono hW1))
      have hl1 : l.length ≤ 1000000 := by omega
      clear HO HV HB HB1
      obtain ⟨N, hN⟩ : ∃ N, l.length = N := ⟨_, rfl⟩
      rw [hN]
      have HN := Lib.hid hN
      go_wp2_with fail
      go_ret
      exact ⟨a, cap, l, by rw [HN.out]; rfl, HT.out, HF.out, hl1, HCH.out⟩

end Go.Proofs.Ytlafenookbdhoaa.Lz
