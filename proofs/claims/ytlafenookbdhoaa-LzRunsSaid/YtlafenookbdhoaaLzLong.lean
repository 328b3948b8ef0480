/-
  Contract of lz.longer.
-/
import Derived.Test.YtlafenookbdhoaaLzBase
namespace Go.Proofs.Ytlafenookbdhoaa.Lz
open Go.ChangeShapes Go.WideShapes Go.ChangeAt Go.RowKit
set_option linter.unusedVariables false

theorem grown_near {a b c : World} {v v1 : Value} (h : a.grownBy b v.ownBlock) (n : Near a v v1) (k : b.grownBy c v1.ownBlock) : a.grownBy c v.ownBlock := by
  refine ⟨k.os.trans h.os, k.tape.trans h.tape, k.output.trans h.output, Nat.le_trans h.size k.size, fun i hi hv => ?_⟩
  refine (k.block i (Nat.lt_of_lt_of_le hi h.size) fun e => ?_).trans (h.block i hi hv)
  rcases n i e.symm with h1 | h1
  · exact hv h1.symm
  · omega

/-- A row is another block than one of another type. -/
theorem own_ne {w : World} {B size n P : Nat} {e T : TypeId} {v : Value} {xs : List Value} {cs : Array Value} (h : w.ownsRow B e size v n xs) (hP : w.heap[P]? = some (.cells cs T (0, 0))) (hT : T ≠ e) : v.ownBlock ≠ some P := by
  intro h1
  rcases h.2 with ⟨rfl, _⟩ | ⟨g, cap, cur, rfl, _, hg, _⟩
  · simp [Value.ownBlock] at h1
  · simp only [Value.ownBlock, Option.some.injEq] at h1
    subst h1
    rw [hP] at hg
    simp only [Option.some.injEq, Obj.cells.injEq] at hg
    exact hT hg.2.1

theorem cellsU_length (l : List UInt8) : (cellsU l).length = l.length := by simp [cellsU]
theorem cellsU_append (l m : List UInt8) : cellsU (l ++ m) = cellsU l ++ cellsU m := by simp [cellsU]
theorem cellsU_one (l : List UInt8) : ∀ u ∈ cellsU l, u.oneCell' = true := by
  intro u hu
  obtain ⟨x, _, rfl⟩ := List.mem_map.1 hu
  rfl
theorem litU (w : World) (x : UInt8) (T : TypeId) : ∀ j u, (cellsU [x])[j]? = some u → (w.alloc (.cells #[.int .u8 x.toNat] T)).cell? ((⟨w.heap.size, 0, none⟩ : Addr).add j) = some u := by
  intro j u h
  match j, h with
  | 0, h =>
    simp [cellsU] at h
    subst h
    rw [Oct.addr_add, cell_of_row _ _ 0 _ _ _ (heap_alloc_new _ _)]; rfl
  | j + 1, h => simp [cellsU] at h

/-- One byte more behind the window and what was made. -/
theorem more_made {win bs : List UInt8} {all : List UInt8} {D k : Nat} (h : win ++ bs = cp all D k) (hD : 1 ≤ D) :
    (D ≤ bs.length → win ++ (bs ++ [bs.getD (bs.length - D) 0]) = cp all D (k + 1)) ∧ (bs.length < D → D ≤ win.length + bs.length → win ++ (bs ++ [win.getD (win.length + bs.length - D) 0]) = cp all D (k + 1)) := by
  rw [cp, ← h, List.length_append]
  refine ⟨fun h1 => ?_, fun h1 h2 => ?_⟩
  · have e : (win ++ bs).getD (win.length + bs.length - D) 0 = bs.getD (bs.length - D) 0 := by
      simp only [List.getD_eq_getElem?_getD]
      rw [List.getElem?_append_right (by omega), show win.length + bs.length - D - win.length = bs.length - D by omega]
    rw [e, List.append_assoc]
  · have e : (win ++ bs).getD (win.length + bs.length - D) 0 = win.getD (win.length + bs.length - D) 0 := by
      simp only [List.getD_eq_getElem?_getD]
      rw [List.getElem?_append_left (by omega)]
    rw [e, List.append_assoc]

set_option maxRecDepth 10000 in
set_option maxHeartbeats 1000000 in
theorem longer_any (win : ByteArray) (v : Value) (bs : List UInt8) (z : Int) (L D : Nat) (w : World) (hown : w.ownsRow 0 5 1 v bs.length (cellsU bs)) (h1 : 1 ≤ D) (h2 : D ≤ win.size + bs.length) (hL : L ≤ 258)
    (hs : win.size ≤ 1000000000) (hb : bs.length ≤ 1000000000) :
    Calls Try.prog 20 #[.string win, v, .agg #[.int .i64 z, .int .i64 L, .int .i64 D]] w fun e w' => ∃ v' bs', e = .returned v' ∧ win.data.toList ++ bs' = cp (win.data.toList ++ bs) D L ∧
      w'.ownsRow 0 5 1 v' bs'.length (cellsU bs') ∧ w.grownBy w' v.ownBlock ∧ Near w v v' := by
  obtain ⟨i0, hi, hz0, hz1, hz2⟩ := info_parts info_u8
  have HO := Lib.hid hown
  clear hown
  go_enter Try.func20, Try.ntmps20
  go_wp2_with fail
  go_loopw [1, 9] (fun x i wr => ∃ (k : Nat) (bk : List UInt8), k ≤ L ∧ bk.length = bs.length + k ∧ i = .int .i64 k ∧ win.data.toList ++ bk = cp (win.data.toList ++ bs) D k ∧ wr.ownsRow 0 5 1 x bk.length (cellsU bk) ∧
      wr.heap[w.heap.size]? = some (.cells #[.int .i64 z, .int .i64 L, .int .i64 D] 30 (0, 0)) ∧ w.grownBy wr v.ownBlock ∧ Near w v x) (fun _ i _ => L - (intOf i).toNat)
  case atStart =>
    exact ⟨0, bs, Nat.zero_le _, rfl, rfl, rfl, HO.out.alloc _, heap_alloc_new _ _, World.grownBy_alloc _ _ _, Near.refl _ _⟩
  case round =>
    obtain ⟨k, bk, hk, hlen, rfl, hcp, ho, hP, hg, hn⟩ := hrel
    clear HO
    have KEEP : Hid (∀ (x : UInt8) bk' v' w', win.data.toList ++ bk' = cp (win.data.toList ++ bs) D (k + 1) → bk' = bk ++ [x] → w'.ownsRow 0 5 1 v' (bk.length + 1) (cellsU bk ++ cellsU [x]) → (wr.alloc (.cells #[.int .u8 x.toNat] 5)).grownBy w' u1.ownBlock →
        Near (wr.alloc (.cells #[.int .u8 x.toNat] 5)) u1 v' → bk'.length = bs.length + (k + 1) ∧ win.data.toList ++ bk' = cp (win.data.toList ++ bs) D (k + 1) ∧ w'.ownsRow 0 5 1 v' bk'.length (cellsU bk') ∧
      w'.heap[w.heap.size]? = some (.cells #[.int .i64 z, .int .i64 L, .int .i64 D] 30 (0, 0)) ∧ w.grownBy w' v.ownBlock ∧ Near w v v') := by
      refine Lib.hid fun x bk' v' w' q1 q2 q3 q4 q5 => ?_
      have g0 : wr.grownBy (wr.alloc (.cells #[.int .u8 x.toNat] 5)) u1.ownBlock := World.grownBy_alloc _ _ _
      have g1 : wr.grownBy w' u1.ownBlock := g0.trans q4
      refine ⟨by rw [q2, List.length_append, hlen]; simp; omega, q1, ?_, ?_, grown_near hg hn g1, hn.trans (fun j hj => ?_) hg.size⟩
      · rw [q2, List.length_append, cellsU_append]; exact q3
      · rw [g1.block _ (Array.getElem?_eq_some_iff.1 hP).1 (fun e => own_ne ho hP (by decide) e.symm)]; exact hP
      · rcases q5 j hj with h | h
        · exact .inl h
        · have := g0.size; exact .inr (by omega)
    have hM := Lib.hid (more_made hcp h1)
    have HO := Lib.hid ho
    have HG := Lib.hid hg
    have HN := Lib.hid hn
    have HC := Lib.hid hcp
    have c1 : wr.cell? ⟨w.heap.size, 1, none⟩ = some (.int .i64 L) := by rw [cell_of_row _ _ 1 _ _ _ hP]; rfl
    have c2 : wr.cell? ⟨w.heap.size, 2, none⟩ = some (.int .i64 D) := by rw [cell_of_row _ _ 2 _ _ _ hP]; rfl
    clear hP hg hn hcp
    by_cases hlt : k < L
    · by_cases hd : D ≤ bk.length
      · obtain ⟨g, cap, rfl⟩ := own_form ho (by omega)
        obtain ⟨m, hm⟩ : ∃ m : Nat, bk.length - D = m := ⟨_, rfl⟩
        have hmb : m < bk.length := by omega
        have hx := hM.out.1 hd
        rw [hm] at hx
        have hcl : wr.cell? ⟨g, m, none⟩ = some (.int .u8 ((bk.getD m 0).toNat : Nat)) := by
          rw [ho.cellAt m (by omega)]
          simp [cellsU, List.getD_eq_getElem?_getD, hmb]
        generalize bk.getD m 0 = x at *
        generalize hN : bk.length = N at *
        have hi1 : (N : Int) - (D : Int) = (m : Int) := by omega
        have hNb : N ≤ 1000000258 := by omega
        clear ho hm hM h2 hlen
        have HX := Lib.hid hx
        clear hx
        clear hN
        go_wp2_with (at_builtin; refine wpList_append_near _ rfl (.tmp 16) (.tmp 25) 36 rfl 5 i0 (.int .u8 0) 1 1 Try.underlying36 hi hz0 hz1 hz2 rfl (by decide) (.slice (some ⟨g, 0, none⟩) N cap) N (cellsU bk) rfl (HO.out.alloc _) ⟨wr.heap.size, 0, none⟩ 1 1 (cellsU [x]) rfl rfl (litU _ _ _) (cellsU_one _) (by unfold maxLen; omega) (by omega) ?_; intro v3 w3 o3 g3 n3)
        have hh := KEEP.out x _ v3 w3 HX.out rfl o3 g3 n3
        have HH := Lib.hid hh
        clear o3 g3 n3 hh KEEP
        go_wp2_with fail
        exact ⟨⟨k + 1, _, by omega, HH.out.1, by go_num, HH.out.2⟩, by simp [intOf]; omega⟩
      · obtain ⟨m, hm⟩ : ∃ m : Nat, win.size + bk.length - D = m := ⟨_, rfl⟩
        have hmb : m < win.size := by omega
        have hx := hM.out.2 (by omega) (by show D ≤ win.data.toList.length + _; simp; omega)
        have ew : win.data.toList.length = win.size := by simp
        rw [ew, hm] at hx
        have ex : win.data.toList.getD m 0 = win[m] := by
          simp [List.getD_eq_getElem?_getD, hmb]; rfl
        rw [ex] at hx
        have hf : ∃ a c, u1 = .slice a bk.length c := by
          rcases ho.2 with ⟨e, h0⟩ | ⟨g, cap, cur, e, _⟩
          · exact ⟨none, 0, by rw [e, h0]⟩
          · exact ⟨_, cap, e⟩
        obtain ⟨ga, gc, rfl⟩ := hf
        generalize hN : bk.length = N at *
        have hi1 : (win.size : Int) + (N : Int) - (D : Int) = (m : Int) := by omega
        have hNb : N ≤ 1000000258 := by omega
        clear ho hm hM h2 hlen ex
        have HX := Lib.hid hx
        clear hx
        clear hN
        go_wp2_with (at_builtin; refine wpList_append_near _ rfl (.tmp 27) (.tmp 38) 36 rfl 5 i0 (.int .u8 0) 1 1 Try.underlying36 hi hz0 hz1 hz2 rfl (by decide) (.slice ga N gc) N (cellsU bk) rfl (HO.out.alloc _) ⟨wr.heap.size, 0, none⟩ 1 1 (cellsU [win[m]]) rfl rfl (litU _ _ _) (cellsU_one _) (by unfold maxLen; omega) (by omega) ?_; intro v3 w3 o3 g3 n3)
        have hh := KEEP.out win[m] _ v3 w3 HX.out rfl o3 g3 n3
        have HH := Lib.hid hh
        clear o3 g3 n3 hh KEEP
        go_wp2_with fail
        exact ⟨⟨k + 1, _, by omega, HH.out.1, by go_num, HH.out.2⟩, by simp [intOf]; omega⟩
    · obtain rfl : k = L := by omega
      clear ho hM KEEP
      go_wp2_with fail
      go_ret
      exact ⟨_, bk, rfl, HC.out, HO.out, HG.out, HN.out⟩

end Go.Proofs.Ytlafenookbdhoaa.Lz
