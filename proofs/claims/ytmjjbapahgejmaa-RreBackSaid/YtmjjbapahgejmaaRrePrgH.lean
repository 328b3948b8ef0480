/-
  The program of layer 17 (rre): the next rectangle.
-/
import Derived.Test.YtmjjbapahgejmaaRrePrgF
namespace Go.Proofs.Ytmjjbapahgejmaa.Rre
open Go.ChangeShapes Go.WideShapes Go.ChangeAt Go.RowKit Lz RowG RegVal Pln
open Go.Proofs.Ytmjjbapahgejmaa.Fmt (Fm FmAt size_any fget_any)
open Go.Proofs.Ytmjjbapahgejmaa.Oct (CurAt grown_trans grown_drew grown_of_below below_of_grown byS byI byE intV numI numE sizeB valL valL_bd keepE intV_bd int_any)
set_option linter.unusedVariables false
set_option linter.unusedSimpArgs false
set_option maxRecDepth 100000

/-- What has been read of a rectangle's four numbers. -/
structure Rd (t : ByteArray) (i e : Int) (k : Nat) (i' e' : Int) (xs : List Int) : Prop where
  len : xs.length = 4
  lo : 0 ≤ i'
  hi : i' ≤ t.size
  bad : e ≠ 0 → e' = e
  ok : e = 0 → i + 8 ≤ t.size → e' = 0 ∧ i' = i + 2 * k ∧ ∀ j, j < k → px xs j = (twoN t (i.toNat + 2 * j) : Nat)
  few : e = 0 → (t.size : Int) < i + 8 → (e' = 0 ∧ i' = i + 2 * k) ∨ e' = 2
  num : ∀ j, j < 4 → 0 ≤ px xs j ∧ px xs j < 65536
theorem Rd.start {t : ByteArray} {i e : Int} (h0 : 0 ≤ i) (h1 : i ≤ t.size) : Rd t i e 0 i e [0, 0, 0, 0] :=
  ⟨rfl, h0, h1, fun _ => rfl, fun h _ => ⟨h, by simp, fun j hj => by omega⟩, fun h _ => .inl ⟨h, by simp⟩, fun j hj => by
    obtain rfl | rfl | rfl | rfl : j = 0 ∨ j = 1 ∨ j = 2 ∨ j = 3 := by omega
    all_goals exact ⟨by decide, by decide⟩⟩
theorem px_set {l : List Int} {k j : Nat} {v : Int} (h : k < l.length) : px (l.set k v) j = if k = j then v else px l j := by
  unfold px
  rw [List.getD_eq_getElem?_getD, List.getElem?_set]
  split
  · first | rfl | (rw [if_pos (by omega)]; rfl)
  · rw [List.getD_eq_getElem?_getD]
theorem two_facts (t : ByteArray) (i e : Int) (h0 : 0 ≤ i) (h1 : i ≤ t.size) : numE t i e 2 = byE t i e 2 ∧ numI t i e 2 = byI t i e 2 ∧ 0 ≤ intV t i e 2 ∧ intV t i e 2 < 65536 ∧ (byE t i e 2 = 0 → intV t i e 2 = (twoN t i.toNat : Nat)) := by
  have hs : sizeB 2 = true := rfl
  have e1 : intV t i e 2 = valL (byS t i e 2).data.toList.reverse := by unfold intV; rw [hs]; rfl
  have hb := valL_bd (byS t i e 2).data.toList.reverse
  have hz : (byS t i e 2).data.toList.reverse.length ≤ 2 := by
    rw [List.length_reverse]
    have := (Oct.intsz t i e 2 h0 h1).2.2
    have h3 : (byS t i e 2).data.toList.length = (byS t i e 2).size := by simp
    rw [h3, this]
    split
    · decide
    · decide
  have hp : (2 : Int) ^ (8 * (byS t i e 2).data.toList.reverse.length) ≤ 65536 := by
    obtain h | h | h : (byS t i e 2).data.toList.reverse.length = 0 ∨ (byS t i e 2).data.toList.reverse.length = 1 ∨ (byS t i e 2).data.toList.reverse.length = 2 := by omega
    all_goals rw [h]; decide
  refine ⟨by unfold numE; rw [hs]; rfl, by unfold numI; rw [hs]; rfl, by rw [e1]; exact hb.1, by rw [e1]; omega, fun h => ?_⟩
  have h5 : byS t i e 2 = t.extract i.toNat (i.toNat + 2) := by
    unfold byS
    rw [if_pos h, show (i + 2).toNat = i.toNat + 2 by omega]
  rw [h5] at e1 hb
  rw [e1]
  unfold twoN
  omega
theorem Rd.step {t : ByteArray} {i e i' e' : Int} {k : Nat} {xs : List Int} (h : Rd t i e k i' e' xs) (hi : 0 ≤ i) (hk : k < 4) : Rd t i e (k + 1) (numI t i' e' 2) (numE t i' e' 2) (xs.set k (intV t i' e' 2)) := by
  obtain ⟨q1, q2, q3, q4, q5⟩ := two_facts t i' e' h.lo h.hi
  obtain ⟨z0, z1, _⟩ := Oct.intsz t i' e' 2 h.lo h.hi
  rw [q1, q2]
  generalize intV t i' e' 2 = v at *
  have hl := h.len
  refine ⟨by rw [List.length_set]; exact h.len, z0, z1, fun he => ?_, fun he hs => ?_, fun he hs => ?_, fun j hj => ?_⟩
  · have := h.bad he
    subst this
    unfold byE
    rw [if_neg he]
  · obtain ⟨h1, h2, h3⟩ := h.ok he hs
    have hE : byE t i' e' 2 = 0 := by
      unfold byE
      rw [if_pos h1, if_neg (by decide), if_neg (by omega)]
    refine ⟨hE, ?_, fun j hj => ?_⟩
    · unfold byI
      rw [if_pos hE, h2]
      omega
    · rw [px_set (by omega)]
      split
      · rename_i hkj
        rw [q5 hE, ← hkj, h2]
        congr 2
        omega
      · exact h3 j (by omega)
  · rcases h.few he hs with ⟨h1, h2⟩ | h1
    · by_cases hq : (t.size : Int) - i' < 2
      · right
        unfold byE
        rw [if_pos h1, if_neg (by decide), if_pos hq]
      · left
        have hE : byE t i' e' 2 = 0 := by
          unfold byE
          rw [if_pos h1, if_neg (by decide), if_neg hq]
        refine ⟨hE, ?_⟩
        unfold byI
        rw [if_pos hE, h2]
        omega
    · right
      unfold byE
      rw [if_neg (by omega), h1]
  · rw [px_set (by omega)]
    split
    · exact ⟨q3, q4⟩
    · exact h.num j hj
theorem grown_new {w W : World} {b g o : Nat} {v : Value} (h : w.grownBy W (some b)) (hg : w.heap.size ≤ g) : w.grownBy (W.setCell ⟨g, o, none⟩ v) (some b) :=
  ⟨h.os, h.tape, h.output, by have := h.size; simpa [World.setCell] using this, fun i hi hn => by rw [setOther (by omega)]; exact h.block i hi hn⟩
set_option maxHeartbeats 4000000 in
theorem readRect_any (b : Nat) (t : ByteArray) (i e : Int) (w : World) (h : CurAt 99 w b t i e) (h0 : 0 ≤ i) (h1 : i ≤ t.size) (ht : t.size ≤ 100000) :
    Calls Try.prog 72 #[.pointer (some ⟨b, 0, none⟩)] w fun r w' => ∃ i' e' x y n m, r = .returned (.agg #[.int .i64 x, .int .i64 y, .int .i64 n, .int .i64 m]) ∧ Rd t i e 4 i' e' [x, y, n, m] ∧ CurAt 99 w' b t i' e' ∧ w.grownBy w' (some b) := by
  have ST := Lib.hid (Rd.start (e := e) h0 h1)
  have SP := Lib.hid (fun k i' e' xs (h : Rd t i e k i' e' xs) hk => h.step h0 hk)
  have hlt := h.lt
  have n1 := heap_alloc_new w (.cells #[.int .i64 0, .int .i64 0, .int .i64 0, .int .i64 0] 29)
  have k1 := World.grownBy_alloc w (.cells #[.int .i64 0, .int .i64 0, .int .i64 0, .int .i64 0] 29) (some b)
  have C1 := Oct.CurAt.alloc h (.cells #[.int .i64 0, .int .i64 0, .int .i64 0, .int .i64 0] 29)
  have z1 := Pln.alloc_size w (.cells #[.int .i64 0, .int .i64 0, .int .i64 0, .int .i64 0] 29)
  obtain ⟨w1, hw1⟩ : ∃ w1, w.alloc (.cells #[.int .i64 0, .int .i64 0, .int .i64 0, .int .i64 0] 29) = w1 := ⟨_, rfl⟩
  rw [hw1] at n1 k1 C1 z1
  have n2 := heap_alloc_new w1 (.cells #[.int .i64 0, .int .i64 0, .int .i64 0, .int .i64 0] 71)
  have o2 : (w1.alloc (.cells #[.int .i64 0, .int .i64 0, .int .i64 0, .int .i64 0] 71)).heap[w.heap.size]? = some (.cells #[.int .i64 0, .int .i64 0, .int .i64 0, .int .i64 0] 29 (0, 0)) := by
    rw [Below.heap_alloc _ _ _ (by omega)]; exact n1
  have k2 := grown_trans k1 (World.grownBy_alloc w1 (.cells #[.int .i64 0, .int .i64 0, .int .i64 0, .int .i64 0] 71) (some b))
  have C2 := Oct.CurAt.alloc C1 (.cells #[.int .i64 0, .int .i64 0, .int .i64 0, .int .i64 0] 71)
  obtain ⟨w2, hw2⟩ : ∃ w2, w1.alloc (.cells #[.int .i64 0, .int .i64 0, .int .i64 0, .int .i64 0] 71) = w2 := ⟨_, rfl⟩
  rw [hw2] at n2 o2 k2 C2
  rw [z1] at n2
  have HN := Lib.hid n2
  have HO := Lib.hid o2
  have HK := Lib.hid k2
  have HC := Lib.hid C2
  clear n1 k1 C1 n2 o2 k2 C2 h
  go_enter Try.func72, Try.ntmps72
  go_wp2_with fail
  obtain ⟨B, hB⟩ : ∃ B, w.heap.size = B := ⟨_, rfl⟩
  rw [hB] at HN HO hlt ⊢
  have HBB := Lib.hid hB
  clear hw1 hw2 z1 hB
  go_loopw [5] (fun vi wr => ∃ (k : Nat) (i' e' : Int) (xs : List Int), k ≤ 4 ∧ vi = .int .i64 k ∧ Rd t i e k i' e' xs ∧ wr.heap[B + 1]? = some (.cells (ints xs).toArray 71 (0, 0)) ∧ wr.heap[B]? = some (.cells #[.int .i64 0, .int .i64 0, .int .i64 0, .int .i64 0] 29 (0, 0)) ∧ CurAt 99 wr b t i' e' ∧ w.grownBy wr (some b)) (fun vi _ => 4 - (intOf vi).toNat)
  case atStart => exact ⟨0, i, e, [0, 0, 0, 0], by decide, rfl, ST.out, HN.out, HO.out, HC.out, HK.out⟩
  case round =>
    obtain ⟨k, i', e', xs, hk, rfl, hR, hN, hO, hC, hK⟩ := hrel
    have HR := Lib.hid hR
    have HN := Lib.hid hN
    have HO := Lib.hid hO
    have HC := Lib.hid hC
    have HK := Lib.hid hK
    by_cases hlk : k < 4
    · have dk : decide ((k : Int) < 4) = true := decide_eq_true (by omega)
      have HS := Lib.hid (SP.out k i' e' xs hR hlk)
      have IA := Lib.hid (int_any b t i' e' 2 wr hC hR.lo hR.hi (by omega))
      have hlen := hR.len
      generalize intV t i' e' 2 = v at *
      generalize numI t i' e' 2 = I2 at *
      generalize numE t i' e' 2 = E2 at *
      clear hR hN hO hC hK
      go_wp2_with fail
      refine IA.out.mono ?_
      rintro r w3 ⟨rfl, hc3, hg3⟩
      have hbs : B ≤ wr.heap.size := by have := HK.out.size; rw [HBB.out] at this; exact this
      have n3 : w3.heap[B + 1]? = some (.cells (ints xs).toArray 71 (0, 0)) := by
        rw [hg3.block _ (Array.getElem?_eq_some_iff.1 HN.out).1 (by simp; omega)]; exact HN.out
      have o3 : w3.heap[B]? = some (.cells #[.int .i64 0, .int .i64 0, .int .i64 0, .int .i64 0] 29 (0, 0)) := by
        rw [hg3.block _ (Array.getElem?_eq_some_iff.1 HO.out).1 (by simp; omega)]; exact HO.out
      have ck := cellAt (o := k) n3 (by rw [List.getElem?_toArray]; exact ints_get (by omega : k < xs.length))
      have fk := frozenAt (o := k) n3
      have hs3 : (w3.setCell ⟨B + 1, k, none⟩ (.int .i64 v)).heap[B + 1]? = some (.cells (ints (xs.set k v)).toArray 71 (0, 0)) := setRowAt n3 (by rw [List.setIfInBounds_toArray, ints_set])
      have H3 := Lib.hid hs3
      have HC3 := Lib.hid (CurAt.kept hc3 (Oct.grown_set w3 (B + 1) k (.int .i64 v)) (by simp; omega))
      have HO3 := Lib.hid o3
      have HG3 := Lib.hid (grown_new (o := k) (v := .int .i64 v) (grown_trans HK.out hg3) (g := B + 1) (by rw [HBB.out]; omega))
      clear hc3 hg3 n3 o3 hs3 IA
      generalize xs[k]'(by omega) = xk at *
      go_wp2_with fail
      refine ⟨⟨k + 1, I2, E2, xs.set k v, by omega, by go_num, HS.out, H3.out, ?_, HC3.out, HG3.out⟩, by simp [intOf]; omega⟩
      rw [setOther (by omega)]; exact HO3.out
    · obtain rfl : k = 4 := by omega
      obtain ⟨x, y, n, m, rfl⟩ : ∃ x y n m, xs = [x, y, n, m] := by
        have := hR.len
        match xs, this with
        | [x, y, n, m], _ => exact ⟨x, y, n, m, rfl⟩
      have c0 : wr.cell? ⟨B + 1, 0, none⟩ = some (.int .i64 x) := cellAt (o := 0) hN rfl
      have c1 : wr.cell? ⟨B + 1, 1, none⟩ = some (.int .i64 y) := cellAt (o := 1) hN rfl
      have c2 : wr.cell? ⟨B + 1, 2, none⟩ = some (.int .i64 n) := cellAt (o := 2) hN rfl
      have c3 : wr.cell? ⟨B + 1, 3, none⟩ = some (.int .i64 m) := cellAt (o := 3) hN rfl
      have e0 := cellAt (o := 0) hO rfl
      have e1 := cellAt (o := 1) hO rfl
      have e2 := cellAt (o := 2) hO rfl
      have e3 := cellAt (o := 3) hO rfl
      have g0 := frozenAt (o := 0) hO
      have g1 := frozenAt (o := 1) hO
      have g2 := frozenAt (o := 2) hO
      have g3 := frozenAt (o := 3) hO
      have hs := setRowAt (i := 3) (v := .int .i64 m) (setRowAt (i := 2) (v := .int .i64 n) (setRowAt (i := 1) (v := .int .i64 y) (setRowAt (i := 0) (v := .int .i64 x) hO rfl) rfl) rfl) rfl
      have hw : w.heap.size ≤ B := by rw [HBB.out]; exact Nat.le_refl _
      have hK2 := grown_new (o := 3) (v := .int .i64 m) (grown_new (o := 2) (v := .int .i64 n) (grown_new (o := 1) (v := .int .i64 y) (grown_new (o := 0) (v := .int .i64 x) hK hw) hw) hw) hw
      have hC2 := CurAt.kept (CurAt.kept (CurAt.kept (CurAt.kept hC (Oct.grown_set wr B 0 (.int .i64 x)) (by simp; omega)) (Oct.grown_set _ B 1 (.int .i64 y)) (by simp; omega)) (Oct.grown_set _ B 2 (.int .i64 n)) (by simp; omega)) (Oct.grown_set _ B 3 (.int .i64 m)) (by simp; omega)
      have HS := Lib.hid hs
      have HK2 := Lib.hid hK2
      have HC2 := Lib.hid hC2
      clear hR hN hO hC hK hs hK2 hC2
      go_wp2_with fail
      refine bodyPost_ret (Ret.ret_cell rfl _ _ B 29 _ (0, 0) _ rfl HS.out Try.underlying29 rfl (by kernel_rfl)) rfl ⟨i', e', x, y, n, m, rfl, HR.out, HC2.out, HK2.out⟩
end Go.Proofs.Ytmjjbapahgejmaa.Rre
