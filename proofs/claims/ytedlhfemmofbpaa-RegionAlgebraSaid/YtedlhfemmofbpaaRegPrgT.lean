/-
  The program's shift, over what Make answers.
-/
import Derived.Test.YtedlhfemmofbpaaRegPrgS
import Derived.Test.YtedlhfemmofbpaaRegSays
namespace Go.Proofs.Ytedlhfemmofbpaa.Reg
open Go.ChangeShapes Go.WideShapes Go.ChangeAt Go.RowKit Go.Shelf Lz RowG RegVal OwnL
set_option linter.unusedVariables false
set_option linter.unusedSimpArgs false
set_option maxRecDepth 100000

theorem cellsR_set2 (l : List Rc) : ∀ i (h : i < l.length) (X Y : Int), ((cellsR l).set (i * 4) (.int .i64 X)).set (i * 4 + 1) (.int .i64 Y) = cellsR (l.set i ⟨X, Y, l[i].w, l[i].h⟩) := by
  induction l with
  | nil => intro i h; exact absurd h (by simp)
  | cons s t ih =>
    intro i h X Y
    cases i with
    | zero => simp [cellsR]
    | succ i =>
      have := ih i (by simp only [List.length_cons] at h; omega) X Y
      simp only [cellsR, List.set_cons_succ, List.getElem_cons_succ] at *
      rw [← this, show (i + 1) * 4 = i * 4 + 4 by omega]
      simp
/-- A rectangle's place is written over. -/
theorem RectsAt.put2 {B g cap n : Nat} {w : World} {l : List Rc} (hn : l.length = n) (h : RectsAt B w (.slice (some ⟨g, 0, none⟩) n cap) l) {i : Nat} (hi : i < l.length) {r : Rc} (hr : l[i] = r) (X Y : Int) : RectsAt B ((w.setCell ⟨g, i * 4, none⟩ (.int .i64 X)).setCell ⟨g, i * 4 + 1, none⟩ (.int .i64 Y)) (.slice (some ⟨g, 0, none⟩) n cap) (l.set i ⟨X, Y, r.w, r.h⟩) := by
  subst hn
  subst hr
  have h1 := RowG.RowAt.setCell h (j := i * 4) (by omega) (u := .int .i64 X) rfl
  have h2 := RowG.RowAt.setCell h1 (j := i * 4 + 1) (by omega) (u := .int .i64 Y) rfl
  rw [cellsR_set2 l i hi] at h2
  unfold RectsAt
  rw [List.length_set]
  exact h2
theorem RectsAt.put1c {B g cap n : Nat} {w : World} {l : List Rc} (hn : l.length = n) (h : RectsAt B w (.slice (some ⟨g, 0, none⟩) n cap) l) {i : Nat} (hi : i < l.length) (X : Int) : (w.setCell ⟨g, i * 4, none⟩ (.int .i64 X)).cell? ⟨g, i * 4 + 1, none⟩ = some (.int .i64 l[i].y) ∧ (w.setCell ⟨g, i * 4, none⟩ (.int .i64 X)).frozen? ⟨g, i * 4 + 1, none⟩ = false := by
  subst hn
  have h1 := RowG.RowAt.setCell h (j := i * 4) (by omega) (u := .int .i64 X) rfl
  have hb := RowG.RowAt.block h1
  obtain ⟨g0, g1, g2, g3⟩ := cellsR_get l i hi
  exact ⟨hb.2.2.1 _ _ (by rw [List.getElem?_set_ne (by omega)]; exact g1), hb.2.2.2 _⟩
/-- The first k rectangles are moved. -/
def movedTo (dx dy : Int) (L : List Rc) (k : Nat) : List Rc := (L.take k).map (moved dx dy) ++ L.drop k
theorem movedTo_len (dx dy : Int) (L : List Rc) (k : Nat) : (movedTo dx dy L k).length = L.length := by
  unfold movedTo
  rw [List.length_append, List.length_map, List.length_take, List.length_drop]
  omega
theorem movedTo_get (dx dy : Int) (L : List Rc) (k : Nat) (h : k < L.length) (h2 : k < (movedTo dx dy L k).length) : (movedTo dx dy L k)[k] = L[k] := by
  have e : (movedTo dx dy L k)[k]? = L[k]? := by
    unfold movedTo
    rw [List.getElem?_append_right (by simp; omega)]
    simp only [List.length_map, List.length_take, List.getElem?_drop]
    congr 1
    omega
  rw [List.getElem?_eq_getElem h2, List.getElem?_eq_getElem h] at e
  exact Option.some.inj e
theorem movedTo_succ (dx dy : Int) (L : List Rc) (k : Nat) (h : k < L.length) : (movedTo dx dy L k).set k (moved dx dy L[k]) = movedTo dx dy L (k + 1) := by
  unfold movedTo
  rw [List.take_succ_eq_append_getElem h, List.map_append, List.append_assoc, List.drop_eq_getElem_cons h, List.set_append_right _ _ (by simp; omega)]
  simp only [List.length_map, List.length_take, List.map_cons, List.map_nil, List.singleton_append]
  rw [show k - min k L.length = 0 by omega]
  rfl
theorem movedTo_all (dx dy : Int) (L : List Rc) (k : Nat) (h : L.length = k) : movedTo dx dy L k = L.map (moved dx dy) := by
  subst h
  unfold movedTo
  rw [List.take_of_length_le (Nat.le_refl _), List.drop_of_length_le (Nat.le_refl _), List.append_nil]
theorem movedTo_zero (dx dy : Int) (L : List Rc) : movedTo dx dy L 0 = L := rfl
theorem farB_false {n : Int} (h : farB n = false) : ¬ (n < -2097152 ∨ 2097152 < n) := by
  unfold farB at h
  exact of_decide_eq_false h
theorem farB_true {n : Int} (h : farB n = true) : n < -2097152 ∨ 2097152 < n := by
  unfold farB at h
  exact of_decide_eq_true h
set_option maxHeartbeats 8000000 in
theorem shift_any (MK : MakeSays) (a : List Rc) (va : Value) (dx dy : Int) (w : World) (hn : a.length ≤ 5000) (hm : (make a).length ≤ 5000) (hw : WFs a) (ha : SeesR w va a) :
    Calls Try.prog 17 #[va, .int .i64 dx, .int .i64 dy] w fun e w' => ∃ u, e = .returned u ∧ SeesR w' u (shiftL a dx dy) ∧ Below w.heap.size w w' := by
  have C := Lib.hid (MK a va w hn hw ha)
  have hform : IsB (comb fOr a []) := comb_form rfl a []
  have NEAR : RowKit.Hid (∀ r ∈ make a, counts r = true) := Lib.hid (fun r hr => hform.counts r hr)
  have HSH : RowKit.Hid (shiftL a dx dy = if dx < -2097152 ∨ 2097152 < dx ∨ dy < -2097152 ∨ 2097152 < dy then [] else make ((make a).map (moved dx dy))) := Lib.hid rfl
  generalize shiftL a dx dy = RES at *
  obtain ⟨aa, ca, rfl, _, _⟩ := ha
  generalize make a = L at *
  obtain ⟨N0, hN0⟩ : ∃ N0, a.length = N0 := ⟨_, rfl⟩
  rw [hN0] at C ⊢
  have FX := Lib.hid (fun W => isTooMuch_any dx W)
  have FY := Lib.hid (fun W => isTooMuch_any dy W)
  clear hform hw hn
  cases hdx : farB dx with
  | true =>
    have hres : RES = [] := by rw [HSH.out, if_pos]; have := farB_true hdx; omega
    subst hres
    rw [hdx] at FX
    clear C HSH NEAR FY hm hdx
    go_enter Try.func17, Try.ntmps17
    go_wp2_with fail
    refine (FX.out _).mono ?_
    rintro r w1 ⟨rfl, rfl⟩
    go_wp2_with fail
    go_ret
    exact ⟨_, rfl, SeesR.nil _, Below.refl _ _⟩
  | false =>
    cases hdy : farB dy with
    | true =>
      have hres : RES = [] := by rw [HSH.out, if_pos]; have := farB_true hdy; omega
      subst hres
      rw [hdx] at FX
      rw [hdy] at FY
      clear C HSH NEAR hm hdx hdy
      go_enter Try.func17, Try.ntmps17
      go_wp2_with fail
      refine (FX.out _).mono ?_
      rintro r w1 ⟨rfl, rfl⟩
      go_wp2_with fail
      refine (FY.out _).mono ?_
      rintro r w1 ⟨rfl, rfl⟩
      go_wp2_with fail
      go_ret
      exact ⟨_, rfl, SeesR.nil _, Below.refl _ _⟩
    | false =>
      have bx := farB_false hdx
      have bY := farB_false hdy
      have hres : RES = make (L.map (moved dx dy)) := by rw [HSH.out, if_neg]; omega
      subst hres
      rw [hdx] at FX
      rw [hdy] at FY
      have C2 : RowKit.Hid (∀ v W, SeesR W v (L.map (moved dx dy)) → Calls Try.prog 12 #[v] W fun e w' => ∃ u, e = .returned u ∧ RectsAt W.heap.size w' u (make (L.map (moved dx dy))) ∧ Below W.heap.size W w') := Lib.hid (fun v W h => MK _ v W (by simpa using hm) (fun r hr => by
        obtain ⟨r', hr', rfl⟩ := List.mem_map.1 hr
        have c := counts_iff.1 (NEAR.out r' hr')
        exact ⟨bd_wf (by simp only [moved]; omega) (by simp only [moved]; omega), bd_wf (by simp only [moved]; omega) (by simp only [moved]; omega), bd_wf (by simp only [moved]; omega) (by simp only [moved]; omega), bd_wf (by simp only [moved]; omega) (by simp only [moved]; omega)⟩) h)
      generalize make (L.map (moved dx dy)) = RES at *
      clear HSH hdx hdy MK
      go_enter Try.func17, Try.ntmps17
      go_wp2_with fail
      refine (FX.out _).mono ?_
      rintro r w1 ⟨rfl, rfl⟩
      go_wp2_with fail
      refine (FY.out _).mono ?_
      rintro r w1 ⟨rfl, rfl⟩
      go_wp2_with fail
      refine C.out.mono ?_
      rintro r w1 ⟨u, rfl, h1, b1⟩
      obtain ⟨n, hn'⟩ : ∃ n, L.length = n := ⟨_, rfl⟩
      have HN := Lib.hid hn'
      obtain ⟨p, c, rfl⟩ := RowAt.shape h1
      rw [hn'] at hm h1 ⊢
      have B1 := Lib.hid b1
      have H1 := Lib.hid h1
      clear h1 b1 C hn' FX FY
      go_wp2_with fail
      go_loopw [8, 19] (fun _ i wr => ∃ k : Nat, k ≤ n ∧ i = .int .i64 k ∧ RectsAt w.heap.size wr (.slice p n c) (movedTo dx dy L k) ∧ Below w.heap.size w wr) (fun _ i _ => n - (intOf i).toNat)
      case atStart => exact ⟨0, Nat.zero_le _, rfl, H1.out, B1.out⟩
      case round =>
        obtain ⟨k, hk, rfl, hrow, hB⟩ := hrel
        by_cases hlt : k < n
        · obtain ⟨g, rfl⟩ : ∃ g, p = some ⟨g, 0, none⟩ := by
            rcases H1.out.1.2 with ⟨h5, _⟩ | ⟨g, cap', cur, h5, _⟩
            · simp only [Value.slice.injEq] at h5
              omega
            · simp only [Value.slice.injEq] at h5
              exact ⟨g, h5.1⟩
          have hkl : k < L.length := by rw [HN.out]; exact hlt
          have hml : (movedTo dx dy L k).length = n := (movedTo_len _ _ _ _).trans HN.out
          have hkm : k < (movedTo dx dy L k).length := by rw [hml]; exact hlt
          obtain ⟨r, hr⟩ : ∃ r, L[k] = r := ⟨_, rfl⟩
          have hget := (movedTo_get dx dy L k hkl hkm).trans hr
          have cc := counts_iff.1 (NEAR.out r (by rw [← hr]; exact List.getElem_mem _))
          obtain ⟨b1, b2, b3, b4, b5, b6⟩ := RectsAt.cells hml hrow
          obtain ⟨c0, c1, c2, c3⟩ := b4 k hkm
          rw [hget] at c0 c1
          have f0 := b5 (k * 4)
          have f1 := b5 (k * 4 + 1)
          obtain ⟨s1, s2⟩ := RectsAt.put1c hml hrow hkm (r.x + dx)
          rw [hget] at s1
          have HP : RowKit.Hid (RectsAt w.heap.size ((wr.setCell ⟨g, k * 4, none⟩ (.int .i64 (r.x + dx))).setCell ⟨g, k * 4 + 1, none⟩ (.int .i64 (r.y + dy))) (.slice (some ⟨g, 0, none⟩) n c) (movedTo dx dy L (k + 1))) := Lib.hid (by
            rw [← movedTo_succ dx dy L k hkl, hr]
            exact RectsAt.put2 hml hrow hkm hget _ _)
          have HBP : RowKit.Hid (Below w.heap.size w ((wr.setCell ⟨g, k * 4, none⟩ (.int .i64 (r.x + dx))).setCell ⟨g, k * 4 + 1, none⟩ (.int .i64 (r.y + dy)))) := Lib.hid (below_set1 (below_set1 hB b1 _ _) b1 _ _)
          obtain ⟨x, y, u, z⟩ := r
          simp only at c0 c1 s1 s2 HP HBP cc
          have wx : IntKind.i64.wrap (x + dx) = x + dx := IntWalk.i64_in _ (by omega)
          have wy : IntKind.i64.wrap (y + dy) = y + dy := IntWalk.i64_in _ (by omega)
          clear hrow hB b4 b5 b6 c2 c3 hr hget cc bx bY
          go_wp2_with fail
          exact ⟨⟨k + 1, by omega, by go_num, HP.out, HBP.out⟩, by simp [intOf]; omega⟩
        · obtain rfl : k = n := by omega
          have hsee := RectsAt.sees hrow
          rw [movedTo_all dx dy L k HN.out] at hsee
          have CC := Lib.hid (C2.out _ _ hsee)
          have HB := Lib.hid hB
          clear hsee hrow hB C2
          go_wp2_with fail
          refine CC.out.mono ?_
          rintro e w2 ⟨v, rfl, h2, b2⟩
          have H2 := Lib.hid (RectsAt.sees h2)
          have HB2 := Lib.hid (HB.out.trans (b2.mono HB.out.size))
          clear h2 b2 CC
          go_wp2_with fail
          go_ret
          exact ⟨_, rfl, H2.out, HB2.out⟩
end Go.Proofs.Ytedlhfemmofbpaa.Reg
