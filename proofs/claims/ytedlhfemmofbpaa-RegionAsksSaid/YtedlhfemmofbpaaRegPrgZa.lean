/-
  The program's rectangles of a set.
-/
import Derived.Test.YtedlhfemmofbpaaRegPrgZr
import Derived.Test.YtedlhfemmofbpaaRegPredI
namespace Go.Proofs.Ytedlhfemmofbpaa.Reg
open Go.ChangeShapes Go.WideShapes Go.ChangeAt Go.RowKit Go.Shelf Lz RowG RegVal OwnL
set_option linter.unusedVariables false
set_option linter.unusedSimpArgs false
set_option maxRecDepth 100000
attribute [local go_sem] Oper.semAt_some

/-- What stands when a row's rectangles are done. -/
structure RectI (V : Bnd) (m n0 : Nat) (w1 : World) (i : Nat) (Ds : List Nat) (W : World) : Prop where
  le : i ≤ m
  box : ∃ v, W.heap[n0 + 2]? = some (.cells #[v] 22 (0, 0)) ∧ RectsAt (n0 + 1) W v (recsTo V i)
  low : Below (n0 + 1) w1 W
  nd : Ds.Nodup
  mks : ∀ D ∈ Ds, n0 + 3 ≤ D ∧ W.heap[D]? = some (.deferred (some []))
/-- What stands when some of a row's rectangles are done. -/
structure RecJ (V : Bnd) (n0 q i M : Nat) (l : List Int) (w1 : World) (Ds : List Nat) (pre : List (Fin M)) (W : World) : Prop where
  box : ∃ v, W.heap[n0 + 2]? = some (.cells #[v] 22 (0, 0)) ∧ RectsAt (n0 + 1) W v (recsTo V i ++ pre.map fun x => recAt V i l x.1)
  low : Below (n0 + 1) w1 W
  sz : n0 + 1 ≤ W.heap.size
  own : W.heap[q]? = some (.cells #[.int .i64 (i : Int)] 3 (0, 0))
  k1 : ∃ cs, W.heap[q + 1]? = some (.cells cs 38 (0, 0))
  k2 : ∃ cs, W.heap[q + 2]? = some (.cells cs 3 (0, 0))
  mks : ∀ D ∈ Ds, W.heap[D]? = some (.deferred (some []))
theorem RecJ.turn {V : Bnd} {n0 q i M : Nat} {l : List Int} {w1 : World} {Ds : List Nat} {pre : List (Fin M)} {B : Nat} {W W' : World} (h : RecJ V n0 q i M l w1 Ds pre W) (t : Turn (mine 62) B W W') (h0 : n0 + 1 ≤ B) (hD : ∀ D ∈ Ds, D < B) : RecJ V n0 q i M l w1 Ds pre W' := by
  obtain ⟨v, hb, hr⟩ := h.box
  have key : ∀ (k : Nat) (cs : Array Value) (T : TypeId), T ≠ 62 → W.heap[k]? = some (.cells cs T (0, 0)) → W'.heap[k]? = some (.cells cs T (0, 0)) := fun k cs T hT hk => t.cells hk (fun hp => by
    rcases hp with h | ⟨_, _, h⟩
    · simp [noC, Obj.isCells] at h
    · cases h; exact hT rfl)
  refine ⟨⟨v, key _ _ _ (by decide) hb, RowAt.keep hr (fun k hk => ?_)⟩, h.low.trans (t.below h0 h.sz), Nat.le_trans h.sz t.size, key _ _ _ (by decide) h.own, (by obtain ⟨cs, e⟩ := h.k1; exact ⟨cs, key _ _ _ (by decide) e⟩), (by obtain ⟨cs, e⟩ := h.k2; exact ⟨cs, key _ _ _ (by decide) e⟩), fun D hd => ?_⟩
  · obtain ⟨_, cs, hc⟩ := own_type hr k hk
    rw [key _ _ _ (by decide) hc, hc]
  · rcases t.block D (Array.getElem?_eq_some_iff.1 (h.mks D hd)).1 with e | ⟨e, _⟩
    · exact e.trans (h.mks D hd)
    · exact absurd e (by have := hD D hd; omega)
theorem RecJ.more {V : Bnd} {n0 q i M : Nat} {l : List Int} {w1 : World} {Ds : List Nat} {pre : List (Fin M)} {x : Fin M} {Wb W' : World} {v : Value} {B : Nat} (h : RecJ V n0 q i M l w1 Ds pre Wb) (hq : n0 + 2 < q)
    (hbx : Wb.heap[n0 + 2]? = some (.cells #[v] 22 (0, 0))) (hv : RectsAt (n0 + 1) Wb v (recsTo V i ++ pre.map fun x => recAt V i l x.1))
    (t : Touch (fun k => v.ownBlock = some k ∨ k = n0 + 2) Wb W') (hj : ∃ v', W'.heap[n0 + 2]? = some (.cells #[v'] 22 (0, 0)) ∧ RectsAt (n0 + 1) W' v' ((recsTo V i ++ pre.map fun x => recAt V i l x.1) ++ [recAt V i l x.1])) :
    KeepsFrom B Wb W' ∧ ChK (q + 1) (q + 2) Wb W' ∧ RecJ V n0 q i M l w1 Ds (pre ++ [x]) W' := by
  have lt := fun {k : Nat} {o : Obj} (e : Wb.heap[k]? = some o) => (Array.getElem?_eq_some_iff.1 e).1
  have typ : ∀ k, (v.ownBlock = some k ∨ k = n0 + 2) → ∃ cs T, Wb.heap[k]? = some (.cells cs T (0, 0)) ∧ (T = 22 ∨ T = 32) := fun k hk => by
    rcases hk with hk | rfl
    · obtain ⟨_, cs, hc⟩ := own_type hv k hk
      exact ⟨cs, _, hc, .inr rfl⟩
    · exact ⟨_, _, hbx, .inl rfl⟩
  have keep : ∀ (k : Nat) (o : Obj), Wb.heap[k]? = some o → (∀ cs T, o = .cells cs T (0, 0) → T ≠ 22 ∧ T ≠ 32) → W'.heap[k]? = some o := fun k o hk ho => by
    refine (t.block k (lt hk) (fun hf => ?_)).trans hk
    obtain ⟨cs, T, hc, hT⟩ := typ k hf
    rw [hk] at hc
    obtain ⟨h1, h2⟩ := ho cs T (Option.some.inj hc)
    rcases hT with e | e
    · exact h1 e
    · exact h2 e
  have kint : ∀ (k : Nat) (cs : Array Value) (T : TypeId), Wb.heap[k]? = some (.cells cs T (0, 0)) → T ≠ 22 ∧ T ≠ 32 → W'.heap[k]? = some (.cells cs T (0, 0)) := fun k cs T hk hT => keep k _ hk (fun cs' T' e => by cases e; exact hT)
  obtain ⟨c1, e1⟩ := h.k1
  obtain ⟨c2, e2⟩ := h.k2
  refine ⟨⟨t.size, fun k o _ hk ho => keep k o hk (fun cs T e => by subst e; simp [Obj.isCells] at ho)⟩, ⟨(kint _ _ _ e1 (by decide)).trans e1.symm, (kint _ _ _ e2 (by decide)).trans e2.symm⟩, ?_, ?_, Nat.le_trans h.sz t.size, kint _ _ _ h.own (by decide), ⟨c1, kint _ _ _ e1 (by decide)⟩, ⟨c2, kint _ _ _ e2 (by decide)⟩, fun D hd => keep D _ (h.mks D hd) (fun cs T e => by cases e)⟩
  · obtain ⟨v', h1, h2⟩ := hj
    refine ⟨v', h1, ?_⟩
    rw [List.map_append, ← List.append_assoc]
    exact h2
  · exact h.low.trans (t.below (fun k hk => by rcases hk with hk | rfl; exact (own_type hv k hk).1; omega) h.sz)
/-- The last row is empty. -/
theorem last_row {V : Bnd} (h : lastV [] V = []) {i : Nat} (hi : i < V.length) (hne : V[i].2 ≠ []) : i + 1 < V.length := by
  apply Classical.byContradiction
  intro hn
  have e : V = V.take i ++ [V[i]] := by
    rw [← List.take_succ_eq_append_getElem hi, List.take_of_length_le (by omega)]
  have h2 : lastV [] (V.take i ++ [V[i]]) = V[i].2 := lastV_snoc _ _ _
  rw [← e, h] at h2
  exact hne h2.symm
theorem bdN_px (V : Bnd) (j : Nat) : px (V.map (·.1)) j = bdN V j := by
  unfold px bdN
  rw [List.getD_eq_getElem?_getD, List.getElem?_map]
set_option maxHeartbeats 8000000 in
theorem rects_any : RectsSays := fun V b v1 v2 w hN hl hr hb hs => by
  obtain ⟨s1, s2, e, ib, xs, sx, hx⟩ := hs
  have e1 : v1 = s1 ∧ v2 = s2 := by
    injection e with e
    simpa using e
  obtain ⟨rfl, rfl⟩ := e1
  obtain ⟨p1, k1, hp1⟩ := ib.form
  obtain ⟨p2, k2, hp2⟩ := Sees.form sx
  rw [List.length_map] at hp1 hp2
  obtain ⟨m, hm⟩ : ∃ m, V.length = m := ⟨_, rfl⟩
  rw [hm] at hp1 hp2 hl ⊢
  subst hp1 hp2
  obtain ⟨n0, hn0⟩ : ∃ n0, w.heap.size = n0 := ⟨_, rfl⟩
  have z1 := alloc_size w (.cells #[.pointer (some ⟨b, 0, none⟩)] 67)
  have o1 := heap_alloc_new w (.cells #[.pointer (some ⟨b, 0, none⟩)] 67)
  have k1' := (Below.refl w.heap.size w).alloc (Nat.le_refl _) (.cells #[.pointer (some ⟨b, 0, none⟩)] 67)
  obtain ⟨w1, hw1⟩ : ∃ w1, w.alloc (.cells #[.pointer (some ⟨b, 0, none⟩)] 67) = w1 := ⟨_, rfl⟩
  rw [hw1] at z1 o1 k1'
  have hb1 := (k1'.block b (Array.getElem?_eq_some_iff.1 hb).1).trans hb
  have hsx1 := Sees.below sx k1' (Nat.le_refl _)
  have hx1 : ∀ i, (h : i < V.length) → ∃ u, xs[i]? = some u ∧ IR w1 u V[i].2 := fun i h => by
    obtain ⟨u, h1, h2⟩ := hx i (by rw [List.length_map]; exact h)
    rw [List.getElem_map] at h2
    exact ⟨u, h1, h2.below k1'⟩
  have hib1 := ib.below k1'
  rw [hn0] at z1 o1 k1' ⊢
  have c0 := cellAt (o := 0) o1 rfl
  have c1 := cellAt (o := 1) hb1 rfl
  have HC0 := Lib.hid (And.intro o1 hb1)
  have HN := Lib.hid hN
  have HR := Lib.hid hr
  have HM := Lib.hid hm
  have HX := Lib.hid hx1
  have HSX := Lib.hid hsx1
  have HIB := Lib.hid hib1
  have HK1 := Lib.hid k1'
  have HL := Lib.hid hl
  clear ib sx hx hN hr hb hib1 hx1 hsx1 k1' o1 hb1 e
  simp only [List.getElem_toArray, List.getElem_cons_zero, List.getElem_cons_succ] at c0 c1
  refine (callsIn_wide (n := 5)).1 ?_
  refine callsIn_of_wp_marks Try.func41 rfl trivial ?_ rfl
  simp only [Try.ntmps41, List.size_toArray, List.length_cons, List.length_nil, Nat.reduceAdd, Nat.reduceSub, Array.replicate_succ, Array.replicate_zero, List.push_toArray, List.append_toArray, List.nil_append, List.cons_append]
  gi_wp2
  gi_loop [3, 15] (fun t i => ∃ k s : Nat, i = .int .i64 (k : Nat) ∧ t = .int .i64 (s : Nat) ∧ k ≤ m ∧ s ≤ k * 10000) (fun _ i => m - (intOf i).toNat)
  case atStart => exact ⟨0, 0, rfl, rfl, Nat.zero_le _, Nat.zero_le _⟩
  case round =>
    obtain ⟨k, s, rfl, rfl, hk, hsk⟩ := hrel
    by_cases hlt : k < m
    · obtain ⟨u, hu, hi⟩ := HX.out k (by rw [HM.out]; exact hlt)
      obtain ⟨pu, cu, hpu⟩ := hi.form
      rcases HSX.out.2.2 with ⟨_, h0⟩ | ⟨g, off, cap, hgo, hg, hc⟩
      · rw [List.length_map, HM.out] at h0; omega
      have e2 : p2 = some ⟨g, off, none⟩ ∧ k2 = cap := by
        simp only [Value.slice.injEq] at hgo
        exact ⟨hgo.1, hgo.2.2⟩
      obtain ⟨rfl, rfl⟩ := e2
      have cr := hc k u hu
      obtain ⟨N, hN⟩ : ∃ N, (V[k]'(by rw [HM.out]; exact hlt)).2.length = N := ⟨_, rfl⟩
      have hNb : N ≤ 20000 := by rw [← hN]; exact HR.out _ (List.getElem_mem _)
      rw [hN] at hpu
      subst hpu
      obtain ⟨H, hH⟩ : ∃ H, N / 2 = H := ⟨_, rfl⟩
      obtain ⟨S, hS⟩ : ∃ S, s + H = S := ⟨_, rfl⟩
      have wS : IntKind.i64.wrap ((s : Int) + (H : Int)) = (S : Int) := (IntWalk.i64_in _ (by omega)).trans (by omega)
      have dv : ((N : Int) / 2) = (H : Int) := by omega
      have dt : Int.tdiv (N : Int) 2 = (H : Int) := by rw [Int.tdiv_eq_ediv_of_nonneg (by omega)]; omega
      have wH : IntKind.i64.wrap (H : Int) = (H : Int) := IntWalk.i64_in _ (by omega)
      have d1 : decide ((k : Int) < m) = true := decide_eq_true (by omega)
      have d2 : decide (k < m) = true := decide_eq_true hlt
      have HS := Lib.hid (show S ≤ (k + 1) * 10000 by omega)
      clear hi hu hc hgo hg hN hNb hH hS hsk
      gi_wp2
      go_round
      case rel => exact ⟨k + 1, S, by go_num, rfl, by omega, HS.out⟩
      case measure => simp [intOf]; omega
    · obtain rfl : k = m := by omega
      have d1 : decide ((k : Int) < k) = false := decide_eq_false (by omega)
      have d2 : decide (k < k) = false := decide_eq_false (by omega)
      obtain ⟨w2, mk, own, bel, z2⟩ := make_rects s (by omega) w1
      rw [z1] at mk own bel z2
      have z3 := alloc_size w2 (.cells #[.slice (some ⟨n0 + 1, 0, none⟩) 0 s] 22)
      have o3 := heap_alloc_new w2 (.cells #[.slice (some ⟨n0 + 1, 0, none⟩) 0 s] 22)
      have k3 := (Below.refl w2.heap.size w2).alloc (Nat.le_refl _) (.cells #[.slice (some ⟨n0 + 1, 0, none⟩) 0 s] 22)
      obtain ⟨w3, hw3⟩ : ∃ w3, w2.alloc (.cells #[.slice (some ⟨n0 + 1, 0, none⟩) 0 s] 22) = w3 := ⟨_, rfl⟩
      rw [hw3] at z3 o3 k3
      have kk : Below (n0 + 1) w1 w3 := bel.trans (k3.mono (by omega))
      have hbn : b < n0 + 1 := by have := (Array.getElem?_eq_some_iff.1 HC0.out.2).1; omega
      have HOWN := Lib.hid (RowAt.below own k3)
      have HKK := Lib.hid kk
      have e0 : w3.cell? ⟨n0, 0, none⟩ = some (.pointer (some ⟨b, 0, none⟩)) := (kk.cell (p := ⟨n0, 0, none⟩) (show n0 < n0 + 1 by omega)).trans c0
      have e1 : w3.cell? ⟨b, 1, none⟩ = some (.slice p2 k k2) := (kk.cell (p := ⟨b, 1, none⟩) hbn).trans c1
      have z2' : w2.heap.size = n0 + 2 := by omega
      have HO3 := Lib.hid o3
      clear own bel kk k3 o3
      gi_wp2
      have hI0 : RectI V k n0 w1 0 [] w3 := ⟨Nat.zero_le _, ⟨_, by rw [← z2']; exact HO3.out, HOWN.out⟩, HKK.out, List.nodup_nil, fun D h => by cases h⟩
      have HI0 := Lib.hid hI0
      clear hI0 hw3 HO3 HOWN HKK mk e0 e1
      refine wpIn_loop (fun a wr => ∃ (i : Nat) (Ds : List Nat) (u7 u8 u9 u33 u34 u35 u36 u37 u38 u39 u40 u41 u42 u43 u44 u45 u46 u47 u48 u49 u50 u51 u52 u53 u54 u55 u56 u57 u58 u59 u60 u61 u62 u63 u64 u65 u66 u67 u68 u69 u70 u71 u72 u73 u74 u75 u76 u77 : Value), RectI V k n0 w1 i Ds wr ∧ a = { tmps := #[.pointer (some ⟨b, 0, none⟩), .pointer (some ⟨n0, 0, none⟩), .slice none 0 0, .int .i64 s, undef, u5, .pointer (some ⟨n0 + 2, 0, none⟩), u7, u8, u9, .pointer (some ⟨b, 0, none⟩), .pointer (some ⟨b, 0, none⟩), .pointer (some ⟨b, 1, none⟩), .slice p2 k k2, .int .i64 k, .int .i64 k, .bool false, u17, u18, u19, u20, u21, u22, u23, u24, .int .i64 s, .slice (some ⟨n0 + 1, 0, none⟩) 0 s, .pointer (some ⟨b, 0, none⟩), .pointer (some ⟨b, 0, none⟩), .pointer (some ⟨b, 1, none⟩), .slice p2 k k2, .int .i64 k, .int .i64 i, u33, u34, u35, u36, u37, u38, u39, u40, u41, u42, u43, u44, u45, u46, u47, u48, u49, u50, u51, u52, u53, u54, u55, u56, u57, u58, u59, u60, u61, u62, u63, u64, u65, u66, u67, u68, u69, u70, u71, u72, u73, u74, u75, u76, u77, undef], defers := Ds.map OwnL.mark }) (fun a _ => k - (intOf (a.tmps.getD 32 undef)).toNat) ⟨0, [], undef, undef, undef, undef, undef, undef, undef, undef, undef, undef, undef, undef, undef, undef, undef, undef, undef, undef, undef, undef, undef, undef, undef, undef, undef, undef, undef, undef, undef, undef, undef, undef, undef, undef, undef, undef, undef, undef, undef, undef, undef, undef, undef, undef, undef, undef, undef, undef, HI0.out, by first | rfl | (rw [← z2']; rfl)⟩ ?_
      rintro a wr ⟨i, Ds, u7, u8, u9, u33, u34, u35, u36, u37, u38, u39, u40, u41, u42, u43, u44, u45, u46, u47, u48, u49, u50, u51, u52, u53, u54, u55, u56, u57, u58, u59, u60, u61, u62, u63, u64, u65, u66, u67, u68, u69, u70, u71, u72, u73, u74, u75, u76, u77, hI, rfl⟩
      have HI := Lib.hid hI
      obtain ⟨v, hbx, hrow⟩ := hI.box
      have hlow := hI.low
      have hbb := HC0.out
      have e0 : wr.cell? ⟨n0, 0, none⟩ = some (.pointer (some ⟨b, 0, none⟩)) := (hlow.cell (p := ⟨n0, 0, none⟩) (show n0 < n0 + 1 by omega)).trans c0
      have e1 : wr.cell? ⟨b, 1, none⟩ = some (.slice p2 k k2) := (hlow.cell (p := ⟨b, 1, none⟩) hbn).trans c1
      have cb := cellAt (o := 0) hbx rfl
      obtain ⟨pv, cv, hpv⟩ := RowAt.shape hrow
      subst hpv
      have HROW := Lib.hid hrow
      have hi := hI.le
      clear hI hrow hlow hbb HI0
      by_cases hlt : i < k
      · obtain ⟨u, hu, hiu⟩ := HX.out i (by rw [HM.out]; exact hlt)
        obtain ⟨pu, cu, hpu⟩ := hiu.form
        rcases HSX.out.2.2 with ⟨_, h0⟩ | ⟨g, off, cap, hgo, hg, hc⟩
        · rw [List.length_map, HM.out] at h0; omega
        have e2 : p2 = some ⟨g, off, none⟩ ∧ k2 = cap := by
          simp only [Value.slice.injEq] at hgo
          exact ⟨hgo.1, hgo.2.2⟩
        obtain ⟨rfl, rfl⟩ := e2
        obtain ⟨Ri, hRi⟩ : ∃ Ri, (V[i]'(by rw [HM.out]; exact hlt)).2 = Ri := ⟨_, rfl⟩
        rw [hRi] at hpu hiu
        obtain ⟨N, hN⟩ : ∃ N, Ri.length = N := ⟨_, rfl⟩
        rw [hN] at hpu
        subst hpu
        have cr : wr.cell? ⟨g, off + i, none⟩ = some (.slice pu N cu) := (HI.out.low.cell (p := ⟨g, off + i, none⟩) (show g < n0 + 1 by omega)).trans (hc i _ hu)
        have HIU1 := Lib.hid hiu
        have HIU := Lib.hid (hiu.below (HI.out.low.mono (by omega)))
        have HRI := Lib.hid hRi
        have HNN := Lib.hid hN
        have step := fun (w : World) (cs : Array Value) (T : TypeId) => And.intro (alloc_size w (.cells cs T)) (And.intro (heap_alloc_new w (.cells cs T)) ((Below.refl w.heap.size w).alloc (Nat.le_refl _) (.cells cs T)))
        obtain ⟨y4, o4, k4⟩ := step wr #[.int .i64 (i : Int)] 3
        obtain ⟨w4, hw4⟩ : ∃ w4, wr.alloc (.cells #[.int .i64 (i : Int)] 3) = w4 := ⟨_, rfl⟩
        rw [hw4] at y4 o4 k4
        have C0 := Lib.hid (chunk_any pu N cu w4)
        obtain ⟨y5, o5, k5⟩ := step w4 #[.slice pu N cu] 38
        obtain ⟨w5, hw5⟩ : ∃ w5, w4.alloc (.cells #[.slice pu N cu] 38) = w5 := ⟨_, rfl⟩
        rw [hw5] at y5 o5 k5 C0
        obtain ⟨y6, o6, k6⟩ := step w5 #[.int .i64 2] 3
        obtain ⟨w6, hw6⟩ : ∃ w6, w5.alloc (.cells #[.int .i64 2] 3) = w6 := ⟨_, rfl⟩
        rw [hw6] at y6 o6 k6 C0
        obtain ⟨q, hq⟩ : ∃ q, wr.heap.size = q := ⟨_, rfl⟩
        rw [hq] at y4 o4 k4
        rw [y4] at y5 o5 k5 C0
        rw [y5] at y6 o6 k6
        have HO4 := Lib.hid o4
        have HO5 := Lib.hid o5
        have HO6 := Lib.hid o6
        have HK4 := Lib.hid k4
        have HK5 := Lib.hid k5
        have HK6 := Lib.hid k6
        have d1 : decide ((i : Int) < k) = true := decide_eq_true (by omega)
        have d2 : decide (i < k) = true := decide_eq_true hlt
        clear step o4 o5 o6 k4 k5 k6 hiu hu hc hgo hRi hN
        gi_wp2
        refine ⟨trivial, (callsIn_wide.2 C0.out).mono ?_⟩
        rintro e w' ⟨rfl, hw'⟩
        have hw' := hw'.symm
        subst hw'
        clear C0 hw4 hw5 hw6
        gi_wp2
        have hEv := HN.out.r _ (List.getElem_mem (show i < V.length by rw [HM.out]; exact hlt))
        rw [HRI.out] at hEv
        obtain ⟨M, hM⟩ : ∃ M, N = 2 * M := ⟨N / 2, by have := hEv.e; have := HNN.out; omega⟩
        have hNb : N ≤ 20000 := by rw [← HNN.out, ← HRI.out]; exact HR.out _ (List.getElem_mem _)
        obtain ⟨g', off', hp', hcu⟩ : ∃ g' off', (0 < M → pu = some ⟨g', off', none⟩) ∧ N ≤ cu := by
          obtain ⟨a', cap', e', hn', hcc⟩ := HIU.out.sw
          have hroom := HIU.out.room _ _ _ rfl
          rw [HNN.out] at e' hcc
          have ea : pu = a' := by
            simp only [Value.slice.injEq] at e'
            exact e'.1
          subst ea
          by_cases h0 : 0 < N
          · obtain ⟨g1, o1, e1, _⟩ := hcc h0
            exact ⟨g1, o1, fun _ => e1, hroom⟩
          · exact ⟨0, 0, fun h => absurd h (by omega), hroom⟩
        have hseq := chunk1_in 4 (by decide) pu M N cu g' off' (q + 1) (q + 2) (by omega) hM hp' hcu w6 ((HK6.out.cell (p := ⟨q + 1, 0, none⟩) (show q + 1 < q + 1 + 1 by omega)).trans (cellAt HO5.out rfl)) (cellAt HO6.out rfl)
        have HSEQ := Lib.hid hseq
        have y7 : w6.heap.size = q + 3 := by omega
        refine range_own (n := 5) (by decide) (gf := 59) (lb := #[.pointer (some ⟨q + 1, 0, none⟩), .pointer (some ⟨q + 2, 0, none⟩)]) rfl (enters_of Try.func59 (by kernel_rfl) rfl) HSEQ.out (Below.refl _ _) (fun h k => h.trans k) (fun hs t => ChK.turn t (by omega) (by omega) (by omega) (by omega)) (fun _ => rfl) (RecJ V n0 q i M Ri w1 Ds) (fun s W W' h t => h.turn t (by have := HI.out.low.size; omega) (fun D hd => by have := (Array.getElem?_eq_some_iff.1 (HI.out.mks D hd).2).1; omega)) ?start ?round ?done
        case start =>
          have k46 : Below q wr w6 := HK4.out.trans ((HK5.out.mono (by omega)).trans (HK6.out.mono (by omega)))
          obtain ⟨v, hb1, hb2⟩ := HI.out.box
          have hlq : n0 + 2 < q := by have := (Array.getElem?_eq_some_iff.1 hb1).1; omega
          refine ⟨⟨v, (k46.block _ hlq).trans hb1, ?_⟩, HI.out.low.trans (k46.mono (by omega)), by omega, ?_, ⟨_, (HK6.out.block (q + 1) (by omega)).trans HO5.out⟩, ⟨_, HO6.out⟩, fun D hD => ?_⟩
          · rw [List.map_nil, List.append_nil]
            exact RowAt.below hb2 (by rw [hq]; exact k46)
          · exact ((HK5.out.trans (HK6.out.mono (by omega))).block q (by omega)).trans HO4.out
          · have := HI.out.mks D hD
            exact (k46.block D (by have := (Array.getElem?_eq_some_iff.1 this.2).1; omega)).trans this.2
        case round =>
          intro l pre x W hl hI hlen
          obtain ⟨O, hO⟩ : ∃ O, off' + 2 * x.1 = O := ⟨_, rfl⟩
          have hxM := x.2
          have hMp : 0 < M := by omega
          obtain rfl := hp' hMp
          simp only [chE]
          rw [hO]
          have HO := Lib.hid hO
          have HII := Lib.hid hI
          have HLEN := Lib.hid hlen
          rw [List.length_finRange] at HLEN
          clear hI hseq hp' hO hlen HSEQ
          gi_wp2
          refine ⟨KeepsFrom.refl _ _, ⟨rfl, rfl⟩, fun Wb t => ?_⟩
          have hlq : n0 + 2 < q := by rw [← hq]; exact (Array.getElem?_eq_some_iff.1 hbx).1
          have hIb := HII.out.turn (t.weak (fun o h => .inl h) (Nat.le_refl _)) (by omega) (fun D hd => by have := (Array.getElem?_eq_some_iff.1 (HI.out.mks D hd).2).1; omega)
          obtain ⟨vr, hb1, hb2⟩ := hIb.box
          obtain ⟨pr, cr', hvr⟩ := RowAt.shape hb2
          have hN2 : Ri ≠ [] := fun e => by have := HNN.out; rw [e] at this; simp at this; omega
          have hi1 : i + 1 < k := by
            have := last_row HN.out.l (show i < V.length by rw [HM.out]; exact hlt) (by rw [HRI.out]; exact hN2)
            rw [HM.out] at this
            exact this
          obtain ⟨a1, cp1, e1', hc1⟩ := HIB.out.sw.cells
          rw [List.length_map, HM.out] at e1' hc1
          obtain ⟨gb, ob, rfl, hgb, hbc⟩ := hc1 (by omega)
          have e3 : p1 = some ⟨gb, ob, none⟩ := by
            simp only [Value.slice.injEq] at e1'
            exact e1'.1
          subst e3
          obtain ⟨a2, cp2, e2', hc2⟩ := HIU1.out.sw.cells
          rw [HNN.out] at e2' hc2
          obtain ⟨g2, o2, rfl, hg2, hrc⟩ := hc2 (by omega)
          have e4 : g2 = g' ∧ o2 = off' := by
            simp only [Value.slice.injEq, Option.some.injEq, Addr.mk.injEq] at e2'
            exact ⟨e2'.1.1.symm, e2'.1.2.1.symm⟩
          obtain ⟨rfl, rfl⟩ := e4
          have x0 := hrc (2 * x.1) (by omega)
          have x1 := hrc (2 * x.1 + 1) (by omega)
          rw [HO.out] at x0
          rw [← Nat.add_assoc, HO.out] at x1
          have y0 := hbc i (by omega)
          have y1 := hbc (i + 1) hi1
          rw [bdN_px] at y0 y1
          have hmem : V[i]'(by rw [HM.out]; exact hlt) ∈ V := List.getElem_mem _
          have hmem2 : V[i + 1]'(by rw [HM.out]; exact hi1) ∈ V := List.getElem_mem _
          have nX0 : -1048576 ≤ px Ri (2 * x.1) ∧ px Ri (2 * x.1) ≤ 1048576 := by rw [px_get (by rw [HNN.out]; omega)]; exact hEv.n _ (List.getElem_mem _)
          have nX1 : -1048576 ≤ px Ri (2 * x.1 + 1) ∧ px Ri (2 * x.1 + 1) ≤ 1048576 := by rw [px_get (by rw [HNN.out]; omega)]; exact hEv.n _ (List.getElem_mem _)
          have nY0 : -1048576 ≤ bdN V i ∧ bdN V i ≤ 1048576 := by unfold bdN; rw [List.getElem?_eq_getElem (by rw [HM.out]; exact hlt)]; exact HN.out.n _ hmem
          have nY1 : -1048576 ≤ bdN V (i + 1) ∧ bdN V (i + 1) ≤ 1048576 := by unfold bdN; rw [List.getElem?_eq_getElem (by rw [HM.out]; exact hi1)]; exact HN.out.n _ hmem2
          have hrec : recAt V i Ri x.1 = ⟨px Ri (2 * x.1), bdN V i, px Ri (2 * x.1 + 1) - px Ri (2 * x.1), bdN V (i + 1) - bdN V i⟩ := rfl
          generalize px Ri (2 * x.1) = X0 at *
          generalize px Ri (2 * x.1 + 1) = X1 at *
          generalize bdN V i = Y0 at *
          generalize bdN V (i + 1) = Y1 at *
          obtain ⟨ww, hww⟩ : ∃ ww, X1 - X0 = ww := ⟨_, rfl⟩
          obtain ⟨hh, hhh⟩ : ∃ hh, Y1 - Y0 = hh := ⟨_, rfl⟩
          rw [hww, hhh] at hrec
          have fW : IntKind.i64.wrap (X1 - X0) = ww := (IntWalk.i64_in _ (by omega)).trans hww
          have fH : IntKind.i64.wrap (Y1 - Y0) = hh := (IntWalk.i64_in _ (by omega)).trans hhh
          obtain ⟨j, hj⟩ : ∃ j, i + 1 = j := ⟨_, rfl⟩
          rw [hj] at hi1 y1
          have fJ : IntKind.i64.wrap ((i : Int) + 1) = (j : Int) := (IntWalk.i64_in _ (by have := HL.out; omega)).trans (by omega)
          have hMORE := fun (W' : World) => hIb.more (x := x) (B := w6.heap.size) (W' := W') hlq hb1 hb2
          rw [hrec] at hMORE
          have HMORE := Lib.hid hMORE
          have hsb : n0 + 2 < Wb.heap.size := (Array.getElem?_eq_some_iff.1 hb1).1
          have CELL : RowKit.Hid (∀ W9 : World, Touch (fun k => vr.ownBlock = some k ∨ k = n0 + 2) Wb W9 → W9.cell? ⟨n0, 0, none⟩ = some (.pointer (some ⟨b, 0, none⟩)) ∧ W9.cell? ⟨b, 0, none⟩ = some (.slice (some ⟨gb, ob, none⟩) k k1) ∧ W9.cell? ⟨q, 0, none⟩ = some (.int .i64 (i : Nat)) ∧
              W9.cell? ⟨g2, O, none⟩ = some (.int .i64 X0) ∧ W9.cell? ⟨g2, O + 1, none⟩ = some (.int .i64 X1) ∧ W9.cell? ⟨gb, ob + i, none⟩ = some (.int .i64 Y0) ∧ W9.cell? ⟨gb, ob + j, none⟩ = some (.int .i64 Y1)) := Lib.hid (fun W9 t9 => by
            have low : ∀ (p o : Nat) (u : Value), p < n0 + 1 → w1.cell? ⟨p, o, none⟩ = some u → W9.cell? ⟨p, o, none⟩ = some u := fun p o u hp hc =>
              sameBlock (t9.block p (by omega) (fun hf => by
                rcases hf with hf | hf
                · have := (own_type hb2 _ hf).1; omega
                · omega)) ((hIb.low.cell (p := ⟨p, o, none⟩) hp).trans hc)
            refine ⟨low _ _ _ (by omega) c0, low _ _ _ hbn (cellAt HC0.out.2 rfl), ?_, low _ _ _ (by omega) x0, low _ _ _ (by omega) x1, low _ _ _ (by omega) y0, low _ _ _ (by omega) y1⟩
            refine sameBlock (t9.block q (Array.getElem?_eq_some_iff.1 hIb.own).1 (fun hf => ?_)) (cellAt hIb.own rfl)
            rcases hf with hf | hf
            · obtain ⟨_, cs, hc⟩ := own_type hb2 _ hf
              rw [hIb.own] at hc
              cases hc
            · omega)
          have hLB : (recsTo V i ++ pre.map fun x => recAt V i Ri x.1).length ≤ 500000000 := by
            have h1 := recsTo_len (V := V) (m := 20000) HR.out i
            have h2 := HLEN.out
            have h3 := HL.out
            rw [List.length_append, List.length_map]
            have : i * 20000 ≤ 20000 * 20000 := Nat.mul_le_mul_right _ (by omega)
            omega
          generalize (recsTo V i ++ pre.map fun x => recAt V i Ri x.1) = L at *
          subst hvr
          have HB1 := Lib.hid hb1
          have HB2 := Lib.hid hb2
          have dj : decide (j < k) = true := decide_eq_true hi1
          have djI : decide ((j : Int) < k) = true := decide_eq_true (by omega)
          clear hMORE hIb HII t hrec nX0 nX1 nY0 nY1 x0 x1 y0 y1 hww hhh hmem hmem2 hbc hrc hc1 hc2 e1' e2' hb1 hb2
          gi_upto_region 13 with fail
          obtain ⟨Wd, hWd⟩ : ∃ Wd, Wb.drew = Wd := ⟨_, rfl⟩
          have hd1 : Wd.heap[n0 + 2]? = some (.cells #[.slice pr L.length cr'] 22 (0, 0)) := by rw [← hWd]; exact HB1.out
          have hd2 : RectsAt (n0 + 1) Wd (.slice pr L.length cr') L := by rw [← hWd]; exact HB2.out
          have hds : n0 + 2 < Wd.heap.size := by rw [← hWd]; exact hsb
          have htd : ∀ {F : Nat → Prop} {W9 : World}, Touch F Wd W9 → Touch F Wb W9 := fun {F W9} t9 => (Touch.of_below (show Below Wb.heap.size Wb Wd by rw [← hWd]; exact (Below.refl _ _).drew)).trans t9
          refine regionIn_preds (by kernel_rfl) (rcV (.slice pr L.length cr') (.slice (some ⟨g2, O, none⟩) 2 2) (.slice (some ⟨gb, ob, none⟩) k k1) b g2 O gb ob i j Wd.heap.size X0 X1 ww Y0 Y1 hh) (rcR (n0 + 1) (L ++ [⟨X0, Y0, ww, hh⟩]))
            (RcS (n0 + 2) (n0 + 1) (L ++ [⟨X0, Y0, ww, hh⟩]) Wd (.cells #[.int .i64 X0, .int .i64 Y0, .int .i64 ww, .int .i64 hh] 32) (fun k => (Value.slice pr L.length cr').ownBlock = some k ∨ k = n0 + 2)) [1, 6, 7, 9]
            [none, none, none, none, none, none, none, none, none, none, none, none, none, none, none, none, none, none, none, none, none, none, none, none, none, none, none, none, none, none, none, none, none, none, none, none, none, none, none, none, some 0, some 1, some 2, some 3, some 4, some 5, some 6, some 7, some 8, some 9, some 10, some 11, some 12, some 13, some 14, some 15, some 16, some 17, some 18, some 19, some 20, some 21, some 22, some 23, some 24, some 25, some 26, some 27, some 28, some 29, some 30, some 31, some 32, some 33, some 34, some 35, some 36, none, none]
            (by kernel_rfl) (by kernel_rfl) (by rfl) (by kernel_rfl) (by kernel_rfl) (by kernel_rfl) (by rw [hWd]; exact RcS.start _ _ _ _ _ _) ⟨?_, ?_, ?_, ?_, ?_, ?_, ?_, ?_, ?_, ?_, ?_, ?_, ?_, ?_, ?_, ?_, ?_, ?_, ?_, ?_, ?_, ?_, ?_, ?_, ?_, ?_, ?_, ?_, ?_, ?_, ?_, ?_, ?_, ?_, ?_, ?_, ?_, ?_, trivial⟩ ?_
          case refine_39 =>
            intro vs ℓ wc hl hS hR
            obtain ⟨v', h1, h2⟩ := hS.j (hl 37 (by decide))
            have ht := htd hS.t
            clear hR hl hS
            simp only [zipF, rcV, Option.getD_some, Option.getD_none]
            generalize vs 36 = u36 at *
            gi_wp2
            exact HMORE.out wc ht ⟨v', h1, h2⟩
          case refine_1 =>
            intro ℓ act W9 hl hS hw hx hr hd
            clear hw hx
            simp only [readFacts, depFactsP] at hr hd
            have h7 : ℓ 37 = false := by
              cases e : ℓ 37 with
              | false => rfl
              | true => rw [(hS.a (hS.b e)).1] at hl; cases hl
            have cbx := cellAt (o := 0) ((hS.x h7).trans hd1) rfl
            refine ⟨wanted_none (by rfl), fun K hK => ?_⟩
            unfold Oper.wpIn
            refine ⟨fun _ _ => trivial, ?_⟩
            go_simp
            exact hK _ _ rfl (hS.read 0 (by decide)) (fun _ _ _ _ h => h)
          case refine_36 =>
            intro ℓ act W9 hl hS hw hx hr hd
            clear hw hx
            simp [readFacts, depFactsP, dstOf, Region.binds, rcV] at hr hd
            obtain ⟨rfl, hS2, h6⟩ := hS.made hl hds
            refine ⟨wanted_none (by rfl), fun K hK => ?_⟩
            unfold Oper.wpIn
            refine ⟨fun _ _ => trivial, ?_⟩
            go_simp
            exact hK _ _ rfl hS2 (fun j u _ hj h e => by subst e; rw [h6] at hj; cases hj)
          case refine_37 =>
            intro ℓ act W9 hl hS hw hx hr hd
            have l0 : ℓ 0 = true := hw ⟨0, .data⟩ (by simp) (by rfl)
            have l35 : ℓ 35 = true := hw ⟨35, .data⟩ (by simp) (by rfl)
            clear hw hx
            simp [readFacts, depFactsP, dstOf, Region.binds, rcV] at hr hd
            obtain ⟨rfl, h7, hS2⟩ := hS.grown hl l0 l35
            refine ⟨wanted_none (by rfl), fun K hK => ?_⟩
            refine opIn_rect (.tmp 40) (.tmp 75) rfl (.slice pr L.length cr') (n0 + 1) L (eval_tmp hd.1) hd2 (by omega) (by omega) ⟨X0, Y0, ww, hh⟩ 32 (eval_tmp hd.2) ?_
            intro v' w' h1 h2
            refine hK _ _ (fun _ => h1) (hS2 w' ⟨h2.os, h2.tape, h2.output, h2.size, fun i hi hF => h2.block i hi (fun e => hF (.inl e))⟩ (h2.block _ hds (fun e => ?_))) (fun j u _ hj h e => by subst e; rw [hl] at hj; cases hj)
            obtain ⟨_, cs, hc⟩ := own_type hd2 _ e
            rw [hd1] at hc
            cases hc
          case refine_38 =>
            intro ℓ act W9 hl hS hw hx hr hd
            have l36 : ℓ 36 = true := hw ⟨36, .data⟩ (by simp) (by rfl)
            clear hw hx
            simp [readFacts, depFactsP, dstOf, Region.binds, rcV] at hr hd
            refine ⟨wanted_none (by rfl), fun K hK => ?_⟩
            obtain ⟨⟨v, e76, y76⟩, hd2⟩ := hd
            clear hd2
            have y77 := y76 rfl
            obtain ⟨pz, cz, hvz⟩ := RowAt.shape y77
            subst hvz
            obtain ⟨e2, hS2, hk2⟩ := hS.stored l36 hl (.inr rfl) hd1 y77
            generalize (L ++ [(⟨X0, Y0, ww, hh⟩ : Rc)]).length = zn at *
            have cbx := cellAt (o := 0) e2 rfl
            have cbf := frozenAt (o := 0) e2
            unfold Oper.wpIn
            refine ⟨fun _ _ => trivial, ?_⟩
            go_simp
            exact hK undef _ (show rcR (n0 + 1) _ 37 undef _ from fun h => absurd h (by decide)) hS2 (fun j u _ hj h e => hk2 u (h e))
          all_goals
            intro ℓ act W9 hl hS hw hx hr hd
            clear hw hx
            simp [readFacts, depFactsP, dstOf, Region.binds, rcV] at hr hd
            obtain ⟨q0, q1, q2, q3, q4, q5, q6⟩ := CELL.out W9 (htd hS.t)
            refine ⟨wanted_none (by rfl), fun K hK => ?_⟩
            unfold Oper.wpIn
            refine ⟨fun _ _ => trivial, ?_⟩
            go_simp
            exact hK _ _ rfl (hS.read _ (by decide)) (fun _ _ _ _ h => h)
        case done =>
          intro D W hD hI hdef
          obtain ⟨v, hb1, hb2⟩ := hI.box
          have hrn : rowN V i = Ri := by
            unfold rowN
            rw [List.getElem?_eq_getElem (show i < V.length by rw [HM.out]; exact hlt)]
            exact HRI.out
          have hnew : RectI V k n0 w1 (i + 1) (D :: Ds) W := by
            refine ⟨by omega, ⟨v, hb1, ?_⟩, hI.low, List.nodup_cons.2 ⟨fun h => ?_, HI.out.nd⟩, fun E hE => ?_⟩
            · show RectsAt (n0 + 1) W v (recsTo V i ++ recs1 V i)
              rw [recs1_fin hrn (HNN.out.trans hM)]
              exact hb2
            · have := (Array.getElem?_eq_some_iff.1 (HI.out.mks D h).2).1
              omega
            · rcases List.mem_cons.1 hE with rfl | hE
              · exact ⟨by have := (Array.getElem?_eq_some_iff.1 hbx).1; omega, hdef⟩
              · exact ⟨(HI.out.mks E hE).1, hI.mks E hE⟩
          have HNEW := Lib.hid hnew
          clear hnew hI hb1 hb2 hdef
          gi_wp2
          refine ⟨⟨i + 1, D :: Ds, ?_⟩, ?_⟩
          · (repeat apply Exists.intro)
            refine ⟨HNEW.out, ?_⟩
            rw [show (((i + 1 : Nat)) : Int) = (i : Int) + 1 by omega]
            rfl
          · simp [intOf]
            omega
      · obtain rfl : i = k := by omega
        have d1 : decide ((i : Int) < i) = false := decide_eq_false (by omega)
        have d2 : decide (i < i) = false := decide_eq_false (by omega)
        gi_wp2
        refine leaves_marks (by simp) Ds wr HI.out.nd (fun D h => (HI.out.mks D h).2) (fun w' hb => ?_)
        refine ⟨_, results_tmp rfl _ _ _, ⟨_, rfl, ?_, ?_⟩⟩
        · refine (RowAt.keep HROW.out (fun j hj => hb.block j (fun hD => ?_))).base (Nat.le_succ _)
          obtain ⟨_, cs, hc⟩ := own_type HROW.out j hj
          rw [(HI.out.mks j hD).2] at hc
          cases hc
        · exact (HK1.out.trans (HI.out.low.mono (by omega))).trans (hb.below (fun D h => by have := (HI.out.mks D h).1; omega))
end Go.Proofs.Ytedlhfemmofbpaa.Reg
