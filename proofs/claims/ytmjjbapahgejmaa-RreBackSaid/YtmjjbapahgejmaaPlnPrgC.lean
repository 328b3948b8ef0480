/-
  The program of layer 16 (plain): the values of colours.
-/
import Derived.Test.YtmjjbapahgejmaaPlnPrgB
namespace Go.Proofs.Ytmjjbapahgejmaa.Pln
open Go.ChangeShapes Go.WideShapes Go.ChangeAt Go.RowKit Go.Shelf Lz RowG RegVal Fmt Oct OwnB
set_option linter.unusedVariables false
set_option linter.unusedSimpArgs false
set_option maxRecDepth 100000
attribute [local go_sem] Oper.semAt_some

theorem fin_map {α : Type} (l : List Int) (N : Nat) (h : l.length = N) (F : Int → α) : (List.finRange N).map (fun x => F (px l x.1)) = l.map F := by
  subst h
  apply List.ext_getElem
  · simp
  · intro i h1 h2
    simp only [List.length_map, List.length_finRange] at h1
    simp [px_get h1]
/-- What the loop that lists numbers holds. -/
structure VaJ (w : World) (n0 : Nat) (pv : Value) (PT : TypeId) (F : Array Value) (l : List Int) (W : World) : Prop where
  box : ∃ v, W.heap[n0 + 2]? = some (.cells #[v] 22 (0, 0)) ∧ IntsAt (n0 + 1) W v l
  fb : W.heap[n0 + 3]? = some (.cells F 37 (0, 0))
  pb : W.heap[n0 + 4]? = some (.cells #[pv] PT (0, 0))
  low : Below n0 w W
theorem VaJ.turn {w : World} {n0 : Nat} {pv : Value} {PT : TypeId} {F : Array Value} {l : List Int} {W W' : World} (h : VaJ w n0 pv PT F l W) (hn : n0 ≤ w.heap.size) (hT : PT ≠ 9) (t : Turn (mine 9) n0 W W') : VaJ w n0 pv PT F l W' := by
  obtain ⟨v, h1, h2⟩ := h.box
  exact ⟨⟨v, box_turn t h1 (by decide), h2.turn t⟩, box_turn t h.fb (by decide), box_turn t h.pb hT, h.low.trans (t.below (Nat.le_refl _) (Nat.le_trans hn h.low.size))⟩
theorem VaJ.more {w : World} {n0 : Nat} {pv : Value} {PT : TypeId} {F : Array Value} {l : List Int} {z : Int} {Wb w1 : World} {v v' : Value} (h : VaJ w n0 pv PT F l Wb) (hn : n0 ≤ w.heap.size) (hT : PT ≠ 3) (hb : Wb.heap[n0 + 2]? = some (.cells #[v] 22 (0, 0))) (hv : IntsAt (n0 + 1) Wb v l)
    (h2 : IntsAt (n0 + 1) w1 v' (l ++ [z])) (ht : Touch (fun k => v.ownBlock = some k) Wb w1) :
    w1.cell? ⟨n0 + 2, 0, none⟩ = some v ∧ w1.frozen? ⟨n0 + 2, 0, none⟩ = false ∧ (∀ B, KeepsFrom B Wb (w1.setCell ⟨n0 + 2, 0, none⟩ v')) ∧ VoK n0 (n0 + 4) (n0 + 3) Wb (w1.setCell ⟨n0 + 2, 0, none⟩ v') ∧ VaJ w n0 pv PT F (l ++ [z]) (w1.setCell ⟨n0 + 2, 0, none⟩ v') := by
  have lt := fun {k : Nat} {o : Obj} (e : Wb.heap[k]? = some o) => (Array.getElem?_eq_some_iff.1 e).1
  have typ := own_type hv
  have hne : ∀ (k : Nat) (o : Obj), Wb.heap[k]? = some o → (∀ cs, o ≠ .cells cs 3 (0, 0)) → w1.heap[k]? = some o := fun k o hk ho => by
    refine (ht.block k (lt hk) (fun e => ?_)).trans hk
    obtain ⟨_, cs, hc⟩ := typ k e
    rw [hk] at hc
    exact ho cs (Option.some.inj hc)
  have e2 := hne _ _ hb (fun cs e => by cases e)
  have e3 := hne _ _ h.fb (fun cs e => by cases e)
  have e4 := hne _ _ h.pb (fun cs e => by injection e with _ e _; exact hT e)
  have s3 : (w1.setCell ⟨n0 + 2, 0, none⟩ v').heap[n0 + 3]? = some (.cells F 37 (0, 0)) := (setOther (by omega)).trans e3
  have s4 : (w1.setCell ⟨n0 + 2, 0, none⟩ v').heap[n0 + 4]? = some (.cells #[pv] PT (0, 0)) := (setOther (by omega)).trans e4
  have hl0 : n0 ≤ Wb.heap.size := Nat.le_trans hn h.low.size
  have hlow : Below n0 Wb (w1.setCell ⟨n0 + 2, 0, none⟩ v') := (ht.below (fun k hk => by have := (typ k hk).1; omega) hl0).setCell (p := ⟨n0 + 2, 0, none⟩) (by show n0 ≤ n0 + 2; omega) _
  refine ⟨cellAt e2 rfl, frozenAt e2, fun B => ⟨hlow.size, fun k o _ hk ho => ?_⟩, ⟨fun k hk => hlow.block k hk, s4.trans h.pb.symm, s3.trans h.fb.symm, hlow.size⟩, ⟨v', setRowAt e2 rfl, ?_⟩, s3, s4, h.low.trans hlow⟩
  · have hk2 : k ≠ n0 + 2 := fun e => by subst e; rw [hb] at hk; cases hk; simp [Obj.isCells] at ho
    exact (setOther hk2).trans (hne k o hk (fun cs e => by subst e; simp [Obj.isCells] at ho))
  · refine RowAt.keep h2 (fun k hk => setOther (fun e => ?_))
    subst e
    obtain ⟨_, cs, hc⟩ := own_type h2 _ hk
    rw [e2] at hc
    cases hc
def vaI (w : World) (n0 : Nat) (pv : Value) (PT : TypeId) (F : Array Value) (G : Int → Int) (L : List Int) (N : Nat) (pre : List (Fin N)) (W : World) : Prop := VaJ w n0 pv PT F (pre.map fun x => G (px L x.1)) W
theorem vaI_snoc {w : World} {n0 : Nat} {pv : Value} {PT : TypeId} {F : Array Value} {G : Int → Int} {L : List Int} {N : Nat} {pre : List (Fin N)} {x : Fin N} {W : World} (h : VaJ w n0 pv PT F (pre.map (fun x => G (px L x.1)) ++ [G (px L x.1)]) W) : vaI w n0 pv PT F G L N (pre ++ [x]) W := by
  unfold vaI
  rw [List.map_append]
  exact h
set_option maxHeartbeats 8000000 in
theorem values_any (f : Fm) (hf : f.Wf) (vp : Value) (L : List Int) (w : World) (hL : SW w vp L) (hwf : ∀ c ∈ L, (Lit.int .i64 c).wf = true) (hn : L.length ≤ 1000000) :
    Calls Try.prog 23 #[f.v, vp] w fun e w' => ∃ u, e = .returned u ∧ IntsAt w.heap.size w' u (L.map f.valI) ∧ Below w.heap.size w w' := by
  obtain ⟨pa, cp, hvp, _⟩ := hL.cells
  obtain ⟨N, hN⟩ : ∃ N, L.length = N := ⟨_, rfl⟩
  rw [hN] at hvp hn
  obtain ⟨n0, hn0⟩ : ∃ n0, w.heap.size = n0 := ⟨_, rfl⟩
  have step := fun (w : World) (cs : Array Value) (T : TypeId) => And.intro (alloc_size w (.cells cs T)) (And.intro (heap_alloc_new w (.cells cs T)) ((Below.refl w.heap.size w).alloc (Nat.le_refl _) (.cells cs T)))
  obtain ⟨z1, o1, k1⟩ := step w #[.int .i64 f.B, .int .i64 f.D, .bool f.big, .bool f.tr, .int .i64 f.rm, .int .i64 f.gm, .int .i64 f.bm, .int .i64 f.rs, .int .i64 f.gs, .int .i64 f.bs] 37
  have AT1 := FmAt.box f w 37
  obtain ⟨w1, hw1⟩ : ∃ w1, w.alloc (.cells #[.int .i64 f.B, .int .i64 f.D, .bool f.big, .bool f.tr, .int .i64 f.rm, .int .i64 f.gm, .int .i64 f.bm, .int .i64 f.rs, .int .i64 f.gs, .int .i64 f.bs] 37) = w1 := ⟨_, rfl⟩
  rw [hw1] at z1 o1 k1 AT1
  obtain ⟨w2, mk, own, bel, z2⟩ := make_row N (by omega) w1
  obtain ⟨z3, o3, k3⟩ := step w2 #[.slice (some ⟨w1.heap.size, 0, none⟩) 0 N] 22
  obtain ⟨w3, hw3⟩ : ∃ w3, w2.alloc (.cells #[.slice (some ⟨w1.heap.size, 0, none⟩) 0 N] 22) = w3 := ⟨_, rfl⟩
  rw [hw3] at z3 o3 k3
  have C0 := valuesOf_any f vp pa N cp hvp w3
  obtain ⟨z4, o4, k4⟩ := step w3 #[.int .i64 f.B, .int .i64 f.D, .bool f.big, .bool f.tr, .int .i64 f.rm, .int .i64 f.gm, .int .i64 f.bm, .int .i64 f.rs, .int .i64 f.gs, .int .i64 f.bs] 37
  have AT4 := FmAt.box f w3 37
  obtain ⟨w4, hw4⟩ : ∃ w4, w3.alloc (.cells #[.int .i64 f.B, .int .i64 f.D, .bool f.big, .bool f.tr, .int .i64 f.rm, .int .i64 f.gm, .int .i64 f.bm, .int .i64 f.rs, .int .i64 f.gs, .int .i64 f.bs] 37) = w4 := ⟨_, rfl⟩
  rw [hw4] at z4 o4 k4 C0 AT4
  obtain ⟨z5, o5, k5⟩ := step w4 #[vp] 22
  obtain ⟨w5, hw5⟩ : ∃ w5, w4.alloc (.cells #[vp] 22) = w5 := ⟨_, rfl⟩
  rw [hw5] at z5 o5 k5 C0
  rw [hn0] at z1 o1 k1 AT1
  rw [z1] at own bel z2 mk o3 hw3
  rw [show n0 + 1 + 1 = n0 + 2 from rfl] at z2
  rw [z2] at z3 o3 k3
  rw [show n0 + 2 + 1 = n0 + 3 from rfl] at z3
  rw [z3] at z4 o4 k4 AT4 C0
  rw [show n0 + 3 + 1 = n0 + 4 from rfl] at z4 C0
  rw [z4] at z5 o5 k5
  rw [show n0 + 4 + 1 = n0 + 5 from rfl] at z5
  clear step
  have m4 : Below (n0 + 4) w4 w5 := k5
  have m3 : Below (n0 + 3) w3 w5 := k4.trans (m4.mono (by omega))
  have m2 : Below (n0 + 2) w2 w5 := k3.trans (m3.mono (by omega))
  have m1 : Below (n0 + 1) w1 w5 := bel.trans (m2.mono (by omega))
  have m0 : Below n0 w w5 := k1.trans (m1.mono (by omega))
  have AT3 := AT1.below (bel.trans (k3.mono (show n0 + 1 ≤ n0 + 2 by omega))) (Nat.lt_succ_self n0)
  have b2 := (m3.block (n0 + 2) (by omega)).trans o3
  have b3 := (m4.block (n0 + 3) (by omega)).trans o4
  have hseq := valsOf_in 4 (by decide) f hf L hwf N hN hn vp w w5 hL (by rw [hn0]; exact m0) (n0 + 4) (n0 + 3) n0 (cellAt o5 rfl) (AT4.below m4 (by omega))
  obtain ⟨G, hG⟩ : ∃ G, f.valI = G := ⟨_, rfl⟩
  rw [hG] at hseq ⊢
  rw [hn0] at hseq ⊢
  have hI0 : VaJ w n0 vp 22 #[.int .i64 f.B, .int .i64 f.D, .bool f.big, .bool f.tr, .int .i64 f.rm, .int .i64 f.gm, .int .i64 f.bm, .int .i64 f.rs, .int .i64 f.gs, .int .i64 f.bs] (([] : List (Fin N)).map fun x => G (px L x.1)) w5 := ⟨⟨_, b2, RowAt.below own (by rw [z2]; exact m2)⟩, b3, o5, m0⟩
  have HSEQ := Lib.hid hseq
  have HI0 := Lib.hid hI0
  have HC0 := Lib.hid C0
  have HN0 := Lib.hid hn0
  have HF : f.v = .agg #[.int .i64 f.B, .int .i64 f.D, .bool f.big, .bool f.tr, .int .i64 f.rm, .int .i64 f.gm, .int .i64 f.bm, .int .i64 f.rs, .int .i64 f.gs, .int .i64 f.bs] := rfl
  rw [HF] at HC0 ⊢
  have HLL := Lib.hid (fin_map L N hN G)
  clear hseq hI0 C0 HF hG AT4 m4 m3 m2 m1 m0 k1 k3 k4 k5 o1 o3 o4 o5 b2 b3 own bel hL hN hwf hf
  obtain ⟨d0, d1, d2, d3, d4, d5, d6, d7, d8, d9⟩ := AT3
  clear AT1
  skip
  obtain ⟨B, D, big, tr, rm, gm, bm, rs, gs, bs⟩ := f
  simp only at *
  subst hvp
  refine (callsIn_wide (n := 5)).1 ?_
  refine callsIn_of_wp_marks Try.func23 rfl trivial ?_ rfl
  simp only [Try.ntmps23, List.size_toArray, List.length_cons, List.length_nil, Nat.reduceAdd, Nat.reduceSub, Array.replicate_succ, Array.replicate_zero, List.push_toArray, List.append_toArray, List.nil_append, List.cons_append]
  gi_wp2
  refine ⟨trivial, (callsIn_wide.2 HC0.out).mono ?_⟩
  rintro e w' ⟨rfl, hw'⟩
  have hw' := hw'.symm
  subst hw'
  clear HC0 d0 d1 d2 d3 d4 d5 d6 d7 d8 d9 hw3 hw4 hw5 mk
  gi_wp2
  refine range_own (n := 5) (by decide) (gf := 80) (lb := #[.pointer (some ⟨n0 + 4, 0, none⟩), .pointer (some ⟨n0 + 3, 0, none⟩)]) rfl (enters_of Try.func80 (by kernel_rfl) rfl) (Bt := n0) (by omega) HSEQ.out (Below.refl _ _)
    (fun h k => h.trans k) (fun hs t => VoK.turn t (by omega) (by omega) (by omega) (by omega) (by omega) (by omega)) (fun _ => rfl) (vaI w n0 (.slice pa N cp) 22 #[.int .i64 B, .int .i64 D, .bool big, .bool tr, .int .i64 rm, .int .i64 gm, .int .i64 bm, .int .i64 rs, .int .i64 gs, .int .i64 bs] G L N)
    (fun s W W' h t => VaJ.turn h (by omega) (by decide) t) HI0.out ?round ?done
  case round =>
    intro l pre x W hl hI hlen
    rw [List.length_finRange] at hlen
    have HII := Lib.hid hI
    simp only [voE]
    have HSN := Lib.hid (fun W => @vaI_snoc w n0 (.slice pa N cp) 22 #[.int .i64 B, .int .i64 D, .bool big, .bool tr, .int .i64 rm, .int .i64 gm, .int .i64 bm, .int .i64 rs, .int .i64 gs, .int .i64 bs] G L N pre x W)
    unfold vaI at HII
    have hlb : (pre.map fun x => G (px L x.1)).length ≤ 1000000000 := by rw [List.length_map]; omega
    generalize (pre.map fun x => G (px L x.1)) = S at *
    generalize G (px L x.1) = z at *
    clear hI hlen
    gi_wp2
    refine ⟨KeepsFrom.refl _ _, ⟨fun _ _ => rfl, rfl, rfl, Nat.le_refl _⟩, fun Wb t => ?_⟩
    have hIb := HII.out.turn (by omega) (by decide) (t.weak (fun o h => .inl h) (show n0 ≤ w5.heap.size by omega))
    obtain ⟨v, hv1, hv2⟩ := hIb.box
    obtain ⟨p, cpv, hv⟩ := RowAt.shape hv2
    have c7 := cellAt (o := 0) hv1 rfl
    have hsz2 : n0 + 1 ≤ Wb.heap.size := by have := (Array.getElem?_eq_some_iff.1 hv1).1; omega
    have HD := Lib.hid (fun w1 v' (h2 : IntsAt (n0 + 1) w1 v' (S ++ [z])) ht => hIb.more (by omega) (by decide) hv1 hv2 h2 ht)
    have HV2 := Lib.hid hv2
    have HV1 := Lib.hid hv1
    subst hv
    have HLB := Lib.hid (And.intro hsz2 hlb)
    clear hv1 hv2 hIb HII t hsz2 hlb
    gi_wp2_with (gi_at_builtin; refine wplIn_int rfl _ _ rfl (.slice p S.length cpv) (n0 + 1) S rfl HV2.out HLB.out.1 HLB.out.2 z _ rfl ?_; intro v' w1 hown' ht; have hd := HD.out w1 v' hown' ht; obtain ⟨d1, d2, d3⟩ := hd; have HD3 := Lib.hid d3; obtain ⟨p', cp', hp'⟩ := RowAt.shape hown'; subst hp'; clear d3 hown' ht)
    have hd := HD3.out
    rw [show (S ++ [z]).length = S.length + 1 by simp] at hd
    exact ⟨hd.1 _, hd.2.1, HSN.out _ hd.2.2⟩
  case done =>
    intro D W hD hI hdef
    obtain ⟨v, hv1, hv2⟩ := hI.box
    rw [HLL.out] at hv2
    have c7 := cellAt (o := 0) hv1 rfl
    obtain ⟨p, cpv, hp⟩ := RowAt.shape hv2
    rw [List.length_map] at hp
    subst hp
    have HV2 := Lib.hid hv2
    have HLO := Lib.hid hI.low
    have HNE : RowKit.Hid (∀ k cs T z, W.heap[k]? = some (Obj.cells cs T z) → k ≠ D) := Lib.hid (fun k cs T z hk e => by subst e; rw [hdef] at hk; cases hk)
    clear hv1 hv2 hI
    gi_wp2
    refine ⟨by simp, .inl ⟨_, _, rfl, run_takeDeferred hdef, ?_⟩⟩
    refine ⟨_, results_tmp rfl _ _ _, ⟨_, rfl, ?_, ?_⟩⟩
    · refine (RowAt.keep HV2.out (fun k hk => World.putObj_heap_other (fun e => ?_))).base (Nat.le_succ _)
      obtain ⟨_, cs, hc⟩ := own_type HV2.out k hk
      exact HNE.out k _ _ _ hc e
    · exact HLO.out.trans ((Turn.putObj (p := noC) _ hD hdef rfl).below (by omega) (by have := HLO.out.size; omega))
end Go.Proofs.Ytmjjbapahgejmaa.Pln
