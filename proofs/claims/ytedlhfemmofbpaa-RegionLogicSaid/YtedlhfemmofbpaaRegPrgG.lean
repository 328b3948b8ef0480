/-
  The program's sets of borders and rows in memory: one more border.
-/
import Derived.Test.YtedlhfemmofbpaaRegPrgF
namespace Go.Proofs.Ytedlhfemmofbpaa.Reg
open Go.ChangeShapes Go.WideShapes Go.ChangeAt Go.RowKit Go.Shelf Lz RowG RegVal OwnL
set_option linter.unusedVariables false
set_option maxRecDepth 100000

/-- A row's block is one of numbers. -/
def IntB (w : World) (u : Value) : Prop := ∀ k, u.ownBlock = some k → ∃ cs, w.heap[k]? = some (.cells cs 3 (0, 0))
theorem IntB.lt {w : World} {u : Value} (h : IntB w u) : ∀ k, u.ownBlock = some k → k < w.heap.size := fun k hk => by
  obtain ⟨cs, hc⟩ := h k hk
  exact (Array.getElem?_eq_some_iff.1 hc).1
theorem IntB.touch {w w' : World} {u : Value} {F : Nat → Prop} (h : IntB w u) (t : Touch F w w') (hF : Off u F) : IntB w' u := fun k hk => by
  obtain ⟨cs, hc⟩ := h k hk
  exact ⟨cs, (t.block k (Array.getElem?_eq_some_iff.1 hc).1 (hF k hk)).trans hc⟩
theorem IntsAt.intB {B : Nat} {w : World} {v : Value} {l : List Int} (h : IntsAt B w v l) : IntB w v := fun k hk => (own_type h k hk).2
theorem IntB.nil (w : World) : IntB w (.slice none 0 0) := fun k hk => by simp [Value.ownBlock] at hk
def foot (Bx : Nat) (v1 v2 : Value) (k : Nat) : Prop := k = Bx ∨ v1.ownBlock = some k ∨ v2.ownBlock = some k
/-- A set that is owned: in the box Bx, its rows of borders and of rows behind B. -/
structure BandAt (B : Nat) (w : World) (Bx : Nat) (v1 v2 : Value) (V : Bnd) : Prop where
  cell : w.heap[Bx]? = some (.cells #[v1, v2] 51 (0, 0))
  bd : IntsAt B w v1 (V.map (·.1))
  rw : ∃ xs, RowAt 38 1 B w v2 V.length xs ∧ ∀ i, (h : i < V.length) → ∃ u, xs[i]? = some u ∧ IR w u V[i].2 ∧ Off u (foot Bx v1 v2) ∧ IntB w u
theorem BandAt.foot_lt {B Bx : Nat} {w : World} {v1 v2 : Value} {V : Bnd} (h : BandAt B w Bx v1 v2 V) {k : Nat} (hk : foot Bx v1 v2 k) : (k = Bx ∨ B ≤ k) ∧ ∃ cs T, w.heap[k]? = some (.cells cs T (0, 0)) ∧ (T = 51 ∨ T = 3 ∨ T = 38) := by
  obtain ⟨xs, h1, _⟩ := h.rw
  rcases hk with rfl | e | e
  · exact ⟨.inl rfl, _, _, h.cell, .inl rfl⟩
  · obtain ⟨h2, cs, hc⟩ := own_type h.bd k e
    exact ⟨.inr h2, cs, _, hc, .inr (.inl rfl)⟩
  · obtain ⟨h2, cs, hc⟩ := own_type h1 k e
    exact ⟨.inr h2, cs, _, hc, .inr (.inr rfl)⟩
theorem BandAt.touch {B Bx : Nat} {w w' : World} {v1 v2 : Value} {V : Bnd} (h : BandAt B w Bx v1 v2 V) {F : Nat → Prop} (t : Touch F w w') (hF : ∀ k, F k → ¬ foot Bx v1 v2 k ∧ ∀ cs, w.heap[k]? ≠ some (Obj.cells cs 3 (0, 0))) : BandAt B w' Bx v1 v2 V := by
  have k1 : ∀ k, foot Bx v1 v2 k → w'.heap[k]? = w.heap[k]? := fun k hk => by
    obtain ⟨_, cs, T, hc, _⟩ := h.foot_lt hk
    exact t.block k (Array.getElem?_eq_some_iff.1 hc).1 (fun e => (hF k e).1 hk)
  obtain ⟨xs, h1, h2⟩ := h.rw
  refine ⟨(k1 _ (.inl rfl)).trans h.cell, RowAt.keep h.bd (fun k e => k1 k (.inr (.inl e))), xs, RowAt.keep h1 (fun k e => k1 k (.inr (.inr e))), fun i hi => ?_⟩
  obtain ⟨u, e1, e2, e3, e4⟩ := h2 i hi
  have ho : Off u F := fun k hk hf => by
    obtain ⟨cs, hc⟩ := e4 k hk
    exact (hF k hf).2 cs hc
  exact ⟨u, e1, e2.touch t ho, e3, e4.touch t ho⟩
theorem BandAt.below {B Bx : Nat} {w w' : World} {v1 v2 : Value} {V : Bnd} (h : BandAt B w Bx v1 v2 V) (k : Below w.heap.size w w') : BandAt B w' Bx v1 v2 V := h.touch (F := fun _ => False) (Touch.of_below k) (fun _ e => e.elim)
theorem Turn.touch {p : Obj → Prop} {B : Nat} {W W' : World} (t : Turn p B W W') : Touch (fun k => ∃ o, W.heap[k]? = some o ∧ p o) W W' :=
  ⟨t.os, t.tape, t.output, t.size, fun k hk hF => (t.block k hk).elim id (fun ⟨_, h⟩ => absurd h hF)⟩
theorem mine_not {o : Obj} (h : mine 62 o) {cs : Array Value} {T : TypeId} {z : Nat × Nat} (e : o = .cells cs T z) : T = 62 := by
  subst e
  rcases h with h | ⟨_, _, h⟩
  · simp [noC, Obj.isCells] at h
  · cases h; rfl
theorem BandAt.turn {B Bx C : Nat} {w w' : World} {v1 v2 : Value} {V : Bnd} (h : BandAt B w Bx v1 v2 V) (t : Turn (mine 62) C w w') : BandAt B w' Bx v1 v2 V := by
  refine h.touch (Turn.touch t) (fun k hk => ?_)
  obtain ⟨o, ho, hm⟩ := hk
  refine ⟨fun hf => ?_, fun cs hc => ?_⟩
  · obtain ⟨_, cs, T, hc, hT⟩ := h.foot_lt hf
    have := mine_not hm (by rw [ho] at hc; exact Option.some.inj hc)
    subst this
    exact absurd hT (by decide)
  · exact absurd (mine_not hm (by rw [ho] at hc; exact Option.some.inj hc)) (by decide)
theorem BandAt.sees {B Bx : Nat} {w : World} {v1 v2 : Value} {V : Bnd} (h : BandAt B w Bx v1 v2 V) : SeesB w (.agg #[v1, v2]) V := by
  obtain ⟨xs, h1, h2⟩ := h.rw
  refine ⟨v1, v2, rfl, h.bd.ir, xs, by rw [List.length_map]; exact RowAt.sees h1, fun i hi => ?_⟩
  rw [List.length_map] at hi
  obtain ⟨u, e1, e2, _⟩ := h2 i hi
  exact ⟨u, e1, by rw [List.getElem_map]; exact e2⟩
theorem BandAt.base {B C Bx : Nat} {w : World} {v1 v2 : Value} {V : Bnd} (h : BandAt B w Bx v1 v2 V) (hC : C ≤ B) : BandAt C w Bx v1 v2 V := by
  obtain ⟨xs, h1, h2⟩ := h.rw
  exact ⟨h.cell, RowAt.base h.bd hC, xs, h1.base hC, h2⟩
/-- A set that was made from n on. -/
def FreshB (n : Nat) (w : World) (u : Value) (V : Bnd) : Prop := ∃ Bx v1 v2, u = .agg #[v1, v2] ∧ n ≤ Bx ∧ BandAt n w Bx v1 v2 V
theorem FreshB.sees {n : Nat} {w : World} {u : Value} {V : Bnd} (h : FreshB n w u V) : SeesB w u V := by
  obtain ⟨Bx, v1, v2, rfl, _, h⟩ := h
  exact h.sees
theorem FreshB.below {n : Nat} {w w' : World} {u : Value} {V : Bnd} (h : FreshB n w u V) (k : Below w.heap.size w w') : FreshB n w' u V := by
  obtain ⟨Bx, v1, v2, e, h0, h⟩ := h
  exact ⟨Bx, v1, v2, e, h0, h.below k⟩
theorem FreshB.base {n m : Nat} {w : World} {u : Value} {V : Bnd} (h : FreshB n w u V) (hm : m ≤ n) : FreshB m w u V := by
  obtain ⟨Bx, v1, v2, e, h0, h⟩ := h
  exact ⟨Bx, v1, v2, e, by omega, h.base hm⟩
/-- A variable that lay ahead is written. -/
theorem FreshB.set {n k i : Nat} {w : World} {u v : Value} {V : Bnd} (h : FreshB n w u V) (hk : k < n) {cs : Array Value} {T : TypeId} {z : Nat × Nat} (hT : w.heap[k]? = some (.cells cs T z)) (hn : T ≠ 3) : FreshB n (w.setCell ⟨k, i, none⟩ v) u V := by
  obtain ⟨Bx, v1, v2, e, h0, h⟩ := h
  refine ⟨Bx, v1, v2, e, h0, h.touch (F := fun j => j = k) (Touch.set rfl) (fun j hj => ?_)⟩
  subst hj
  refine ⟨fun hf => ?_, fun cs' hc => ?_⟩
  · have := (h.foot_lt hf).1
    omega
  · rw [hT] at hc; cases hc; exact hn rfl
theorem frozenAt {w : World} {k o : Nat} {cs : Array Value} {T : TypeId} (h : w.heap[k]? = some (.cells cs T (0, 0))) : w.frozen? ⟨k, o, none⟩ = false := by
  unfold World.frozen?
  simp only [h]
  simp
set_option maxHeartbeats 4000000 in
theorem add_any {B Bx : Nat} {w : World} {v1 v2 : Value} {V : Bnd} (h : BandAt B w Bx v1 v2 V) (hB : B ≤ w.heap.size) (hV : V.length ≤ 1000000) (y : Int) (u : Value) (r : List Int) (hu : IR w u r) (ho : Off u (foot Bx v1 v2)) (hul : IntB w u) :
    Calls Try.prog 52 #[.pointer (some ⟨Bx, 0, none⟩), .int .i64 y, u] w fun e w' => e = .returned (.tuple #[]) ∧ ∃ v1' v2', BandAt B w' Bx v1' v2' (V ++ [(y, r)]) ∧ Touch (foot Bx v1 v2) w w' ∧ ∀ k, foot Bx v1' v2' k → foot Bx v1 v2 k ∨ w.heap.size ≤ k := by
  obtain ⟨pu, cu, hpu⟩ := hu.form
  have hcell := h.cell
  have c0 : w.cell? ⟨Bx, 0, none⟩ = some v1 := cellAt hcell rfl
  have c1 : w.cell? ⟨Bx, 1, none⟩ = some v2 := cellAt hcell rfl
  have hf0 := frozenAt (o := 0) hcell
  have hlt : Bx < w.heap.size := (Array.getElem?_eq_some_iff.1 hcell).1
  obtain ⟨xs, hxs, hrows⟩ := h.rw
  obtain ⟨q1, k1, e1⟩ := RowAt.shape h.bd
  obtain ⟨q2, k2, e2⟩ := RowAt.shape hxs
  obtain ⟨YS, hYS⟩ : ∃ YS, V.map (·.1) = YS := ⟨_, rfl⟩
  have hbd := h.bd
  rw [hYS] at hbd e1
  have HYS := Lib.hid hYS
  have HBD := Lib.hid hbd
  have HXS := Lib.hid hxs
  have HROWS := Lib.hid hrows
  have HU := Lib.hid hu
  have HO := Lib.hid ho
  have HUL := Lib.hid hul
  have HLEN : RowKit.Hid (YS.length ≤ 1000000000 ∧ V.length ≤ 1000000000) := Lib.hid ⟨by rw [← hYS, List.length_map]; omega, by omega⟩
  have hml : YS.length = V.length := by rw [← hYS]; exact List.length_map _
  have HC := Lib.hid hcell
  have hBs := Lib.hid hB
  obtain ⟨m, hm⟩ : ∃ m, V.length = m := ⟨_, rfl⟩
  obtain ⟨ru, hru⟩ : ∃ ru, r.length = ru := ⟨_, rfl⟩
  rw [hml, hm] at e1
  rw [hm] at e2
  rw [hru] at hpu
  have HMM := Lib.hid hm
  subst e1 e2 hpu
  clear hbd hYS h hu hul hrows hxs hcell hV hml hm hru ho hB
  go_enter Try.func52, Try.ntmps52
  have hs1 : ∀ w1 v', RowAt 3 1 B w1 v' (YS.length + 1) (ints YS ++ [.int .i64 y]) → Touch (fun k => (Value.slice q1 m k1).ownBlock = some k) w w1 → (∀ k, v'.ownBlock = some k → (Value.slice q1 m k1).ownBlock = some k ∨ w.heap.size ≤ k) → w1.heap[Bx]? = some (.cells #[.slice q1 m k1, .slice q2 m k2] 51 (0, 0)) := fun w1 v' h1 ht hn => by
    refine (ht.block Bx hlt (fun e => ?_)).trans HC.out
    obtain ⟨_, cs, hc⟩ := own_type HBD.out Bx e
    rw [HC.out] at hc
    cases hc
  have HS1 := Lib.hid hs1
  clear hs1
  go_upto_region 1 with (at_builtin; refine wpl_app1 rfl _ _ 38 3 (.int .i64 0) 8 Try.underlying38 info_num rfl (by decide) rfl (.slice q1 m k1) B YS.length (ints YS) rfl HBD.out hBs.out HLEN.out.1 (.int .i64 y) rfl _ rfl ?_; intro v1' w1 hr1 ht1 hn1; have hh := HS1.out w1 v1' hr1 ht1 hn1; have d0 : w1.cell? ⟨Bx, 0, none⟩ = some (.slice q1 m k1) := cellAt hh rfl; have df := frozenAt (o := 0) hh; have HH := Lib.hid hh; obtain ⟨p1, n1, hp1⟩ := RowAt.shape hr1; subst hp1; have HR1 := Lib.hid hr1; have HT1 := Lib.hid ht1; have HN1 := Lib.hid hn1; clear hh hr1 ht1 hn1)
  have hNN : YS.length + 1 = m + 1 := by rw [← HYS.out, List.length_map, HMM.out]
  have HNN := Lib.hid hNN
  clear d0 df hNN
  obtain ⟨w2, hw2⟩ : ∃ w2, w1.setCell ⟨Bx, 0, none⟩ (.slice p1 (m + 1) n1) = w2 := ⟨_, rfl⟩
  have hR1 := HR1.out
  rw [HNN.out] at hR1
  have t2 : Touch (fun k => (Value.slice q1 m k1).ownBlock = some k ∨ k = Bx) w w2 := by
    rw [← hw2]
    exact Touch.trans ⟨HT1.out.os, HT1.out.tape, HT1.out.output, HT1.out.size, fun k hk hF => HT1.out.block k hk (fun e => hF (.inl e))⟩ (Touch.set (.inr rfl))
  have hh2 : w2.heap[Bx]? = some (.cells #[.slice p1 (m + 1) n1, .slice q2 m k2] 51 (0, 0)) := by rw [← hw2]; exact setRowAt HH.out rfl
  have hr2 : RowAt 3 1 B w2 (.slice p1 (m + 1) n1) (m + 1) (ints YS ++ [.int .i64 y]) := RowAt.keep hR1 (fun k hk => by
    rw [← hw2]
    refine setOther (fun e => ?_)
    subst e
    obtain ⟨_, cs, hc⟩ := own_type hR1 _ hk
    rw [HH.out] at hc
    cases hc)
  have hx2 : RowAt 38 1 B w2 (.slice q2 m k2) V.length xs := RowAt.keep HXS.out (fun k hk => by
    obtain ⟨_, cs, hc⟩ := own_type HXS.out k hk
    refine t2.block k (Array.getElem?_eq_some_iff.1 hc).1 (fun e => ?_)
    rcases e with e | e
    · obtain ⟨_, cs', hc'⟩ := own_type HBD.out k e
      rw [hc] at hc'; cases hc'
    · subst e; rw [HC.out] at hc; cases hc)
  have z2 : w.heap.size ≤ w2.heap.size := t2.size
  have e1 : w2.cell? ⟨Bx, 1, none⟩ = some (.slice q2 m k2) := cellAt hh2 rfl
  have ef := frozenAt (o := 1) hh2
  have HH2 := Lib.hid hh2
  have HR2 := Lib.hid hr2
  have HX2 := Lib.hid hx2
  have HT2 := Lib.hid t2
  have hB2 : RowKit.Hid (B ≤ w2.heap.size) := Lib.hid (Nat.le_trans hBs.out z2)
  clear t2 hh2 hr2 hx2 hR1 c0 c1 hf0 HS1
  have hlt2 : Bx < w2.heap.size := Nat.lt_of_lt_of_le hlt z2
  have hs2 : ∀ w3 : World, Touch (fun k => (Value.slice q2 m k2).ownBlock = some k) w2 w3 → w3.heap[Bx]? = some (.cells #[.slice p1 (m + 1) n1, .slice q2 m k2] 51 (0, 0)) := fun w3 ht => by
    refine (ht.block Bx hlt2 (fun e => ?_)).trans HH2.out
    obtain ⟨_, cs, hc⟩ := own_type HX2.out Bx e
    rw [HH2.out] at hc
    cases hc
  have HS2 := Lib.hid hs2
  clear hs2
  first | rw [hw2] | (rw [HNN.out, hw2]) | skip
  clear hw2
  go_wp2_with (at_builtin; refine wpl_app1 rfl _ _ 49 38 (.slice none 0 0) 24 Try.underlying49 info_row rfl (by decide) rfl (.slice q2 m k2) B V.length xs rfl HX2.out hB2.out HLEN.out.2 (.slice pu ru cu) rfl _ rfl ?_; intro v2' w3 hr3 ht3 hn3; have hh := HS2.out w3 ht3; have d0 : w3.cell? ⟨Bx, 1, none⟩ = some (.slice q2 m k2) := cellAt hh rfl; have df := frozenAt (o := 1) hh; have HH3 := Lib.hid hh; obtain ⟨p2, n2, hp2⟩ := RowAt.shape hr3; subst hp2; have HR3 := Lib.hid hr3; have HT3 := Lib.hid ht3; have HN3 := Lib.hid hn3; clear hh hr3 ht3 hn3)
  have hR3 := HR3.out
  rw [HMM.out] at hR3
  have hw4 : ∃ w4, w3.setCell ⟨Bx, 1, none⟩ (.slice p2 (m + 1) n2) = w4 := ⟨_, rfl⟩
  obtain ⟨w4, hw4⟩ := hw4
  have t4 : Touch (fun k => (Value.slice q2 m k2).ownBlock = some k ∨ k = Bx) w2 w4 := by
    rw [← hw4]
    exact Touch.trans ⟨HT3.out.os, HT3.out.tape, HT3.out.output, HT3.out.size, fun k hk hF => HT3.out.block k hk (fun e => hF (.inl e))⟩ (Touch.set (.inr rfl))
  have hh4 : w4.heap[Bx]? = some (.cells #[.slice p1 (m + 1) n1, .slice p2 (m + 1) n2] 51 (0, 0)) := by rw [← hw4]; exact setRowAt HH3.out rfl
  have hr4 : RowAt 38 1 B w4 (.slice p2 (m + 1) n2) (m + 1) (xs ++ [.slice pu ru cu]) := RowAt.keep hR3 (fun k hk => by
    rw [← hw4]
    refine setOther (fun e => ?_)
    subst e
    obtain ⟨_, cs, hc⟩ := own_type hR3 _ hk
    rw [HH3.out] at hc
    cases hc)
  have hb4 : RowAt 3 1 B w4 (.slice p1 (m + 1) n1) (m + 1) (ints YS ++ [.int .i64 y]) := RowAt.keep HR2.out (fun k hk => by
    obtain ⟨_, cs, hc⟩ := own_type HR2.out k hk
    refine t4.block k (Array.getElem?_eq_some_iff.1 hc).1 (fun e => ?_)
    rcases e with e | e
    · obtain ⟨_, cs', hc'⟩ := own_type HX2.out k e
      rw [hc] at hc'; cases hc'
    · subst e; rw [HH2.out] at hc; cases hc)
  have new : ∀ k, foot Bx (.slice p1 (m + 1) n1) (.slice p2 (m + 1) n2) k → foot Bx (.slice q1 m k1) (.slice q2 m k2) k ∨ w.heap.size ≤ k := fun k hk => by
    rcases hk with h | h | h
    · exact .inl (.inl h)
    · rcases HN1.out k (by rw [← HNN.out] at h; exact h) with h | h
      · exact .inl (.inr (.inl h))
      · exact .inr h
    · rcases HN3.out k (by rw [← HMM.out] at h; exact h) with h | h
      · exact .inl (.inr (.inr h))
      · exact .inr (Nat.le_trans z2 h)
  have off : ∀ u : Value, Off u (foot Bx (.slice q1 m k1) (.slice q2 m k2)) → (∀ k, u.ownBlock = some k → k < w.heap.size) → Off u (foot Bx (.slice p1 (m + 1) n1) (.slice p2 (m + 1) n2)) := fun u h1 h2 k hk hf => by
    rcases new k hf with h | h
    · exact h1 k hk h
    · have := h2 k hk; omega
  have keep : ∀ (u : Value) (l : List Int), IR w u l → Off u (foot Bx (.slice q1 m k1) (.slice q2 m k2)) → IR w4 u l := fun u l h1 h2 =>
    (h1.touch HT2.out (fun k hk e => h2 k hk (by rcases e with e | e; exact .inr (.inl e); exact .inl e))).touch t4 (fun k hk e => h2 k hk (by rcases e with e | e; exact .inr (.inr e); exact .inl e))
  have keepB : ∀ u : Value, IntB w u → Off u (foot Bx (.slice q1 m k1) (.slice q2 m k2)) → IntB w4 u := fun u h1 h2 =>
    (h1.touch HT2.out (fun k hk e => h2 k hk (by rcases e with e | e; exact .inr (.inl e); exact .inl e))).touch t4 (fun k hk e => h2 k hk (by rcases e with e | e; exact .inr (.inr e); exact .inl e))
  have z4 : w.heap.size ≤ w4.heap.size := Nat.le_trans z2 t4.size
  have FIN : RowKit.Hid (∃ v1' v2', BandAt B w4 Bx v1' v2' (V ++ [(y, r)]) ∧ Touch (foot Bx (.slice q1 m k1) (.slice q2 m k2)) w w4 ∧ ∀ k, foot Bx v1' v2' k → foot Bx (.slice q1 m k1) (.slice q2 m k2) k ∨ w.heap.size ≤ k) := Lib.hid (by
    refine ⟨_, _, ⟨hh4, ?_, xs ++ [.slice pu ru cu], ?_, fun i hi => ?_⟩, Touch.trans ⟨HT2.out.os, HT2.out.tape, HT2.out.output, HT2.out.size, fun k hk hF => HT2.out.block k hk (fun e => hF (by rcases e with e | e; exact .inr (.inl e); exact .inl e))⟩ ⟨t4.os, t4.tape, t4.output, t4.size, fun k hk hF => t4.block k hk (fun e => hF (by rcases e with e | e; exact .inr (.inr e); exact .inl e))⟩, new⟩
    · have e : (V ++ [(y, r)]).map (·.1) = YS ++ [y] := by rw [List.map_append, HYS.out]; rfl
      rw [e]
      show RowAt _ 1 B w4 _ (YS ++ [y]).length (ints (YS ++ [y]))
      rw [List.length_append, ints_append, List.length_singleton, HNN.out]
      exact hb4
    · rw [List.length_append, List.length_singleton, HMM.out]
      exact hr4
    · rw [List.length_append, List.length_singleton] at hi
      have hxl : xs.length = V.length := by have := RowAt.size HXS.out; omega
      by_cases hlast : i < V.length
      · obtain ⟨u, a1, a2, a3, a4⟩ := HROWS.out i hlast
        refine ⟨u, by rw [List.getElem?_append_left (by omega)]; exact a1, ?_, off u a3 a4.lt, keepB u a4 a3⟩
        rw [List.getElem_append_left hlast]
        exact keep u _ a2 a3
      · have : i = V.length := by omega
        subst this
        refine ⟨.slice pu ru cu, by rw [List.getElem?_append_right (by omega), hxl]; simp, ?_, off _ HO.out HUL.out.lt, keepB _ HUL.out HO.out⟩
        rw [List.getElem_append_right (by omega)]
        simp only [Nat.sub_self, List.getElem_cons_zero]
        exact keep _ _ HU.out HO.out)
  clear t4 hh4 hr4 hb4 new off keep keepB hR3
  first | rw [hw4] | (rw [HMM.out, hw4]) | skip
  go_end0
  exact ⟨rfl, FIN.out⟩
end Go.Proofs.Ytedlhfemmofbpaa.Reg
