/-
  The program's sets, joined: a loop over the borders of two sets, side by side.
-/
import Derived.Test.YtedlhfemmofbpaaRegPrgG
import Derived.Test.YtedlhfemmofbpaaRegPredI
namespace Go.Proofs.Ytedlhfemmofbpaa.Reg
open Go.ChangeShapes Go.WideShapes Go.ChangeAt Go.RowKit Go.Shelf Lz RowG RegVal OwnL
set_option linter.unusedVariables false
set_option maxRecDepth 100000
attribute [local go_sem] Oper.semAt_some

def foldB (T : Nat → Nat → List Int) (L : List Stp) (pre : List (Fin L.length)) : Bnd := foldJ T [] [] (pre.map fun x => L[x.1])
theorem foldB_all (T : Nat → Nat → List Int) (L : List Stp) : foldB T L (List.finRange L.length) = foldJ T [] [] L := by
  unfold foldB
  congr 1
  apply List.ext_getElem
  · simp
  · intro i h1 h2
    simp
theorem foldB_snoc (T : Nat → Nat → List Int) (L : List Stp) (pre : List (Fin L.length)) (x : Fin L.length) : foldB T L (pre ++ [x]) = stepJ T [] (foldB T L pre) L[x.1] := by
  unfold foldB
  rw [List.map_append, List.map_cons, List.map_nil, foldJ_snoc]
theorem foldB_len (T : Nat → Nat → List Int) (L : List Stp) (pre : List (Fin L.length)) : (foldB T L pre).length ≤ pre.length := by
  have := foldJ_length T [] [] (pre.map fun x => L[x.1])
  rw [List.length_map] at this
  simpa [foldB] using this
/-- What the loop that joins two sets holds. -/
structure BndI (T : Nat → Nat → List Int) (L : List Stp) (w : World) (n0 : Nat) (kv a1 a2 b1 b2 : Value) (pre : List (Fin L.length)) (W : World) : Prop where
  ga : W.heap[n0]? = some (.cells #[a1, a2] 51 (0, 0))
  gb : W.heap[n0 + 1]? = some (.cells #[b1, b2] 51 (0, 0))
  keep : W.heap[n0 + 2]? = some (.cells #[kv] 43 (0, 0))
  res : W.heap[n0 + 3]? = some (.cells #[.slice none 0 0, .slice none 0 0] 51 (0, 0))
  set : ∃ v1 v2, BandAt (n0 + 8) W (n0 + 4) v1 v2 (foldB T L pre) ∧ ∃ lu, W.heap[n0 + 5]? = some (.cells #[lu] 38 (0, 0)) ∧ IR W lu (lastV [] (foldB T L pre)) ∧ Off lu (foot (n0 + 4) v1 v2) ∧ IntB W lu
  ba : W.heap[n0 + 6]? = some (.cells #[a1] 38 (0, 0))
  bb : W.heap[n0 + 7]? = some (.cells #[b1] 38 (0, 0))
  low : Below n0 w W
theorem BndI.turn {T : Nat → Nat → List Int} {L : List Stp} {w : World} {n0 : Nat} {kv a1 a2 b1 b2 : Value} {pre : List (Fin L.length)} {W W' : World} {B : Nat} (h : BndI T L w n0 kv a1 a2 b1 b2 pre W) (t : Turn (mine 62) B W W') (hB : n0 ≤ B) : BndI T L w n0 kv a1 a2 b1 b2 pre W' := by
  obtain ⟨v1, v2, h1, lu, h2, h3, h4, h5⟩ := h.set
  have hw : n0 ≤ W.heap.size := by have := (Array.getElem?_eq_some_iff.1 h.ga).1; omega
  have ho : Off lu (fun k => ∃ o, W.heap[k]? = some o ∧ mine 62 o) := fun k hk hf => by
    obtain ⟨cs, hc⟩ := h5 k hk
    obtain ⟨o, ho, hm⟩ := hf
    exact absurd (mine_not hm (by rw [ho] at hc; exact Option.some.inj hc)) (by decide)
  exact ⟨box_turn t h.ga (by decide), box_turn t h.gb (by decide), box_turn t h.keep (by decide), box_turn t h.res (by decide), ⟨v1, v2, h1.turn t, lu, box_turn t h2 (by decide), h3.touch (Turn.touch t) ho, h4, h5.touch (Turn.touch t) ho⟩, box_turn t h.ba (by decide), box_turn t h.bb (by decide), h.low.trans (t.below hB hw)⟩
/-- What the calls of one round leave. -/
def rndV (Wp : Nat) (i j : Int) (kv : Value) : Nat → Option Value
  | 0 => some (.pointer (some ⟨Wp, 0, none⟩))
  | 1 => some (.int .i64 i)
  | 3 => some (.pointer (some ⟨Wp, 1, none⟩))
  | 4 => some (.int .i64 j)
  | 6 => some kv
  | _ => none
def rndR (n : Nat) (ra rb r : List Int) : Nat → Value → World → Prop
  | 2, v, w => IR w v ra
  | 5, v, w => IR w v rb
  | 7, v, w => IntsAt n w v r
  | 8, v, w => IntsAt n w v r
  | _, _, _ => True
theorem rndR_keep {n : Nat} {ra rb r : List Int} {i : Nat} {v : Value} {w w' : World} (h : rndR n ra rb r i v w) (b : Below w.heap.size w w') : rndR n ra rb r i v w' := by
  unfold rndR at *
  split <;> first | exact IR.below h b | exact IntsAt.below h b | trivial
theorem rowJ_len (f : Bool → Bool → Bool) (a b : List Int) : (rowJ f a b).length ≤ a.length + b.length := by
  unfold rowJ
  rw [List.length_map]
  have h1 := foldJ_length (rowT f) false [] (run (a.length + b.length) a b 0 0)
  have h2 := run_length (a.length + b.length) a b 0 0
  simp only [List.length_nil] at h1
  omega
theorem foldJ_mem {T : Nat → Nat → List Int} (L : List Stp) : ∀ (S : Bnd), (∀ e ∈ S, ∃ i j, e.2 = T i j) → ∀ e ∈ foldJ T [] S L, ∃ i j, e.2 = T i j := by
  induction L with
  | nil => intro S h; exact h
  | cons s r ih =>
    intro S h
    refine ih _ (fun e he => ?_)
    unfold stepJ at he
    split at he
    · exact h e he
    · rcases List.mem_append.1 he with he | he
      · exact h e he
      · simp at he; exact ⟨s.i, s.j, by rw [he]⟩
theorem foldB_last {T : Nat → Nat → List Int} {m : Nat} (hT : ∀ i j, (T i j).length ≤ m) (L : List Stp) (pre : List (Fin L.length)) : (lastV [] (foldB T L pre)).length ≤ m :=
  lastV_mem (P := fun l : List Int => l.length ≤ m) (by simp) (fun e he => by
    obtain ⟨i, j, h⟩ := foldJ_mem _ [] (fun e h => absurd h (by simp)) e he
    rw [h]; exact hT i j)
/-- A round that adds nothing. -/
theorem bnd_same {T : Nat → Nat → List Int} {L : List Stp} {w : World} {n0 : Nat} {kv a1 a2 b1 b2 : Value} {pre : List (Fin L.length)} {x : Fin L.length} {W W' : World} (h : BndI T L w n0 kv a1 a2 b1 b2 pre W) (k : Below W.heap.size W W') (he : foldB T L (pre ++ [x]) = foldB T L pre) :
    KeepsFrom (n0 + 8) W W' ∧ SideK n0 (n0 + 6) (n0 + 7) W W' ∧ BndI T L w n0 kv a1 a2 b1 b2 (pre ++ [x]) W' := by
  obtain ⟨v1, v2, h1, lu, h2, h3, h4, h5⟩ := h.set
  have lt := fun {k : Nat} {o : Obj} (e : W.heap[k]? = some o) => (Array.getElem?_eq_some_iff.1 e).1
  have l1 := lt h.ba
  have l2 := lt h.bb
  have hs := (Touch.of_below (F := fun _ => False) k).side (n0 := n0) (Ba := n0 + 6) (Bb := n0 + 7) (by omega) l1 l2 (fun _ e => e.elim)
  refine ⟨hs.2 _, hs.1, (k.block _ (lt h.ga)).trans h.ga, (k.block _ (lt h.gb)).trans h.gb, (k.block _ (lt h.keep)).trans h.keep, (k.block _ (lt h.res)).trans h.res, ⟨v1, v2, by rw [he]; exact h1.below k, lu, (k.block _ (lt h2)).trans h2, by rw [he]; exact h3.below k, h4, h5.touch (Touch.of_below (F := fun _ => False) k) (fun _ _ e => e)⟩, (k.block _ l1).trans h.ba, (k.block _ l2).trans h.bb, h.low.trans hs.1.low⟩
/-- A round that adds a border. -/
theorem bnd_more {T : Nat → Nat → List Int} {L : List Stp} {w : World} {n0 : Nat} {kv a1 a2 b1 b2 : Value} {pre : List (Fin L.length)} {x : Fin L.length} {W Wd W' : World} {v1 v2 v1' v2' lu u : Value} {z : Int} {r : List Int} (h : BndI T L w n0 kv a1 a2 b1 b2 pre W) (k : Below W.heap.size W Wd) (he : foldB T L (pre ++ [x]) = foldB T L pre ++ [(z, r)])
    (hb : BandAt (n0 + 8) W (n0 + 4) v1 v2 (foldB T L pre)) (hlu : W.heap[n0 + 5]? = some (.cells #[lu] 38 (0, 0))) (hb' : BandAt (n0 + 8) W' (n0 + 4) v1' v2' (foldB T L pre ++ [(z, r)])) (t : Touch (foot (n0 + 4) v1 v2) Wd W') (hn : ∀ k, foot (n0 + 4) v1' v2' k → foot (n0 + 4) v1 v2 k ∨ Wd.heap.size ≤ k)
    (hu : IR Wd u r) (ho : Off u (foot (n0 + 4) v1 v2)) (hi : IntB Wd u) :
    W'.cell? ⟨n0 + 5, 0, none⟩ = some lu ∧ W'.frozen? ⟨n0 + 5, 0, none⟩ = false ∧
    (KeepsFrom (n0 + 8) W (W'.setCell ⟨n0 + 5, 0, none⟩ u) ∧ SideK n0 (n0 + 6) (n0 + 7) W (W'.setCell ⟨n0 + 5, 0, none⟩ u) ∧ BndI T L w n0 kv a1 a2 b1 b2 (pre ++ [x]) (W'.setCell ⟨n0 + 5, 0, none⟩ u)) := by
  have lt := fun {k : Nat} {o : Obj} (e : W.heap[k]? = some o) => (Array.getElem?_eq_some_iff.1 e).1
  have ft : ∀ k, foot (n0 + 4) v1 v2 k → (k = n0 + 4 ∨ n0 + 8 ≤ k) ∧ ∃ cs T, W.heap[k]? = some (.cells cs T (0, 0)) ∧ (T = 51 ∨ T = 3 ∨ T = 38) := fun k hk => hb.foot_lt hk
  have old : ∀ (k : Nat) (o : Obj), W.heap[k]? = some o → k ≠ n0 + 4 → k < n0 + 8 → W'.heap[k]? = some o := fun i o hi h1 h2 =>
    (t.block i (Nat.lt_of_lt_of_le (lt hi) k.size) (fun e => by rcases (ft i e).1 with h | h <;> omega)).trans ((k.block i (lt hi)).trans hi)
  have e5 := old _ _ hlu (by omega) (by omega)
  have l1 := lt h.ba
  have l2 := lt h.bb
  have tt : Touch (fun k => foot (n0 + 4) v1 v2 k ∨ k = n0 + 5) W (W'.setCell ⟨n0 + 5, 0, none⟩ u) :=
    (Touch.of_below k).trans (Touch.trans ⟨t.os, t.tape, t.output, t.size, fun k hk hF => t.block k hk (fun e => hF (.inl e))⟩ (Touch.set (.inr rfl)))
  have hs := tt.side (n0 := n0) (Ba := n0 + 6) (Bb := n0 + 7) (by omega) l1 l2 (fun i hk => by
    rcases hk with hk | rfl
    · obtain ⟨q1, cs, T', q2, q3⟩ := ft i hk
      refine ⟨by omega, by omega, by omega, fun o ho => ⟨cs, T', (0, 0), ?_, ?_⟩⟩
      · rw [q2] at ho; cases ho; rfl
      · rintro rfl
        exact absurd q3 (by decide)
    · exact ⟨by omega, by omega, by omega, fun o ho => ⟨_, 38, (0, 0), by rw [hlu] at ho; cases ho; rfl, by decide⟩⟩)
  have set : ∀ (k : Nat) (o : Obj), W'.heap[k]? = some o → k ≠ n0 + 5 → (W'.setCell ⟨n0 + 5, 0, none⟩ u).heap[k]? = some o := fun i o hi h1 => (setOther h1).trans hi
  have t5 : Touch (fun k => k = n0 + 5) W' (W'.setCell ⟨n0 + 5, 0, none⟩ u) := Touch.set rfl
  have nf : ¬ foot (n0 + 4) v1' v2' (n0 + 5) := fun hf => by
    rcases hn _ hf with h6 | h6
    · rcases (ft _ h6).1 with h7 | h7 <;> omega
    · have := k.size; omega
  have ho5 : Off u (fun k => k = n0 + 5) := fun i hk e => by
    subst e
    obtain ⟨cs, hc⟩ := hi _ hk
    have := (k.block (n0 + 5) (lt hlu)).trans hlu
    rw [hc] at this
    cases this
  refine ⟨cellAt e5 rfl, frozenAt e5, hs.2 _, hs.1, set _ _ (old _ _ h.ga (by omega) (by omega)) (by omega), set _ _ (old _ _ h.gb (by omega) (by omega)) (by omega), set _ _ (old _ _ h.keep (by omega) (by omega)) (by omega), set _ _ (old _ _ h.res (by omega) (by omega)) (by omega), ⟨v1', v2', ?_, u, setRowAt e5 rfl, ?_, ?_, ?_⟩, set _ _ (old _ _ h.ba (by omega) (by omega)) (by omega), set _ _ (old _ _ h.bb (by omega) (by omega)) (by omega), h.low.trans hs.1.low⟩
  · rw [he]
    refine hb'.touch t5 (fun i hk => ⟨fun hf => ?_, fun cs hc => ?_⟩)
    · subst hk; exact nf hf
    · subst hk; rw [e5] at hc; cases hc
  · rw [he, lastV_snoc]
    exact (hu.touch t ho).touch t5 ho5
  · intro i hk hf
    rcases hn i hf with h6 | h6
    · exact ho i hk h6
    · have := hi.lt i hk; omega
  · exact (hi.touch t ho).touch t5 ho5
set_option maxHeartbeats 16000000 in
theorem join_any {g : Nat} {f : Bool → Bool → Bool} (K : Keeps g f) (A B : Bnd) (va vb : Value) (w : World) (hla : A.length ≤ 50000) (hlb : B.length ≤ 50000) (hra : ∀ e ∈ A, e.2.length ≤ 50000) (hrb : ∀ e ∈ B, e.2.length ≤ 50000) (ha : SeesB w va A) (hb : SeesB w vb B) :
    Calls Try.prog 39 #[va, vb, .func (.func g) #[] #[]] w fun e w' => ∃ u, e = .returned u ∧ FreshB w.heap.size w' u (bndJ f A B) ∧ Below w.heap.size w w' := by
  obtain ⟨a1, a2, rfl, ia, ra⟩ := ha
  obtain ⟨b1, b2, rfl, ib, rb⟩ := hb
  obtain ⟨n0, hn0⟩ : ∃ n0, w.heap.size = n0 := ⟨_, rfl⟩
  obtain ⟨pa, ca, hpa⟩ := ia.form
  obtain ⟨pb, cb, hpb⟩ := ib.form
  have HRA := Lib.hid ra
  have HRB := Lib.hid rb
  obtain ⟨xa, sa, _⟩ := ra
  obtain ⟨pa2, ca2, hpa2⟩ := Sees.form sa
  obtain ⟨xb, sb, _⟩ := rb
  obtain ⟨pb2, cb2, hpb2⟩ := Sees.form sb
  rw [List.length_map] at hpa hpa2 hpb hpb2
  obtain ⟨na, hna⟩ : ∃ na, A.length = na := ⟨_, rfl⟩
  obtain ⟨nb, hnb⟩ : ∃ nb, B.length = nb := ⟨_, rfl⟩
  rw [hna] at hpa hpa2
  rw [hnb] at hpb hpb2
  subst hpa hpa2 hpb hpb2
  have step := fun (w : World) (cs : Array Value) (T : TypeId) => And.intro (alloc_size w (.cells cs T)) (And.intro (heap_alloc_new w (.cells cs T)) ((Below.refl w.heap.size w).alloc (Nat.le_refl _) (.cells cs T)))
  obtain ⟨z1, o1, k1⟩ := step w #[.slice pa na ca, .slice pa2 na ca2] 51
  obtain ⟨w1, hw1⟩ : ∃ w1, w.alloc (.cells #[.slice pa na ca, .slice pa2 na ca2] 51) = w1 := ⟨_, rfl⟩
  rw [hw1] at z1 o1 k1
  obtain ⟨z2, o2, k2⟩ := step w1 #[.slice pb nb cb, .slice pb2 nb cb2] 51
  obtain ⟨w2, hw2⟩ : ∃ w2, w1.alloc (.cells #[.slice pb nb cb, .slice pb2 nb cb2] 51) = w2 := ⟨_, rfl⟩
  rw [hw2] at z2 o2 k2
  obtain ⟨z3, o3, k3⟩ := step w2 #[.func (.func g) #[] #[]] 43
  obtain ⟨w3, hw3⟩ : ∃ w3, w2.alloc (.cells #[.func (.func g) #[] #[]] 43) = w3 := ⟨_, rfl⟩
  rw [hw3] at z3 o3 k3
  obtain ⟨z4, o4, k4⟩ := step w3 #[.slice none 0 0, .slice none 0 0] 51
  obtain ⟨w4, hw4⟩ : ∃ w4, w3.alloc (.cells #[.slice none 0 0, .slice none 0 0] 51) = w4 := ⟨_, rfl⟩
  rw [hw4] at z4 o4 k4
  obtain ⟨z5, o5, k5⟩ := step w4 #[.slice none 0 0, .slice none 0 0] 51
  obtain ⟨w5, hw5⟩ : ∃ w5, w4.alloc (.cells #[.slice none 0 0, .slice none 0 0] 51) = w5 := ⟨_, rfl⟩
  rw [hw5] at z5 o5 k5
  obtain ⟨z6, o6, k6⟩ := step w5 #[.slice none 0 0] 38
  obtain ⟨w6, hw6⟩ : ∃ w6, w5.alloc (.cells #[.slice none 0 0] 38) = w6 := ⟨_, rfl⟩
  rw [hw6] at z6 o6 k6
  have C0 := Lib.hid (side_any pa pb na ca nb cb w6)
  obtain ⟨z7, o7, k7⟩ := step w6 #[.slice pa na ca] 38
  obtain ⟨w7, hw7⟩ : ∃ w7, w6.alloc (.cells #[.slice pa na ca] 38) = w7 := ⟨_, rfl⟩
  rw [hw7] at z7 o7 k7 C0
  obtain ⟨z8, o8, k8⟩ := step w7 #[.slice pb nb cb] 38
  obtain ⟨w8, hw8⟩ : ∃ w8, w7.alloc (.cells #[.slice pb nb cb] 38) = w8 := ⟨_, rfl⟩
  rw [hw8] at z8 o8 k8 C0
  clear step
  rw [hn0] at z1 o1 k1
  rw [z1] at z2 o2 k2
  replace z2 : w2.heap.size = n0 + 2 := by omega
  rw [z2] at z3 o3 k3
  replace z3 : w3.heap.size = n0 + 3 := by omega
  rw [z3] at z4 o4 k4
  replace z4 : w4.heap.size = n0 + 4 := by omega
  rw [z4] at z5 o5 k5
  replace z5 : w5.heap.size = n0 + 5 := by omega
  rw [z5] at z6 o6 k6
  replace z6 : w6.heap.size = n0 + 6 := by omega
  rw [z6] at z7 o7 k7 C0
  replace z7 : w7.heap.size = n0 + 7 := by omega
  rw [z7] at z8 o8 k8
  replace z8 : w8.heap.size = n0 + 8 := by omega
  rw [show n0 + 6 + 1 = n0 + 7 from rfl] at C0
  have m7 : Below (n0 + 7) w7 w8 := k8
  have m6 : Below (n0 + 6) w6 w8 := k7.trans (m7.mono (by omega))
  have m5 : Below (n0 + 5) w5 w8 := k6.trans (m6.mono (by omega))
  have m4 : Below (n0 + 4) w4 w8 := k5.trans (m5.mono (by omega))
  have m3 : Below (n0 + 3) w3 w8 := k4.trans (m4.mono (by omega))
  have m2 : Below (n0 + 2) w2 w8 := k3.trans (m3.mono (by omega))
  have m1 : Below (n0 + 1) w1 w8 := k2.trans (m2.mono (by omega))
  have m0 : Below n0 w w8 := k1.trans (m1.mono (by omega))
  have s0 := (m1.block _ (by omega)).trans o1
  have s1 := (m2.block _ (by omega)).trans o2
  have s2 := (m3.block _ (by omega)).trans o3
  have s3 := (m4.block _ (by omega)).trans o4
  have s4 := (m5.block _ (by omega)).trans o5
  have s5 := (m6.block _ (by omega)).trans o6
  have s6 := (m7.block _ (by omega)).trans o7
  obtain ⟨T, hT⟩ : ∃ T, bndT f A B = T := ⟨_, rfl⟩
  obtain ⟨L, hL⟩ : ∃ L, stps (A.map (·.1)) (B.map (·.1)) = L := ⟨_, rfl⟩
  have hI0 : BndI T L w n0 (.func (.func g) #[] #[]) (.slice pa na ca) (.slice pa2 na ca2) (.slice pb nb cb) (.slice pb2 nb cb2) [] w8 := by
    refine ⟨s0, s1, s2, s3, ⟨.slice none 0 0, .slice none 0 0, ⟨s4, RowAt.nil _ _ _ _, [], RowAt.nil _ _ _ _, fun i hi => absurd hi (by simp [foldB, foldJ])⟩, .slice none 0 0, s5, IR.nil _, fun k hk => by simp [Value.ownBlock] at hk, IntB.nil _⟩, s6, o8, m0⟩
  have hseq := side1_in 4 (by decide) (A.map (·.1)) (B.map (·.1)) (.slice pa na ca) (.slice pb nb cb) n0 (n0 + 6) (n0 + 7) (by rw [List.length_map]; omega) (by rw [List.length_map]; omega) w8 w hn0 m0 ia ib (cellAt s6 rfl) (cellAt o8 rfl)
  rw [hL] at hseq
  have HSEQ := Lib.hid hseq
  have HI0 := Lib.hid hI0
  have HLL := Lib.hid hL
  have HTT := Lib.hid hT
  have HIN : RowKit.Hid (∀ s ∈ L, s.i ≤ A.length ∧ s.j ≤ B.length) := Lib.hid (by
    rw [← hL]
    intro s hs
    obtain ⟨q1, q2, _⟩ := run_in _ _ _ 0 0 s hs
    simp only [List.length_map, Nat.zero_add] at q1 q2
    exact ⟨q1, q2⟩)
  have HLEN : RowKit.Hid (L.length ≤ 100000) := Lib.hid (by rw [← hL]; have := run_length ((A.map (·.1)).length + (B.map (·.1)).length) (A.map (·.1)) (B.map (·.1)) 0 0; simp only [List.length_map] at this; unfold stps; simp only [List.length_map]; omega)
  have HRL := Lib.hid (And.intro hra hrb)
  have HTL : RowKit.Hid (∀ i j, (T i j).length ≤ 100000) := Lib.hid (fun i j => by
    rw [← hT]
    have h1 := rowJ_len f (rowOf A i) (rowOf B j)
    have h2 := rowOf_len hra i
    have h3 := rowOf_len hrb j
    unfold bndT
    omega)
  have HNN := Lib.hid (And.intro hna hnb)
  have q0 : w6.cell? ⟨n0, 0, none⟩ = some (.slice pa na ca) := cellAt ((m6.block n0 (by omega)).symm.trans s0) rfl
  have q1 : w6.cell? ⟨n0 + 1, 0, none⟩ = some (.slice pb nb cb) := cellAt ((m6.block (n0 + 1) (by omega)).symm.trans s1) rfl
  clear hseq hI0 hL hT m7 m6 m5 m4 m3 m2 m1 k1 k2 k3 k4 k5 k6 k7 k8 o1 o2 o3 o4 o5 o6 o7 o8 s0 s1 s2 s3 s4 s5 s6 ia ib sa sb hra hrb hna hnb m0
  refine (callsIn_wide (n := 5)).1 ?_
  refine callsIn_of_wp_marks Try.func39 rfl trivial ?_ rfl
  simp only [Try.ntmps39, List.size_toArray, List.length_cons, List.length_nil, Nat.reduceAdd, Nat.reduceSub, Array.replicate_succ, Array.replicate_zero, List.push_toArray, List.append_toArray, List.nil_append, List.cons_append]
  gi_wp2
  refine ⟨trivial, (callsIn_wide.2 C0.out).mono ?_⟩
  rintro e w' ⟨rfl, hw'⟩
  have hw' := hw'.symm
  subst hw'
  clear C0 hw1 hw2 hw3 hw4 hw5 hw6 hw7 hw8 q0 q1
  gi_wp2
  have hK1 : ∀ A B : World, w8.heap.size ≤ A.heap.size → Turn noC w8.heap.size A B → SideK n0 (n0 + 6) (n0 + 7) A B := fun A B hs t => SideK.turn t (by omega) (by omega) (by omega) (by omega) (by omega) (by omega)
  refine range_own (n := 5) (by decide) (gf := 56) (lb := #[.pointer (some ⟨n0 + 6, 0, none⟩), .pointer (some ⟨n0 + 7, 0, none⟩)]) rfl (enters_of Try.func56 (by kernel_rfl) rfl) HSEQ.out (Below.refl _ _)
    (fun h k => h.trans k) (fun hs t => hK1 _ _ hs t) (fun _ => rfl) (BndI T L w n0 (.func (.func g) #[] #[]) (.slice pa na ca) (.slice pa2 na ca2) (.slice pb nb cb) (.slice pb2 nb cb2)) (fun s W W' h t => h.turn t (by omega)) HI0.out ?round ?done
  case round =>
    intro l pre x W hl hI hlen
    rw [List.length_finRange] at hlen
    have hws : w8.heap.size ≤ W.heap.size := by have := (Array.getElem?_eq_some_iff.1 hI.bb).1; omega
    have hxl := foldB_len T L pre
    have hsn := foldB_snoc T L pre x
    have HII := Lib.hid hI
    have HSN := Lib.hid hsn
    have HKK := Lib.hid hK1
    have hml : (foldB T L pre).length ≤ 100000 := by have := HLEN.out; omega
    generalize hS0 : foldB T L pre = S at *
    simp only [stpE]
    obtain ⟨⟨zz, ii, jj⟩, hst⟩ : ∃ s, L[x.1] = s := ⟨_, rfl⟩
    have hin := HIN.out _ (List.getElem_mem (l := L) x.2)
    rw [hst] at hin ⊢ HSN
    simp only at hin ⊢
    obtain ⟨hii, hjj⟩ := hin
    have HST := Lib.hid (show foldB T L (pre ++ [x]) = if T ii jj = lastV [] S then S else S ++ [(zz, T ii jj)] from HSN.out)
    clear hsn hI hlen hst HSN
    gi_wp2
    refine ⟨(KeepsOthers.alloc _ _).from _, HKK.out _ _ hws (Turn.alloc _ _ _ _), fun Wb t => ?_⟩
    have hIb := (HII.out.turn (Turn.alloc (mine 62) w8.heap.size W (.cells #[.int .i64 (ii : Int), .int .i64 (jj : Int)] 62)) (by omega)).turn (t.weak (fun o h => .inl h) (Nat.le_refl _)) (by omega)
    have hpb : Wb.heap[W.heap.size]? = some (.cells #[.int .i64 (ii : Int), .int .i64 (jj : Int)] 62 (0, 0)) := t.cells (heap_alloc_new W _) (by simp [noC, Obj.isCells])
    have c5 := cellAt (o := 0) hIb.keep rfl
    have c9a := cellAt (o := 0) hpb rfl
    have c9b := cellAt (o := 1) hpb rfl
    have lowb : Below w.heap.size w Wb := hIb.low.mono (by omega)
    have ra := HRA.out.below lowb
    have rb := HRB.out.below lowb
    have R1 := Lib.hid (fun (W9 : World) (h : Below Wb.heap.size Wb W9) => row_any W9 n0 A (.slice pa2 na ca2) ii hii (by omega) ((h.cell (p := ⟨n0, 1, none⟩) (show n0 < Wb.heap.size by have := (Array.getElem?_eq_some_iff.1 hIb.ga).1; omega)).trans (cellAt hIb.ga rfl)) (ra.below h))
    have R2 := Lib.hid (fun (W9 : World) (h : Below Wb.heap.size Wb W9) => row_any W9 (n0 + 1) B (.slice pb2 nb cb2) jj hjj (by omega) ((h.cell (p := ⟨n0 + 1, 1, none⟩) (show n0 + 1 < Wb.heap.size by have := (Array.getElem?_eq_some_iff.1 hIb.gb).1; omega)).trans (cellAt hIb.gb rfl)) (rb.below h))
    have CELL := Lib.hid (fun (W9 : World) (h : Below Wb.heap.size Wb W9) => And.intro ((h.cell (p := ⟨n0 + 2, 0, none⟩) (show n0 + 2 < Wb.heap.size by have := (Array.getElem?_eq_some_iff.1 hIb.keep).1; omega)).trans c5) (And.intro ((h.cell (p := ⟨W.heap.size, 0, none⟩) (show W.heap.size < Wb.heap.size by have := (Array.getElem?_eq_some_iff.1 hpb).1; omega)).trans c9a) ((h.cell (p := ⟨W.heap.size, 1, none⟩) (show W.heap.size < Wb.heap.size by have := (Array.getElem?_eq_some_iff.1 hpb).1; omega)).trans c9b)))
    have HJ := Lib.hid (fun (W9 : World) (u1 u2 : Value) (h1 : IR W9 u1 (rowOf A ii)) (h2 : IR W9 u2 (rowOf B jj)) => joinRows_any K (rowOf A ii) (rowOf B jj) u1 u2 W9 (Nat.le_trans (rowOf_len HRL.out.1 ii) (by decide)) (Nat.le_trans (rowOf_len HRL.out.2 jj) (by decide)) h1 h2)
    have hrow : rowJ f (rowOf A ii) (rowOf B jj) = T ii jj := by rw [← HTT.out]; rfl
    rw [hrow] at HJ
    generalize hWp : W.heap.size = Wp at *
    have HIB := Lib.hid hIb
    clear hpb t HII hIb lowb ra rb hrow
    gi_upto_region 6 with fail
    refine regionIn_preds (by kernel_rfl) (rndV Wp ii jj (.func (.func g) #[] #[])) (rndR Wb.heap.size (rowOf A ii) (rowOf B jj) (T ii jj)) (fun _ W9 => Below Wb.heap.size Wb W9) [3, 4, 5, 10]
      [none, none, none, none, none, none, none, none, none, none, none, some 8, none, none, none, none, none, none, none, some 0, some 1, some 2, some 3, some 4, some 5, some 6, some 7, none, none, none, none, none, none, none, none, none]
      (by kernel_rfl) (by kernel_rfl) (by rfl) (by kernel_rfl) (by kernel_rfl) (by kernel_rfl) (below_q (Below.refl _ _) 1) ⟨?_, ?_, ?_, ?_, ?_, ?_, ?_, ?_, ?_, trivial⟩ ?_
    case refine_10 =>
      intro vs ℓ wc hl hS hR
      have h8 := Lib.hid (hR 8 11 (by rfl) rfl)
      clear hR
      simp only [zipF, rndV, Option.getD_some, Option.getD_none]
      generalize vs 8 = u at *
      generalize vs 7 = u7 at *
      generalize vs 2 = u2 at *
      generalize vs 5 = u5 at *
      have hu : IntsAt Wb.heap.size wc u (T ii jj) := h8.out
      clear h8 hl R1 R2 HJ CELL
      obtain ⟨v1, v2, h1, lu, h2, h3, h4, h5⟩ := HIB.out.set
      rw [hS0] at h1 h3
      have lt5 := (Array.getElem?_eq_some_iff.1 h2).1
      have c8 : wc.cell? ⟨n0 + 5, 0, none⟩ = some lu := (hS.cell (p := ⟨n0 + 5, 0, none⟩) lt5).trans (cellAt h2 rfl)
      have hrl : (T ii jj).length ≤ 100000 := HTL.out ii jj
      have hll : (lastV [] S).length ≤ 100000 := by rw [← hS0]; exact foldB_last HTL.out L pre
      have E := Lib.hid (equal_any (T ii jj) (lastV [] S) u lu wc (by omega) (by omega) hu.ir.sw (h3.below hS).sw)
      have HSAME := Lib.hid (fun (We : World) (k : Below Wb.heap.size Wb We) (he : T ii jj = lastV [] S) => bnd_same (x := x) HIB.out k (by rw [HST.out, if_pos he, hS0]))
      have HMORE := Lib.hid (fun (Wd W' : World) (v1' v2' : Value) (hne : ¬ T ii jj = lastV [] S) (k : Below Wb.heap.size Wb Wd) (q1 : BandAt (n0 + 8) W' (n0 + 4) v1' v2' (S ++ [(zz, T ii jj)])) (q2 : Touch (foot (n0 + 4) v1 v2) Wd W') (q3 : ∀ k, foot (n0 + 4) v1' v2' k → foot (n0 + 4) v1 v2 k ∨ Wd.heap.size ≤ k) (q4 : IR Wd u (T ii jj)) (q5 : Off u (foot (n0 + 4) v1 v2)) (q6 : IntB Wd u) =>
        bnd_more (x := x) (z := zz) (r := T ii jj) HIB.out k (by rw [HST.out, if_neg hne, hS0]) (by rw [hS0]; exact h1) h2 (by rw [hS0]; exact q1) q2 q3 q4 q5 q6)
      have hoff : Off u (foot (n0 + 4) v1 v2) := fun i hk hf => by
        obtain ⟨_, cs, T', hc, _⟩ := h1.foot_lt hf
        have := (Array.getElem?_eq_some_iff.1 hc).1
        have := (own_type hu i hk).1
        omega
      have HADD := Lib.hid (fun q => add_any (h1.below (below_q hS q)) (B := n0 + 8) (by have := hS.size; have := (Array.getElem?_eq_some_iff.1 HIB.out.bb).1; show _ ≤ wc.heap.size; omega) (by omega) zz u (T ii jj) (show IR (wc.drewN q) u (T ii jj) from hu.ir.drewN q) hoff (show IntB (wc.drewN q) u from hu.intB))
      have HU := Lib.hid hu
      have HSS := Lib.hid hS
      have HOFF := Lib.hid hoff
      obtain ⟨pu, cu, hpu⟩ := RowAt.shape hu
      obtain ⟨pl, cl, hpl⟩ := h3.form
      obtain ⟨mu, hmu⟩ : ∃ m, (T ii jj).length = m := ⟨_, rfl⟩
      obtain ⟨ml, hml2⟩ : ∃ m, (lastV [] S).length = m := ⟨_, rfl⟩
      rw [hmu] at hpu
      rw [hml2] at hpl
      obtain ⟨EQ, hEQ⟩ : ∃ EQ, decide (T ii jj = lastV [] S) = EQ := ⟨_, rfl⟩
      rw [hEQ] at E
      have HEQ := Lib.hid hEQ
      subst hpu hpl
      clear hEQ hu hS hoff h1 h2 h3 h4 h5 lt5 hrl hll hmu hml2
      gi_wp2
      refine ⟨trivial, (CallsIn.inRound l (callsIn_wide.2 E.out)).mono ?_⟩
      rintro e w' ⟨rfl, q, rfl⟩
      cases EQ with
      | true =>
        gi_wp2
        rw [z8]
        exact HSAME.out _ (below_q HSS.out q) (of_decide_eq_true HEQ.out)
      | false =>
        have HAD := Lib.hid (HADD.out q)
        clear HADD HSAME
        gi_wp2
        refine ⟨trivial, (CallsIn.inRound l (callsIn_wide.2 HAD.out)).mono ?_⟩
        rintro e w' ⟨rfl, v1', v2', a1, a2, a3⟩
        obtain ⟨d1, d2, d3⟩ := HMORE.out _ _ _ _ (of_decide_eq_false HEQ.out) (below_q HSS.out q) a1 a2 a3 (HU.out.ir.drewN q) HOFF.out HU.out.intB
        have HD3 := Lib.hid d3
        clear d3 a1 a2 a3 HMORE HAD
        gi_wp2
        rw [z8]
        exact HD3.out
    case refine_1 =>
      intro ℓ act W9 hl hS hw hx hr hd
      clear hw hx
      simp only [readFacts, depFactsP] at hr hd
      clear hd
      refine ⟨wanted_none (by rfl), fun K hK => ?_⟩
      unfold Oper.wpIn
      refine ⟨fun _ _ => trivial, ?_⟩
      go_simp
      exact hK _ _ rfl hS (fun _ _ _ _ h => h)
    case refine_2 =>
      intro ℓ act W9 hl hS hw hx hr hd
      clear hw hx
      simp only [readFacts, depFactsP] at hr hd
      simp [dstOf, Region.binds, rndV] at hr hd
      refine ⟨wanted_none (by rfl), fun K hK => ?_⟩
      obtain ⟨d1, d2, d3⟩ := CELL.out W9 hS
      unfold Oper.wpIn
      refine ⟨fun _ _ => trivial, ?_⟩
      go_simp
      exact hK _ _ rfl hS (fun _ _ _ _ h => h)
    case refine_3 =>
      intro ℓ act W9 hl hS hw hx hr hd
      clear hw hx
      simp only [readFacts, depFactsP] at hr hd
      simp [dstOf, Region.binds, rndV] at hr hd
      refine ⟨wanted_none (by rfl), fun K hK => ?_⟩
      unfold Oper.wpIn
      refine ⟨fun _ _ => trivial, ?_⟩
      go_simp
      refine (CallsIn.inRound l (callsIn_wide.2 (R1.out W9 hS))).mono ?_
      rintro e w' ⟨⟨u, rfl, hi⟩, rfl⟩
      exact hK _ _ hi hS (fun _ _ _ _ h => h)
    case refine_4 =>
      intro ℓ act W9 hl hS hw hx hr hd
      clear hw hx
      simp only [readFacts, depFactsP] at hr hd
      clear hd
      refine ⟨wanted_none (by rfl), fun K hK => ?_⟩
      unfold Oper.wpIn
      refine ⟨fun _ _ => trivial, ?_⟩
      go_simp
      exact hK _ _ rfl hS (fun _ _ _ _ h => h)
    case refine_5 =>
      intro ℓ act W9 hl hS hw hx hr hd
      clear hw hx
      simp only [readFacts, depFactsP] at hr hd
      simp [dstOf, Region.binds, rndV] at hr hd
      refine ⟨wanted_none (by rfl), fun K hK => ?_⟩
      obtain ⟨d1, d2, d3⟩ := CELL.out W9 hS
      unfold Oper.wpIn
      refine ⟨fun _ _ => trivial, ?_⟩
      go_simp
      exact hK _ _ rfl hS (fun _ _ _ _ h => h)
    case refine_6 =>
      intro ℓ act W9 hl hS hw hx hr hd
      clear hw hx
      simp only [readFacts, depFactsP] at hr hd
      simp [dstOf, Region.binds, rndV] at hr hd
      refine ⟨wanted_none (by rfl), fun K hK => ?_⟩
      unfold Oper.wpIn
      refine ⟨fun _ _ => trivial, ?_⟩
      go_simp
      refine (CallsIn.inRound l (callsIn_wide.2 (R2.out W9 hS))).mono ?_
      rintro e w' ⟨⟨u, rfl, hi⟩, rfl⟩
      exact hK _ _ hi hS (fun _ _ _ _ h => h)
    case refine_7 =>
      intro ℓ act W9 hl hS hw hx hr hd
      clear hw hx
      simp only [readFacts, depFactsP] at hr hd
      clear hd
      refine ⟨wanted_none (by rfl), fun K hK => ?_⟩
      obtain ⟨d1, d2, d3⟩ := CELL.out W9 hS
      unfold Oper.wpIn
      refine ⟨fun _ _ => trivial, ?_⟩
      go_simp
      exact hK _ _ rfl hS (fun _ _ _ _ h => h)
    case refine_8 =>
      intro ℓ act W9 hl hS hw hx hr hd
      clear hw hx
      simp only [readFacts, depFactsP] at hr hd
      simp [dstOf, Region.binds, rndV, rndR] at hr hd
      refine ⟨wanted_none (by rfl), fun K hK => ?_⟩
      obtain ⟨⟨u1, e1, i1⟩, ⟨u2, e2, i2⟩, e3, _⟩ := hd
      unfold Oper.wpIn
      refine ⟨fun _ _ => trivial, ?_⟩
      go_simp
      refine (CallsIn.inRound l (callsIn_wide.2 (HJ.out W9 u1 u2 i1 i2))).mono ?_
      rintro e w' ⟨u, rfl, hu, hb⟩
      exact hK _ _ (RowAt.base hu hS.size) (hS.trans (hb.mono hS.size)) (fun j v _ _ h => rndR_keep h hb)
    case refine_9 =>
      intro ℓ act W9 hl hS hw hx hr hd
      clear hw hx
      simp only [readFacts, depFactsP] at hr hd
      simp [dstOf, Region.binds, rndV, rndR] at hr hd
      refine ⟨wanted_none (by rfl), fun K hK => ?_⟩
      obtain ⟨⟨u, e1, hu⟩, _⟩ := hd
      unfold Oper.wpIn
      refine ⟨fun _ _ => trivial, ?_⟩
      go_simp
      exact hK _ _ hu hS (fun _ _ _ _ h => h)
  case done =>
    intro D W hD hI hdef
    obtain ⟨v1, v2, h1, lu, h2, h3, h4, h5⟩ := hI.set
    have hfold : foldB T L (List.finRange L.length) = bndJ f A B := by
      rw [foldB_all, ← HLL.out, ← HTT.out]
      unfold bndJ stps
      rw [List.length_map, List.length_map]
    rw [hfold] at h1
    have c7a := cellAt (o := 0) h1.cell rfl
    have c7b := cellAt (o := 1) h1.cell rfl
    have c6 := cellAt (o := 0) hI.res rfl
    have c6b := cellAt (o := 1) hI.res rfl
    have cf := frozenAt (o := 0) hI.res
    have cf2 := frozenAt (o := 1) hI.res
    obtain ⟨xs, hx, _⟩ := h1.rw
    obtain ⟨p1, k1, e1⟩ := RowAt.shape h1.bd
    obtain ⟨p2, k2, e2⟩ := RowAt.shape hx
    obtain ⟨m, hm⟩ : ∃ m, (bndJ f A B).length = m := ⟨_, rfl⟩
    rw [List.length_map, hm] at e1
    rw [hm] at e2
    have HB := Lib.hid h1
    have HI := Lib.hid hI
    have HD := Lib.hid hdef
    subst e1 e2
    clear h1 hx hI h2 h3 h4 h5 hfold
    gi_wp2
    obtain ⟨W2, hW2⟩ : ∃ W2, (W.setCell ⟨n0 + 3, 0, none⟩ (.slice p1 m k1)).setCell ⟨n0 + 3, 1, none⟩ (.slice p2 m k2) = W2 := ⟨_, rfl⟩
    rw [hW2]
    have hres : W2.heap[n0 + 3]? = some (.cells #[.slice p1 m k1, .slice p2 m k2] 51 (0, 0)) := by
      rw [← hW2]
      exact setRowAt (setRowAt HI.out.res rfl) rfl
    have hDn : D ≠ n0 + 3 := by omega
    have hdef2 : W2.heap[D]? = some (.deferred (some [])) := by
      rw [← hW2]
      exact (setOther hDn).trans ((setOther hDn).trans HD.out)
    have t2 : Touch (fun k => k = n0 + 3 ∨ k = D) W (W2.putObj D (.deferred none)) := by
      have q1 : Touch (fun k => k = n0 + 3 ∨ k = D) W W2 := by
        rw [← hW2]
        exact (Touch.set (.inl rfl)).trans (Touch.set (.inl rfl))
      exact q1.trans ⟨rfl, rfl, rfl, by simp [World.putObj], fun k _ hF => World.putObj_heap_other (fun e => hF (.inr e))⟩
    have hb3 := HB.out.touch t2 (fun k hk => by
      refine ⟨fun hf => ?_, fun cs hc => ?_⟩
      · obtain ⟨q1, cs, T', q2, _⟩ := HB.out.foot_lt hf
        rcases hk with rfl | rfl
        · omega
        · rw [HD.out] at q2; cases q2
      · rcases hk with rfl | rfl
        · rw [HI.out.res] at hc; cases hc
        · rw [HD.out] at hc; cases hc)
    have hl3 : Below w.heap.size w (W2.putObj D (.deferred none)) := by
      rw [hn0]
      exact HI.out.low.trans (t2.below (fun k hk => by rcases hk with rfl | rfl <;> omega) (by have := HI.out.low.size; omega))
    refine ⟨by simp, .inl ⟨_, _, rfl, run_takeDeferred hdef2, ?_⟩⟩
    refine ⟨_, Ret.ret_cell rfl _ _ (n0 + 3) 51 #[.slice p1 m k1, .slice p2 m k2] (0, 0) _ rfl ((World.putObj_heap_other hDn.symm).trans hres) Try.underlying51 rfl (by kernel_rfl), ⟨_, rfl, by rw [hn0]; exact ⟨n0 + 4, _, _, rfl, by omega, hb3.base (by omega)⟩, hl3⟩⟩
end Go.Proofs.Ytedlhfemmofbpaa.Reg
