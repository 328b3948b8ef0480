/-
  The program of layer 16 (plain): the colours of bytes: what its loop holds, and one round of it in open order.
-/
import Derived.Test.YtbdlmcpdplmdnaaPlnPrgC
import Derived.Test.YtbdlmcpdplmdnaaPlnPrgE
namespace Go.Proofs.Ytbdlmcpdplmdnaa.Pln
open Go.ChangeShapes Go.WideShapes Go.ChangeAt Go.RowKit Go.Shelf Lz RowG RegVal Fmt Oct OwnB
set_option linter.unusedVariables false
set_option linter.unusedSimpArgs false
set_option maxRecDepth 100000
attribute [local go_sem] Oper.semAt_some

/-- 'append' of one number that stands in a block, as one operation of a region in open order, inside a round. -/
theorem opIn_int {F : Fence} {n : Nat} {w : World} {o : Oper} {a : Act} {K : Act → World → Prop} {Q : Exit → Act → World → Prop} (s x : Operand)
    (ho : o.op = .call { callee := .builtin .append, args := #[s, x], argTypes := #[24, 24] })
    (v : Value) (B : Nat) (l : List Int) (hs : a.eval s = v) (hown : IntsAt B w v l) (hB : B ≤ w.heap.size) (hl : l.length ≤ 1000000000) (y : Int) (g : Nat) (hx : a.eval x = .slice (some ⟨g, 0, none⟩) 1 1) (hg : w.cell? ⟨g, 0, none⟩ = some (.int .i64 y))
    (h : ∀ v' w', IntsAt B w' v' (l ++ [y]) → Touch (fun k => v.ownBlock = some k) w w' → (∀ k, v'.ownBlock = some k → v.ownBlock = some k ∨ w.heap.size ≤ k) → K (a.put o.dst v') w') : o.wpIn F n Try.prog a w K Q := by
  obtain ⟨i0, hi, hz0, hz1, hz2⟩ := info_parts info_num
  obtain ⟨v', w', hr, h2, h3, h4⟩ := run_append_near (P := Try.prog) w 24 o.type 3 i0 (.int .i64 0) 1 8 Try.underlying24 hi hz0 hz1 hz2 rfl (by decide) v l.length (ints l) hown.1
    ⟨g, 0, none⟩ 1 1 [.int .i64 y] rfl (fun j u hj => by
      rw [Go.WideShapes.add_plain]
      cases j with
      | zero => simp at hj; subst hj; exact hg
      | succ j => simp at hj) (by intro u hu; simp at hu; subst hu; rfl) (by unfold maxLen; omega) (by omega)
  unfold Oper.wpIn
  refine ⟨by simp [Oper.about, ho, resolve, Target.leads, Sem.run_pure], ?_⟩
  rw [Oper.semAt_plain F _ _ (by rw [ho]; intro c hc'; cases hc')]
  simp [execOp, ho, resolve, invoke, builtin, hs, hx, hr, Result.andThen]
  refine h v' w' ⟨?_, fun k hk => ?_, ?_⟩ (Touch.grown h3 (fun k e => e)) h4
  · rw [List.length_append, ints_append]
    exact h2
  · rcases h4 k hk with h5 | h5
    · exact hown.2.1 k h5
    · omega
  · intro u hu
    unfold ints at hu
    obtain ⟨q, _, rfl⟩ := List.mem_map.1 hu
    rfl
/-- What the loop that lists colours holds. -/
structure RoJ (w : World) (n0 r0 : Nat) (F : Array Value) (l : List Int) (W : World) : Prop where
  box : ∃ v, W.heap[r0 + 1]? = some (.cells #[v] 24 (0, 0)) ∧ IntsAt r0 W v l ∧ v.ownBlock ≠ some (r0 + 3)
  fb : W.heap[r0 + 2]? = some (.cells F 23 (0, 0))
  f0 : W.heap[n0]? = some (.cells F 23 (0, 0))
  low : Below n0 w W
  sz : r0 + 4 ≤ W.heap.size
theorem RoJ.turn {w : World} {n0 r0 : Nat} {F : Array Value} {l : List Int} {W W' : World} (h : RoJ w n0 r0 F l W) (hn : n0 ≤ w.heap.size) (h0 : n0 ≤ r0) (t : Turn (mine 9) r0 W W') : RoJ w n0 r0 F l W' := by
  obtain ⟨v, h1, h2, h3⟩ := h.box
  exact ⟨⟨v, box_turn t h1 (by decide), h2.turn t, h3⟩, box_turn t h.fb (by decide), box_turn t h.f0 (by decide), h.low.trans (t.below h0 (Nat.le_trans hn h.low.size)), Nat.le_trans h.sz t.size⟩
theorem RoJ.more {w : World} {n0 r0 : Nat} {F : Array Value} {l l' : List Int} {Wb W' : World} {v : Value} (h : RoJ w n0 r0 F l Wb) (hn : n0 ≤ w.heap.size) (h0 : n0 < r0) (hb : Wb.heap[r0 + 1]? = some (.cells #[v] 24 (0, 0))) (hv : IntsAt r0 Wb v l) (hne : v.ownBlock ≠ some (r0 + 3))
    (t : Touch (fun k => v.ownBlock = some k ∨ k = r0 + 1) Wb W') (hj : ∃ v', W'.heap[r0 + 1]? = some (.cells #[v'] 24 (0, 0)) ∧ IntsAt r0 W' v' l' ∧ v'.ownBlock ≠ some (r0 + 3)) :
    (∀ B, KeepsFrom B Wb W') ∧ VoK 0 (r0 + 3) (r0 + 2) Wb W' ∧ RoJ w n0 r0 F l' W' := by
  have lt := fun {k : Nat} {o : Obj} (e : Wb.heap[k]? = some o) => (Array.getElem?_eq_some_iff.1 e).1
  have typ := own_type hv
  have keep : ∀ (k : Nat) (o : Obj), Wb.heap[k]? = some o → k ≠ r0 + 1 → (∀ cs, o ≠ .cells cs 3 (0, 0)) → W'.heap[k]? = some o := fun k o hk h1 ho => by
    refine (t.block k (lt hk) (fun hf => ?_)).trans hk
    rcases hf with hf | hf
    · obtain ⟨_, cs, hc⟩ := typ k hf
      rw [hk] at hc
      exact ho cs (Option.some.inj hc)
    · exact h1 hf
  have e2 := keep _ _ h.fb (by omega) (fun cs e => by cases e)
  have e0 := keep _ _ h.f0 (by omega) (fun cs e => by cases e)
  have e3 : W'.heap[r0 + 3]? = Wb.heap[r0 + 3]? := t.block _ (by have := h.sz; omega) (fun hf => by
    rcases hf with hf | hf
    · exact hne hf
    · omega)
  refine ⟨fun B => ⟨t.size, fun k o _ hk hc => keep k o hk (fun e => ?_) (fun cs e => by subst e; simp [Obj.isCells] at hc)⟩, ⟨fun k hk => absurd hk (by omega), e3, e2.trans h.fb.symm, t.size⟩, hj, e2, e0, h.low.trans (t.below (fun k hk => ?_) (Nat.le_trans hn h.low.size)), Nat.le_trans h.sz t.size⟩
  · subst e
    rw [hb] at hk
    cases hk
    simp [Obj.isCells] at hc
  · rcases hk with hk | rfl
    · have := (typ k hk).1; omega
    · omega
/-- What stands while one more colour is listed. -/
structure RvS (r0 : Nat) (l : List Int) (vr : Value) (Wd : World) (ℓ : Nat → Bool) (W : World) : Prop where
  a : ℓ 5 = true → ℓ 0 = true
  b : ℓ 6 = true → ℓ 5 = true
  c : ℓ 5 = true → ℓ 4 = true
  d : ℓ 4 = true → ℓ 3 = true
  t : Touch (fun k => vr.ownBlock = some k ∨ k = r0 + 1) Wd W
  x : ℓ 6 = false → W.heap[r0 + 1]? = Wd.heap[r0 + 1]?
  n : ℓ 5 = false → Below Wd.heap.size Wd W
  j : ℓ 6 = true → ∃ v', W.heap[r0 + 1]? = some (.cells #[v'] 24 (0, 0)) ∧ IntsAt r0 W v' l ∧ v'.ownBlock ≠ some (r0 + 3)
def rvR (r0 : Nat) (l : List Int) (N : Nat) (z : Int) (i : Nat) (v : Value) (w : World) : Prop :=
  (i = 4 → ∃ g, N ≤ g ∧ v = .slice (some ⟨g, 0, none⟩) 1 1 ∧ w.cell? ⟨g, 0, none⟩ = some (.int .i64 z)) ∧ (i = 5 → IntsAt r0 w v l ∧ v.ownBlock ≠ some (r0 + 3))
theorem rvR_below {r0 N : Nat} {l : List Int} {z : Int} {i : Nat} {v : Value} {w w' : World} (h : rvR r0 l N z i v w) (k : Below w.heap.size w w') : rvR r0 l N z i v w' := by
  refine ⟨fun e => ?_, fun e => ⟨RowAt.below (h.2 e).1 k, (h.2 e).2⟩⟩
  obtain ⟨g, h1, h2, h3⟩ := h.1 e
  exact ⟨g, h1, h2, (k.cell (World.block_lt_of_cell? w _ h3)).trans h3⟩
def rvV (vr F : Value) (x z : Int) : Nat → Option Value
  | 0 => some vr
  | 1 => some F
  | 2 => some (.int .i64 x)
  | 3 => some (.int .i64 z)
  | _ => none
theorem RvS.start (r0 : Nat) (l : List Int) (vr : Value) (Wd : World) : RvS r0 l vr Wd (fun _ => false) Wd :=
  ⟨fun h => (by cases h), fun h => (by cases h), fun h => (by cases h), fun h => (by cases h), Touch.refl _ _, fun _ => rfl, fun _ => Below.refl _ _, fun h => (by cases h)⟩
/-- An operation that reads, or makes memory. -/
theorem RvS.step {r0 : Nat} {l : List Int} {vr : Value} {Wd W W' : World} {ℓ : Nat → Bool} (h : RvS r0 l vr Wd ℓ W) (i : Nat) (hi : i < 5) (hl : ℓ i = false) (hd : i = 4 → ℓ 3 = true) (b : Below W.heap.size W W') (hb : r0 + 1 < Wd.heap.size) (hW : i < 3 → W' = W) : RvS r0 l vr Wd (fun j => if j = i then true else ℓ j) W' := by
  have e5 : (if 5 = i then true else ℓ 5) = ℓ 5 := if_neg (by omega)
  have e6 : (if 6 = i then true else ℓ 6) = ℓ 6 := if_neg (by omega)
  have up : ∀ j, ℓ j = true → (if j = i then true else ℓ j) = true := fun j hj => by by_cases q : j = i <;> simp [q, hj]
  have k6 : 3 ≤ i → ℓ 6 = false := fun h3 => by
    cases e : ℓ 6 with
    | false => rfl
    | true =>
      have c4 := h.c (h.b e)
      have : i = 3 ∨ i = 4 := by omega
      rcases this with rfl | rfl
      · rw [h.d c4] at hl; cases hl
      · rw [c4] at hl; cases hl
  refine ⟨fun e => ?_, fun e => ?_, fun e => ?_, fun e => ?_, h.t.trans (Touch.of_below b), fun e => ?_, fun e => ?_, fun e => ?_⟩
  · simp only [e5] at e; exact up _ (h.a e)
  · simp only [e6] at e; simp only [e5]; exact h.b e
  · simp only [e5] at e; exact up _ (h.c e)
  · by_cases q : i = 4
    · subst q; exact up _ (hd rfl)
    · simp only [if_neg (Ne.symm q)] at e; exact up _ (h.d e)
  · simp only [e6] at e
    exact (b.block _ (Nat.lt_of_lt_of_le hb h.t.size)).trans (h.x e)
  · simp only [e5] at e
    have := h.n e
    exact this.trans (b.mono this.size)
  · simp only [e6] at e
    by_cases q : i < 3
    · rw [hW q]; exact h.j e
    · rw [k6 (by omega)] at e; cases e
theorem RvS.grown {r0 : Nat} {l l0 : List Int} {vr : Value} {Wd W W' : World} {ℓ : Nat → Bool} (h : RvS r0 l vr Wd ℓ W) (hl : ℓ 5 = false) (h0 : ℓ 0 = true) (h4 : ℓ 4 = true) (hb : Wd.heap[r0 + 1]? = some (.cells #[vr] 24 (0, 0))) (hv : IntsAt r0 Wd vr l0)
    (t : Touch (fun k => vr.ownBlock = some k) W W') : RvS r0 l vr Wd (fun j => if j = 5 then true else ℓ j) W' := by
  have h6 : ℓ 6 = false := by
    cases e : ℓ 6 with
    | false => rfl
    | true => rw [h.b e] at hl; cases hl
  have hn := h.n hl
  have hne : vr.ownBlock ≠ some (r0 + 1) := fun e => by
    obtain ⟨_, cs, hc⟩ := own_type hv _ e
    rw [hb] at hc
    cases hc
  refine ⟨fun _ => by simpa using h0, fun e => by simp [h6] at e, fun _ => by simpa using h4, fun _ => by have := h.d h4; simpa using this, h.t.trans ⟨t.os, t.tape, t.output, t.size, fun k hk hF => t.block k hk (fun e => hF (.inl e))⟩, fun _ => ?_, fun e => by simp at e, fun e => by simp [h6] at e⟩
  exact (t.block _ (Nat.lt_of_lt_of_le (Array.getElem?_eq_some_iff.1 hb).1 hn.size) (fun e => hne e)).trans (h.x h6)
theorem RvS.stored {r0 : Nat} {l : List Int} {vr v : Value} {Wd W : World} {ℓ : Nat → Bool} (h : RvS r0 l vr Wd ℓ W) (h5 : ℓ 5 = true) (h6 : ℓ 6 = false) (hb : Wd.heap[r0 + 1]? = some (.cells #[vr] 24 (0, 0))) (hv : IntsAt r0 W v l) (hne : v.ownBlock ≠ some (r0 + 3)) (hvr : ∃ a n c, vr = .slice a n c) :
    W.heap[r0 + 1]? = some (.cells #[vr] 24 (0, 0)) ∧ RvS r0 l vr Wd (fun j => if j = 6 then true else ℓ j) (W.setCell ⟨r0 + 1, 0, none⟩ v) ∧ ∀ (N : Nat) (z : Int) i u, rvR r0 l N z i u W → rvR r0 l N z i u (W.setCell ⟨r0 + 1, 0, none⟩ v) := by
  have e2 : W.heap[r0 + 1]? = some (.cells #[vr] 24 (0, 0)) := (h.x h6).trans hb
  have kp : ∀ z, IntsAt r0 W z l → IntsAt r0 (W.setCell ⟨r0 + 1, 0, none⟩ v) z l := fun z hz => RowAt.keep hz (fun k hk => setOther (fun e => by
    subst e
    obtain ⟨_, cs, hc⟩ := own_type hz _ hk
    rw [e2] at hc
    cases hc))
  refine ⟨e2, ⟨fun _ => by have := h.a h5; simpa using this, fun _ => by simpa using h5, fun _ => by have := h.c h5; simpa using this, fun _ => by have := h.d (h.c h5); simpa using this, h.t.trans (Touch.set (.inr rfl)), fun e => by simp at e, fun e => by simp [h5] at e, fun _ => ⟨v, setRowAt e2 rfl, kp v hv, hne⟩⟩, fun N z i u hu => ⟨fun e => ?_, fun e => ⟨kp u (hu.2 e).1, (hu.2 e).2⟩⟩⟩
  obtain ⟨g, h1, h2, h3⟩ := hu.1 e
  refine ⟨g, h1, h2, ?_⟩
  by_cases q : g = r0 + 1
  · subst q
    rw [cellAt e2 rfl] at h3
    obtain ⟨a, n, c, rfl⟩ := hvr
    cases h3
  · exact same_cell (setOther q) h3
end Go.Proofs.Ytbdlmcpdplmdnaa.Pln
