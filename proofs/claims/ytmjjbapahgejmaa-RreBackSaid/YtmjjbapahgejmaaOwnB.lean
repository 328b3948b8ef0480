/-
  A loop over an iterator that stores into variables that it captured, which lay there ahead of the loop (from block Bt on): what the loop's body owes, and what is known when the iterator has ended. Nothing of the program is named here.
-/
import Derived.RangeFuncNested
import Derived.RangeFuncBound
import Derived.RangeFuncCalls
import Derived.RangeFuncLeaves
import Derived.Shelf.Abstract
import Derived.Shelf.RegionOpen
import Derived.OwnWalkIn
import Derived.TacticsInMore
import Derived.LoopNIn
import Derived.LoopIn
import Derived.Sort.QuietIn
import Derived.Stop.RegionWithIn
namespace Go.Proofs.Ytmjjbapahgejmaa.OwnB
open Go Go.RowKit
set_option linter.unusedVariables false

/-- All is as it was, but for what is new, and for some blocks from B on. -/
structure Turn (p : Obj → Prop) (B : Nat) (W W' : World) : Prop where
  os : W'.os = W.os
  tape : W'.tape = W.tape
  output : W'.output = W.output
  size : W.heap.size ≤ W'.heap.size
  block : ∀ k, k < W.heap.size → W'.heap[k]? = W.heap[k]? ∨ (B ≤ k ∧ ∃ o, W.heap[k]? = some o ∧ p o)
def noC (o : Obj) : Prop := o.isCells = false
def isT (T : TypeId) (o : Obj) : Prop := ∃ cs z, o = .cells cs T z
def mine (T : TypeId) (o : Obj) : Prop := noC o ∨ isT T o
theorem Turn.refl (p : Obj → Prop) (B : Nat) (W : World) : Turn p B W W := ⟨rfl, rfl, rfl, Nat.le_refl _, fun _ _ => .inl rfl⟩
theorem Turn.weak {p q : Obj → Prop} {B C : Nat} {W W' : World} (h : Turn p B W W') (hpq : ∀ o, p o → q o) (hC : C ≤ B) : Turn q C W W' :=
  ⟨h.os, h.tape, h.output, h.size, fun k hk => (h.block k hk).imp id (fun ⟨h1, o, h2, h3⟩ => ⟨Nat.le_trans hC h1, o, h2, hpq o h3⟩)⟩
theorem Turn.alloc (p : Obj → Prop) (B : Nat) (W : World) (o : Obj) : Turn p B W (W.alloc o) :=
  ⟨rfl, rfl, rfl, by simp, fun k hk => .inl (Below.heap_alloc W o k hk)⟩
theorem Turn.drewN (p : Obj → Prop) (B : Nat) (W : World) (n : Nat) : Turn p B W (W.drewN n) := ⟨rfl, rfl, rfl, Nat.le_refl _, fun _ _ => .inl rfl⟩
theorem Turn.putObj {p : Obj → Prop} {B : Nat} {W : World} {l : Nat} {o : Obj} (o' : Obj) (hB : B ≤ l) (hl : W.heap[l]? = some o) (ho : p o) : Turn p B W (W.putObj l o') :=
  ⟨rfl, rfl, rfl, by simp [World.putObj], fun k hk => by
    by_cases e : k = l
    · subst e; exact .inr ⟨hB, o, hl, ho⟩
    · exact .inl (World.putObj_heap_other e)⟩
theorem Turn.setCell {T : TypeId} {B g : Nat} {W : World} {cs : Array Value} {z : Nat × Nat} (hB : B ≤ g) (hg : W.heap[g]? = some (.cells cs T z)) (i : Nat) (v : Value) : Turn (isT T) B W (W.setCell ⟨g, i, none⟩ v) :=
  ⟨rfl, rfl, rfl, by simp [World.setCell], fun k hk => by
    by_cases e : k = g
    · subst e; exact .inr ⟨hB, _, hg, cs, z, rfl⟩
    · exact .inl (by simp [World.setCell]; rw [Array.getElem?_modify]; simp [Ne.symm e])⟩
/-- Cells of any other type are as they were. -/
theorem Turn.cells {p : Obj → Prop} {B : Nat} {W W' : World} (h : Turn p B W W') {k : Nat} {cs : Array Value} {T : TypeId} {z : Nat × Nat} (hk : W.heap[k]? = some (.cells cs T z)) (hp : ¬ p (.cells cs T z)) : W'.heap[k]? = some (.cells cs T z) := by
  rcases h.block k (Array.getElem?_eq_some_iff.1 hk).1 with h1 | ⟨_, o, h1, h2⟩
  · exact h1.trans hk
  · rw [hk] at h1; cases h1; exact absurd h2 hp
theorem Turn.below {p : Obj → Prop} {B C : Nat} {W W' : World} (h : Turn p B W W') (hC : C ≤ B) (hW : C ≤ W.heap.size) : Below C W W' :=
  ⟨h.os, h.tape, h.output, h.size, fun k hk => (h.block k (by omega)).elim id (fun ⟨h1, _⟩ => absurd h1 (by omega))⟩
def Abide {β : Type} (p : Obj → Prop) (B : Nat) (J : β → World → Prop) : Prop := ∀ s W W', J s W → Turn p B W W' → J s W'
/-- What an iterator gives that goes through S, whatever a loop's body does that keeps Kp. -/
def Gives {α : Type} (n : Nat) (P : Program) (g : Nat) (lb : Array Value) (encs : α → Array Value) (Kp : World → World → Prop) (T : TypeId) (Bt : Nat) (S : List α) (w : World) : Prop :=
  ∀ (l : Nat) (J : List α → World → Prop) (W : World), Below w.heap.size w W → Abide (isT T) Bt J →
    (∀ pre x W1, J pre W1 → pre.length < S.length → YieldAt Fence.wide (n - 1) P l (encs x) W1 fun e W' => e = .returned (.bool true) ∧ J (pre ++ [x]) W' ∧ Kp W1 W') →
    J [] W → CallsIn Fence.wide n P g (#[.func (.yield l) #[] #[]] ++ lb) W fun e W' => (∃ v, e = .returned v) ∧ J S W'
/-- How a round ends. -/
def endP {α : Type} (B : Nat) (Kp : World → World → Prop) (I : List α → World → Prop) (xs : List α) (W : World) : Exit → Act → World → Prop
  | .normal, _, W' => KeepsFrom B W W' ∧ Kp W W' ∧ I xs W'
  | _, _, _ => False
theorem range_own {α : Type} {P : Program} {n : Nat} {g : Operand} {ps : Array Tmp} {assign body : Code} {Q : Exit → Act → World → Prop} {a : Act} {w : World}
    (h1 : 1 ≤ n) {gf : Nat} {lb : Array Value} (hg : a.eval g = .func (.func gf) #[] lb) (eg : ∀ args w, (callFunc gf args).run P w = .ok (.enter gf args) w)
    {encs : α → Array Value} {Kp : World → World → Prop} {T : TypeId} {Bt : Nat} {S : List α} {w0 : World} (hBt : Bt ≤ w.heap.size) (hseq : Gives (n - 1) P gf lb encs Kp T Bt S w0) (hb0 : Below w0.heap.size w0 w)
    (hKt : ∀ {A B C : World}, Kp A B → Kp B C → Kp A C) (hKn : ∀ {A B : World}, w.heap.size ≤ A.heap.size → Turn noC w.heap.size A B → Kp A B) (hps : ∀ x, (encs x).size = ps.size)
    (I : List α → World → Prop) (hI : Abide (mine T) Bt I) (h0 : I [] w)
    (hround : ∀ (l : Nat) (pre : List α) (x : α) (W : World), w.heap.size ≤ l → I pre W → pre.length < S.length →
      assign.wpIn (Fence.wide.inRound l) (n - 1 - 1) P (Exit.then (fun a' Wa => KeepsFrom w.heap.size W Wa ∧ Kp W Wa ∧ ∀ Wb, Turn noC w.heap.size Wa Wb → body.wpIn (Fence.wide.inRound l) (n - 1 - 1) P (endP w.heap.size Kp I (pre ++ [x]) Wb) a' Wb) (fun _ _ _ => False))
        { tmps := (ps.zip (encs x)).foldl (fun t (p, v) => t.setIfInBounds p v) a.tmps, defers := [] } W)
    (hdone : ∀ (D : Nat) (W : World), w.heap.size ≤ D → I S W → W.heap[D]? = some (.deferred (some [])) → Q .normal { a with defers := { target := .collected D, args := #[] } :: a.defers } W) :
    (Code.rangeFunc g ps assign body).wpIn Fence.wide n P Q a w := by
  refine wpIn_rangeFunc fun fn hfn => ?_
  obtain ⟨rc, hrc⟩ : ∃ rc : LoopState → Loop, rc = fun st => { state := st, pending := none, fn, tmps := a.tmps, params := ps, assign, body, defers := w.heap.size } := ⟨_, rfl⟩
  obtain ⟨V, hV⟩ : ∃ V, (w.alloc (.deferred (some []))).alloc (.loop (rc .ready)) = V := ⟨_, rfl⟩
  have tv : Turn (mine T) Bt w (w.alloc (.deferred (some []))) := Turn.alloc _ _ _ _
  have hl0 : V.heap[w.heap.size + 1]? = some (.loop (rc .ready)) := by
    have := World.alloc_heap_new (w.alloc (.deferred (some []))) (.loop (rc .ready))
    rw [World.size_alloc] at this
    rw [← hV]; exact this
  have hd0 : V.heap[w.heap.size]? = some (.deferred (some [])) := by
    rw [← hV]
    exact (Below.heap_alloc _ _ _ (by simp)).trans (World.alloc_heap_new w _)
  have hi0 : I [] V := by
    rw [← hV]
    exact hI _ _ _ (hI _ _ _ h0 tv) (Turn.alloc _ _ _ _)
  have hbv : Below w0.heap.size w0 V := by
    rw [← hV]
    exact hb0.trans ((((Below.refl _ w).alloc (Nat.le_refl _) _).alloc (by simp) _).mono hb0.size)
  have hsz : w.heap.size + 1 < V.heap.size := (Array.getElem?_eq_some_iff.1 hl0).1
  refine ⟨w.heap.size + 1, [{ target := .collected w.heap.size, args := #[] }], V, { target := .fn (.func gf) lb, args := #[.func (.yield (w.heap.size + 1)) #[] #[]] }, V, gf,
    #[.func (.yield (w.heap.size + 1)) #[] #[]] ++ lb, V, ?_, ?_, ?_, ?_, fun _ => h1, ?_⟩
  · rw [← hV, hrc]
    exact run_enterLoop_outer _ _ _ _ _
  · simp only [resolve, hg]
    simp [go_sem]
  · intro f' _
    trivial
  · simp [invoke, go_sem, eg]
  have still : ∀ {s : List α} {X Y : World}, (I s X ∧ X.heap[w.heap.size + 1]? = some (.loop (rc .ready)) ∧ X.heap[w.heap.size]? = some (.deferred (some []))) → Turn (isT T) Bt X Y →
      I s Y ∧ Y.heap[w.heap.size + 1]? = some (.loop (rc .ready)) ∧ Y.heap[w.heap.size]? = some (.deferred (some [])) := by
    rintro s X Y ⟨i1, i2, i3⟩ ht
    have other : ∀ k o, X.heap[k]? = some o → noC o → Y.heap[k]? = some o := fun k o hk ho => by
      rcases ht.block k (Array.getElem?_eq_some_iff.1 hk).1 with h | ⟨_, o', h, cs, z, rfl⟩
      · exact h.trans hk
      · rw [hk] at h; cases h; simp [noC, Obj.isCells] at ho
    exact ⟨hI _ _ _ i1 (ht.weak (fun o h => .inr h) (by omega)), other _ _ i2 rfl, other _ _ i3 rfl⟩
  refine (hseq (w.heap.size + 1) (fun pre W => I pre W ∧ W.heap[w.heap.size + 1]? = some (.loop (rc .ready)) ∧ W.heap[w.heap.size]? = some (.deferred (some []))) V hbv (fun s X Y h ht => still h ht) ?_ ⟨hi0, hl0, hd0⟩).mono ?_
  · rintro pre x W ⟨hi, hl, hd⟩ hlen
    have hy := run_yield (P := P) (args := encs x) hl (by rw [hrc]; exact hps x)
    rw [hrc] at hy
    refine ⟨fn, _, assign, body, hy, roundIn_of_wpIn hfn (wpIn_mono (hround _ pre x W (Nat.le_succ _) hi hlen) ?_)⟩
    rintro e a' Wa h
    cases e with
    | normal =>
      obtain ⟨k1, k2, k3⟩ := h
      have hla := k1.same _ _ (Nat.le_succ _) hl rfl
      have hda := k1.same _ _ (Nat.le_refl _) hd rfl
      refine ⟨_, run_beginRound hla (by rw [hrc]), ?_⟩
      obtain ⟨Wb, hWb⟩ : ∃ Wb, Wa.putObj (w.heap.size + 1) (.loop { rc .ready with state := .busy }) = Wb := ⟨_, rfl⟩
      have tb : Turn noC w.heap.size Wa Wb := by rw [← hWb]; exact Turn.putObj _ (Nat.le_succ _) hla rfl
      have hlb : Wb.heap[w.heap.size + 1]? = some (.loop { rc .ready with state := .busy }) := by rw [← hWb]; exact World.putObj_heap_same (Array.getElem?_eq_some_iff.1 hla).1
      have hdb : Wb.heap[w.heap.size]? = some (.deferred (some [])) := by rw [← hWb]; exact (World.putObj_heap_other (by omega)).trans hda
      rw [hWb]
      refine wpIn_mono (k3 Wb tb) ?_
      rintro e a3 Wc hp
      cases e with
      | normal =>
        obtain ⟨q1, q2, q3⟩ := hp
        have hlc := q1.same _ _ (Nat.le_succ _) hlb rfl
        have hdc := q1.same _ _ (Nat.le_refl _) hdb rfl
        have he := run_endRound (P := P) none hlc
        refine ⟨_, _, he, rfl, ⟨hI _ _ _ q3 (Turn.putObj _ (by omega) hlc (.inl rfl)), ?_, ?_⟩, ?_⟩
        · rw [World.putObj_heap_same (Array.getElem?_eq_some_iff.1 hlc).1, hrc]
          rfl
        · exact (World.putObj_heap_other (by omega)).trans hdc
        · exact hKt (hKt (hKt k2 (hKn (by have := (Array.getElem?_eq_some_iff.1 hla).1; omega) tb)) q2) (hKn (by have := (Array.getElem?_eq_some_iff.1 hlc).1; omega) (Turn.putObj _ (Nat.le_succ _) hlc rfl))
      | ret => exact hp.elim
      | exit id => exact hp.elim
      | goto t => exact hp.elim
      | panic ch => exact hp.elim
      | outgrown => exact hp.elim
    | ret => exact h.elim
    | exit id => exact h.elim
    | goto t => exact h.elim
    | panic ch => exact h.elim
    | outgrown => exact h.elim
  · rintro e W2 ⟨⟨v, rfl⟩, hi, hl, hd⟩
    refine ⟨none, W2.putObj (w.heap.size + 1) (.loop { rc .ready with state := .exhausted }), ?_, hdone _ _ (Nat.le_refl _) (hI _ _ _ hi (Turn.putObj _ (by omega) hl (.inl rfl))) ((World.putObj_heap_other (by omega)).trans hd)⟩
    have := run_endLoop (P := P) hl (by rw [hrc]; simp)
    rw [hrc] at this ⊢
    exact this
end Go.Proofs.Ytmjjbapahgejmaa.OwnB
