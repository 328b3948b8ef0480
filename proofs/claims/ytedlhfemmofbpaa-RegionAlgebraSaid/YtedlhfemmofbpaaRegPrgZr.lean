/-
  The program's rectangles of a set: one more rectangle, a region in open order inside a round; what it does is told here.
-/
import Derived.Test.YtedlhfemmofbpaaRegPrgZp
namespace Go.Proofs.Ytedlhfemmofbpaa.Reg
open Go.ChangeShapes Go.WideShapes Go.ChangeAt Go.RowKit Go.Shelf Lz RowG RegVal OwnL
set_option linter.unusedVariables false
set_option linter.unusedSimpArgs false
set_option maxRecDepth 100000

/-- 'append' of one rectangle that was just built, as one operation of a region in open order, inside a round. -/
theorem opIn_rect {F : Fence} {n : Nat} {w0 : World} {o : Oper} {a : Act} {K : Act → World → Prop} {Q : Exit → Act → World → Prop} (s x : Operand)
    (ho : o.op = .call { callee := .builtin .append, args := #[s, x], argTypes := #[22, 22] })
    (v : Value) (B : Nat) (l : List Rc) (hs : a.eval s = v) (hown : RectsAt B w0 v l) (hB : B ≤ w0.heap.size) (hl : l.length ≤ 1000000000) (r : Rc) (T : TypeId) (hx : a.eval x = .slice (some ⟨w0.heap.size, 0, none⟩) 1 1)
    (h : ∀ v' w', RectsAt B w' v' (l ++ [r]) → Touch (fun k => v.ownBlock = some k) w0 w' → K (a.put o.dst v') w') : o.wpIn F n Try.prog a (w0.alloc (.cells #[.int .i64 r.x, .int .i64 r.y, .int .i64 r.w, .int .i64 r.h] T)) K Q := by
  obtain ⟨i0, hi, hz0, hz1, hz2⟩ := info_parts info_rect
  have hsee := sees_new w0 4 #[.int .i64 r.x, .int .i64 r.y, .int .i64 r.w, .int .i64 r.h] T 1 rfl (cellsR_one [r])
  rcases hsee.2.2 with ⟨h1, _⟩ | ⟨g, off, cap, h1, _, hc⟩
  · simp at h1
  · simp only [Value.slice.injEq, Option.some.injEq, Addr.mk.injEq, and_true, true_and] at h1
    obtain ⟨⟨rfl, rfl⟩, rfl⟩ := h1
    obtain ⟨v', w', hr, h2, h3, h4⟩ := run_append_near (P := Try.prog) (w0.alloc (.cells #[.int .i64 r.x, .int .i64 r.y, .int .i64 r.w, .int .i64 r.h] T)) 22 o.type 32 i0 _ 4 32 Try.underlying22 hi hz0 hz1 hz2 rfl (by decide) v l.length (cellsR l) (RowAt.alloc hown _).1
      ⟨w0.heap.size, 0, none⟩ 1 1 (cellsR [r]) rfl (fun j u hj => by rw [Go.WideShapes.add_plain]; exact hc j u hj) (cellsR_one [r]) (by unfold maxLen; omega) (by omega)
    unfold Oper.wpIn
    refine ⟨by simp [Oper.about, ho, resolve, Target.leads, Sem.run_pure], ?_⟩
    rw [Oper.semAt_plain F _ _ (by rw [ho]; intro c hc'; cases hc')]
    simp [execOp, ho, resolve, invoke, builtin, hs, hx, hr, Result.andThen]
    refine h v' w' ?_ ((Touch.of_below ((Below.refl w0.heap.size w0).alloc (Nat.le_refl _) _)).trans (Touch.grown h3 (fun k e => e)))
    refine ⟨?_, fun k hk => ?_, cellsR_one _⟩
    · rw [List.length_append, cellsR_append]
      exact h2
    · rcases h4 k hk with h5 | h5
      · exact hown.2.1 k h5
      · have : (w0.alloc (.cells #[.int .i64 r.x, .int .i64 r.y, .int .i64 r.w, .int .i64 r.h] T)).heap.size = w0.heap.size + 1 := alloc_size _ _
        omega
/-- What the region's operations leave. -/
def rcV (vr E vb : Value) (b G O gb ob i j N0 : Nat) (x0 x1 ww y0 y1 hh : Int) : Nat → Option Value
  | 0 => some vr
  | 1 => some E
  | 2 => some (.pointer (some ⟨G, O, none⟩))
  | 3 => some (.int .i64 x0)
  | 4 => some (.pointer (some ⟨b, 0, none⟩))
  | 5 => some (.pointer (some ⟨b, 0, none⟩))
  | 6 => some (.pointer (some ⟨b, 0, none⟩))
  | 7 => some vb
  | 8 => some (.int .i64 (i : Nat))
  | 9 => some (.pointer (some ⟨gb, ob + i, none⟩))
  | 10 => some (.int .i64 y0)
  | 11 => some E
  | 12 => some (.pointer (some ⟨G, O + 1, none⟩))
  | 13 => some (.int .i64 x1)
  | 14 => some E
  | 15 => some (.pointer (some ⟨G, O, none⟩))
  | 16 => some (.int .i64 x0)
  | 17 => some (.int .i64 ww)
  | 18 => some (.pointer (some ⟨b, 0, none⟩))
  | 19 => some (.pointer (some ⟨b, 0, none⟩))
  | 20 => some (.pointer (some ⟨b, 0, none⟩))
  | 21 => some vb
  | 22 => some (.int .i64 (i : Nat))
  | 23 => some (.int .i64 (j : Nat))
  | 24 => some (.pointer (some ⟨gb, ob + j, none⟩))
  | 25 => some (.int .i64 y1)
  | 26 => some (.pointer (some ⟨b, 0, none⟩))
  | 27 => some (.pointer (some ⟨b, 0, none⟩))
  | 28 => some (.pointer (some ⟨b, 0, none⟩))
  | 29 => some vb
  | 30 => some (.int .i64 (i : Nat))
  | 31 => some (.pointer (some ⟨gb, ob + i, none⟩))
  | 32 => some (.int .i64 y0)
  | 33 => some (.int .i64 hh)
  | 34 => some (.agg #[.int .i64 x0, .int .i64 y0, .int .i64 ww, .int .i64 hh])
  | 35 => some (.slice (some ⟨N0, 0, none⟩) 1 1)
  | _ => none
def rcR (B : Nat) (l : List Rc) (i : Nat) (v : Value) (w : World) : Prop := i = 36 → RectsAt B w v l
/-- What stands while the region runs. -/
structure RcS (bx B : Nat) (l : List Rc) (Wd : World) (o : Obj) (F : Nat → Prop) (ℓ : Nat → Bool) (W : World) : Prop where
  a : ℓ 36 = true → ℓ 0 = true ∧ ℓ 35 = true
  b : ℓ 37 = true → ℓ 36 = true
  t : Touch F Wd W
  x : ℓ 37 = false → W.heap[bx]? = Wd.heap[bx]?
  n : ℓ 36 = false → W = if ℓ 35 then Wd.alloc o else Wd
  j : ℓ 37 = true → ∃ v', W.heap[bx]? = some (.cells #[v'] 22 (0, 0)) ∧ RectsAt B W v' l
theorem RcS.start (bx B : Nat) (l : List Rc) (Wd : World) (o : Obj) (F : Nat → Prop) : RcS bx B l Wd o F (fun _ => false) Wd :=
  ⟨fun h => (by cases h), fun h => (by cases h), Touch.refl _ _, fun _ => rfl, fun _ => rfl, fun h => (by cases h)⟩
theorem RcS.read {bx B : Nat} {l : List Rc} {Wd : World} {o : Obj} {F : Nat → Prop} {ℓ : Nat → Bool} {W : World} (h : RcS bx B l Wd o F ℓ W) (i : Nat) (hi : i < 35) : RcS bx B l Wd o F (fun j => if j = i then true else ℓ j) W := by
  have e5 : (if 35 = i then true else ℓ 35) = ℓ 35 := if_neg (by omega)
  have e6 : (if 36 = i then true else ℓ 36) = ℓ 36 := if_neg (by omega)
  have e7 : (if 37 = i then true else ℓ 37) = ℓ 37 := if_neg (by omega)
  refine ⟨fun h6 => ?_, fun h7 => ?_, h.t, fun h7 => ?_, fun h6 => ?_, fun h7 => ?_⟩
  · simp only [e6] at h6
    refine ⟨?_, ?_⟩
    · by_cases e : 0 = i
      · simp [e]
      · simp only [if_neg e]; exact (h.a h6).1
    · simp only [e5]; exact (h.a h6).2
  · simp only [e7] at h7; simp only [e6]; exact h.b h7
  · simp only [e7] at h7; exact h.x h7
  · simp only [e6] at h6; simp only [e5]; exact h.n h6
  · simp only [e7] at h7; exact h.j h7
theorem RcS.made {bx B : Nat} {l : List Rc} {Wd : World} {o : Obj} {F : Nat → Prop} {ℓ : Nat → Bool} {W : World} (h : RcS bx B l Wd o F ℓ W) (h5 : ℓ 35 = false) (hb : bx < Wd.heap.size) : W = Wd ∧ RcS bx B l Wd o F (fun j => if j = 35 then true else ℓ j) (Wd.alloc o) ∧ ℓ 36 = false := by
  have h6 : ℓ 36 = false := by
    cases e : ℓ 36 with
    | false => rfl
    | true => rw [(h.a e).2] at h5; cases h5
  have h7 : ℓ 37 = false := by
    cases e : ℓ 37 with
    | false => rfl
    | true => rw [h.b e] at h6; cases h6
  have hW : W = Wd := by rw [h.n h6, h5]; rfl
  subst hW
  exact ⟨rfl, ⟨fun e => by simp [h6] at e, fun e => by simp [h7] at e, Touch.of_below ((Below.refl _ W).alloc (Nat.le_refl _) o), fun _ => Below.heap_alloc _ _ _ hb, fun _ => by simp, fun e => by simp [h7] at e⟩, h6⟩
theorem RcS.grown {bx B : Nat} {l : List Rc} {Wd : World} {o : Obj} {F : Nat → Prop} {ℓ : Nat → Bool} {W : World} (h : RcS bx B l Wd o F ℓ W) (h6 : ℓ 36 = false) (h0 : ℓ 0 = true) (h5 : ℓ 35 = true) :
    W = Wd.alloc o ∧ ℓ 37 = false ∧ ∀ W', Touch F Wd W' → W'.heap[bx]? = Wd.heap[bx]? → RcS bx B l Wd o F (fun j => if j = 36 then true else ℓ j) W' := by
  have h7 : ℓ 37 = false := by
    cases e : ℓ 37 with
    | false => rfl
    | true => rw [h.b e] at h6; cases h6
  refine ⟨by rw [h.n h6, h5]; rfl, h7, fun W' t hx => ⟨fun _ => ⟨by simpa using h0, by simpa using h5⟩, fun e => by simp [h7] at e, t, fun _ => hx, fun e => by simp at e, fun e => by simp [h7] at e⟩⟩
theorem RcS.stored {bx B : Nat} {l : List Rc} {Wd : World} {o : Obj} {F : Nat → Prop} {ℓ : Nat → Bool} {W : World} {u v : Value} (h : RcS bx B l Wd o F ℓ W) (h6 : ℓ 36 = true) (h7 : ℓ 37 = false) (hF : F bx) (hb : Wd.heap[bx]? = some (.cells #[u] 22 (0, 0))) (hv : RectsAt B W v l) :
    W.heap[bx]? = some (.cells #[u] 22 (0, 0)) ∧ RcS bx B l Wd o F (fun j => if j = 37 then true else ℓ j) (W.setCell ⟨bx, 0, none⟩ v) ∧ ∀ z, RectsAt B W z l → RectsAt B (W.setCell ⟨bx, 0, none⟩ v) z l := by
  have e2 : W.heap[bx]? = some (.cells #[u] 22 (0, 0)) := (h.x h7).trans hb
  have kp : ∀ z, RectsAt B W z l → RectsAt B (W.setCell ⟨bx, 0, none⟩ v) z l := fun z hz => RowAt.keep hz (fun k hk => setOther (fun e => by
    subst e
    obtain ⟨_, cs, hc⟩ := own_type hz _ hk
    rw [e2] at hc
    cases hc))
  refine ⟨e2, ⟨fun _ => ⟨?_, ?_⟩, fun _ => by simpa using h6, h.t.trans (Touch.set hF), fun e => by simp at e, fun e => by simp [h6] at e, fun _ => ⟨v, setRowAt e2 rfl, kp v hv⟩⟩, kp⟩
  · simpa using (h.a h6).1
  · simpa using (h.a h6).2
end Go.Proofs.Ytedlhfemmofbpaa.Reg
