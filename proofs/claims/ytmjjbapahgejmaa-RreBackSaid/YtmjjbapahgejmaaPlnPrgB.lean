/-
  The program of layer 16 (plain): what is known of memory where it walks; the makers of its iterators.
-/
import Derived.Test.YtmjjbapahgejmaaPlnPrgA
import Derived.Deep.WholeRow
namespace Go.Proofs.Ytmjjbapahgejmaa.Pln
open Go.ChangeShapes Go.WideShapes Go.ChangeAt Go.RowKit Go.Shelf Lz RowG RegVal Fmt Oct OwnB
set_option linter.unusedVariables false
set_option linter.unusedSimpArgs false
set_option maxRecDepth 100000
attribute [local go_sem] Oper.semAt_some

theorem setRowAt {w : World} {R i : Nat} {cs cs' : Array Value} {T : TypeId} {v : Value} (h : w.heap[R]? = some (.cells cs T (0, 0))) (e : cs.setIfInBounds i v = cs') : (w.setCell ⟨R, i, none⟩ v).heap[R]? = some (.cells cs' T (0, 0)) := by
  rw [heap_setCell_same _ R i _ _ v h, e]
theorem setOther {w : World} {R i k : Nat} {v : Value} (h : k ≠ R) : (w.setCell ⟨R, i, none⟩ v).heap[k]? = w.heap[k]? := by
  show (w.heap.modify R _)[k]? = _
  rw [Array.getElem?_modify]
  simp [Ne.symm h]
theorem cellAt {w : World} {k o : Nat} {cs : Array Value} {T : TypeId} {z : Nat × Nat} {v : Value} (h : w.heap[k]? = some (.cells cs T z)) (hv : cs[o]? = some v) : w.cell? ⟨k, o, none⟩ = some v := by
  simp only [World.cell?, h]
  simpa using hv
theorem frozenAt {w : World} {k o : Nat} {cs : Array Value} {T : TypeId} (h : w.heap[k]? = some (.cells cs T (0, 0))) : w.frozen? ⟨k, o, none⟩ = false := by
  unfold World.frozen?
  simp only [h]
  simp
/-- All is as it was, but for some blocks. -/
structure Touch (F : Nat → Prop) (w w' : World) : Prop where
  os : w'.os = w.os
  tape : w'.tape = w.tape
  output : w'.output = w.output
  size : w.heap.size ≤ w'.heap.size
  block : ∀ k, k < w.heap.size → ¬ F k → w'.heap[k]? = w.heap[k]?
theorem Touch.refl (F : Nat → Prop) (w : World) : Touch F w w := ⟨rfl, rfl, rfl, Nat.le_refl _, fun _ _ _ => rfl⟩
theorem Touch.of_below {F : Nat → Prop} {w w' : World} (h : Below w.heap.size w w') : Touch F w w' := ⟨h.os, h.tape, h.output, h.size, fun k hk _ => h.block k hk⟩
theorem Touch.trans {F : Nat → Prop} {a b c : World} (h : Touch F a b) (k : Touch F b c) : Touch F a c :=
  ⟨k.os.trans h.os, k.tape.trans h.tape, k.output.trans h.output, Nat.le_trans h.size k.size, fun i hi hF => (k.block i (Nat.lt_of_lt_of_le hi h.size) hF).trans (h.block i hi hF)⟩
theorem Touch.set {F : Nat → Prop} {w : World} {g i : Nat} {v : Value} (h : F g) : Touch F w (w.setCell ⟨g, i, none⟩ v) :=
  ⟨rfl, rfl, rfl, by simp [World.setCell], fun k _ hF => setOther (fun e => hF (e ▸ h))⟩
theorem Touch.grown {F : Nat → Prop} {w w' : World} {row : Option Nat} (h : w.grownBy w' row) (hr : ∀ k, row = some k → F k) : Touch F w w' :=
  ⟨h.os, h.tape, h.output, h.size, fun k hk hF => h.block k hk (fun e => hF (hr k e.symm))⟩
theorem Touch.below {F : Nat → Prop} {w w' : World} {B : Nat} (h : Touch F w w') (hF : ∀ k, F k → B ≤ k) (hB : B ≤ w.heap.size) : Below B w w' :=
  ⟨h.os, h.tape, h.output, h.size, fun k hk => h.block k (by omega) (fun e => by have := hF k e; omega)⟩
/-- Where a row that is owned lies. -/
theorem own_type {w : World} {e : TypeId} {sz B n : Nat} {v : Value} {xs : List Value} (h : RowAt e sz B w v n xs) : ∀ k, v.ownBlock = some k → B ≤ k ∧ ∃ cs, w.heap[k]? = some (.cells cs e (0, 0)) := by
  intro k hk
  refine ⟨h.2.1 k hk, ?_⟩
  rcases h.1.2 with ⟨rfl, _⟩ | ⟨g, cap, cur, rfl, _, hg, _⟩
  · simp [Value.ownBlock] at hk
  · simp [Value.ownBlock] at hk
    subst hk
    exact ⟨cur, hg⟩
theorem RowAt.keep {w w' : World} {e : TypeId} {sz B n : Nat} {v : Value} {xs : List Value} (h : RowAt e sz B w v n xs) (hk : ∀ k, v.ownBlock = some k → w'.heap[k]? = w.heap[k]?) : RowAt e sz B w' v n xs := ⟨own_block h.1 hk, h.2⟩
/-- 'append' of one number that was just built, inside a round. -/
theorem wplIn_int {F : Fence} {n : Nat} {w0 : World} {ops : Array Oper} {rest : List Oper} {o : Oper} {a : Act} {Q : Exit → Act → World → Prop} (hgd : o.guard = none) (s x : Operand)
    (ho : o.op = .call { callee := .builtin .append, args := #[s, x], argTypes := #[22, 22] })
    (v : Value) (B : Nat) (l : List Int) (hs : a.eval s = v) (hown : IntsAt B w0 v l) (hB : B ≤ w0.heap.size) (hl : l.length ≤ 1000000000) (y : Int) (T : TypeId) (hx : a.eval x = .slice (some ⟨w0.heap.size, 0, none⟩) 1 1)
    (h : ∀ v' w', IntsAt B w' v' (l ++ [y]) → Touch (fun k => v.ownBlock = some k) w0 w' → wpListIn F n Try.prog ops Q rest (a.put o.dst v') w') : wpListIn F n Try.prog ops Q (o :: rest) a (w0.alloc (.cells #[.int .i64 y] T)) := by
  obtain ⟨i0, hi, hz0, hz1, hz2⟩ := info_parts info_num
  have hsee := sees_new w0 1 #[.int .i64 y] T 1 rfl (by intro u hu; simp at hu; subst hu; rfl)
  refine wpListIn_plain hgd fun K hK => ?_
  rcases hsee.2.2 with ⟨h1, _⟩ | ⟨g, off, cap, h1, _, hc⟩
  · simp at h1
  · simp only [Value.slice.injEq, Option.some.injEq, Addr.mk.injEq, and_true, true_and] at h1
    obtain ⟨⟨rfl, rfl⟩, rfl⟩ := h1
    obtain ⟨v', w', hr, h2, h3, h4⟩ := run_append_near (P := Try.prog) (w0.alloc (.cells #[.int .i64 y] T)) 22 o.type 3 i0 (.int .i64 0) 1 8 Try.underlying22 hi hz0 hz1 hz2 rfl (by decide) v l.length (ints l) (RowAt.alloc hown _).1
      ⟨w0.heap.size, 0, none⟩ 1 1 [.int .i64 y] rfl (fun j u hj => by rw [Go.WideShapes.add_plain]; exact hc j u hj) (by intro u hu; simp at hu; subst hu; rfl) (by unfold maxLen; omega) (by omega)
    unfold Oper.wpIn
    refine ⟨by simp [Oper.about, ho, resolve, Target.leads, Sem.run_pure], ?_⟩
    rw [Oper.semAt_plain F _ _ (by rw [ho]; intro c hc'; cases hc')]
    simp [execOp, ho, resolve, invoke, builtin, hs, hx, hr, Result.andThen]
    refine hK _ _ (h v' w' ?_ ((Touch.of_below ((Below.refl w0.heap.size w0).alloc (Nat.le_refl _) _)).trans (Touch.grown h3 (fun k e => e))))
    refine ⟨?_, fun k hk => ?_, ?_⟩
    · rw [List.length_append, ints_append]
      exact h2
    · rcases h4 k hk with h5 | h5
      · exact hown.2.1 k h5
      · have : (w0.alloc (.cells #[.int .i64 y] T)).heap.size = w0.heap.size + 1 := alloc_size _ _
        omega
    · intro u hu
      unfold ints at hu
      obtain ⟨q, _, rfl⟩ := List.mem_map.1 hu
      rfl
theorem make_row (c : Nat) (hc : c ≤ 1000000000) (w : World) : ∃ w', (Instr.makeSlice 22 (.int .i64 0) (.int .i64 (c : Int))).run Try.prog w = .ok (.slice (some ⟨w.heap.size, 0, none⟩) 0 c) w' ∧
    IntsAt w.heap.size w' (.slice (some ⟨w.heap.size, 0, none⟩) 0 c) [] ∧ Below w.heap.size w w' ∧ w'.heap.size = w.heap.size + 1 := by
  obtain ⟨i0, hi, hz0, hz1, hz2⟩ := info_parts info_num
  obtain ⟨w', hr, ho, hg⟩ := run_make_own (P := Try.prog) w w.heap.size 22 3 i0 (.int .i64 0) 1 Try.underlying22 hi hz0 hz1 .i64 .i64 c (by rw [hz2]; omega) (by unfold maxLen; omega) (Nat.le_refl _)
  have hr2 := run_make (P := Try.prog) w 22 3 i0 (.int .i64 0) Try.underlying22 hi hz0 .i64 .i64 0 (c : Int) (by omega) (by omega) (by rw [hz2]; omega) (by omega)
  rw [hr2] at hr
  injection hr with h1 h2
  subst h2
  refine ⟨_, by rw [hr2]; rfl, ⟨⟨ho.1, ?_⟩, fun k hk => ?_, fun u hu => absurd hu (by simp [ints])⟩, ⟨hg.os, hg.tape, hg.output, hg.size, fun k hk => hg.block k hk (by simp)⟩, alloc_size _ _⟩
  · rcases ho.2 with h | ⟨g, cap, cur, e1, _, rest⟩
    · exact .inl h
    · exact .inr ⟨g, cap, cur, e1, Nat.zero_le _, rest⟩
  · simp [Value.ownBlock] at hk
    omega
theorem box_turn {C : Nat} {w w' : World} (t : Turn (mine 9) C w w') {k : Nat} {cs : Array Value} {T : TypeId} {z : Nat × Nat} (h : w.heap[k]? = some (.cells cs T z)) (hT : T ≠ 9) : w'.heap[k]? = some (.cells cs T z) := by
  refine t.cells h ?_
  rintro (h1 | ⟨_, _, h1⟩)
  · simp [noC, Obj.isCells] at h1
  · cases h1; exact hT rfl
theorem IntsAt.turn {B C : Nat} {w w' : World} {v : Value} {l : List Int} (h : IntsAt B w v l) (t : Turn (mine 9) C w w') : IntsAt B w' v l :=
  RowAt.keep h (fun k hk => by
    obtain ⟨_, cs, hc⟩ := own_type h k hk
    rw [hc]
    refine t.cells hc ?_
    rintro (h1 | ⟨_, _, h1⟩)
    · simp [noC, Obj.isCells] at h1
    · cases h1)
theorem valuesOf_any (f : Fm) (vp : Value) (a : Option Addr) (n c : Nat) (hv : vp = .slice a n c) (w : World) :
    Calls Try.prog 57 #[f.v, vp] w fun e w' => e = .returned (.func (.func 80) #[] #[.pointer (some ⟨w.heap.size + 1, 0, none⟩), .pointer (some ⟨w.heap.size, 0, none⟩)]) ∧
      w' = (w.alloc (.cells #[.int .i64 f.B, .int .i64 f.D, .bool f.big, .bool f.tr, .int .i64 f.rm, .int .i64 f.gm, .int .i64 f.bm, .int .i64 f.rs, .int .i64 f.gs, .int .i64 f.bs] 37)).alloc (.cells #[vp] 22) := by
  subst hv
  have HF : f.v = .agg #[.int .i64 f.B, .int .i64 f.D, .bool f.big, .bool f.tr, .int .i64 f.rm, .int .i64 f.gm, .int .i64 f.bm, .int .i64 f.rs, .int .i64 f.gs, .int .i64 f.bs] := rfl
  rw [HF]
  clear HF
  obtain ⟨B, D, big, tr, rm, gm, bm, rs, gs, bs⟩ := f
  simp only
  go_enter Try.func57, Try.ntmps57
  go_wp2_with fail
  go_ret
  exact ⟨rfl, rfl⟩
end Go.Proofs.Ytmjjbapahgejmaa.Pln
