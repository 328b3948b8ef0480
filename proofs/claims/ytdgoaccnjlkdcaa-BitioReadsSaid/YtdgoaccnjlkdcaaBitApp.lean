/-
  'append(m, x...)', x whatever reads as a row of bits: laws for the walk. What keeps a row of bits beside a writer.
-/
import Derived.Test.YtdgoaccnjlkdcaaBitRef3
namespace Go.Proofs.Ytdgoaccnjlkdcaa.Bit
open Go.ChangeShapes Go.WideShapes Go.ChangeAt Go.RowKit
set_option linter.unusedVariables false

theorem run_append_sees (w : World) (ty : TypeId) (v src : Value) (l m : List Bool) (h : BlAt w v l) (hs : SeesV w src m) (hb : l.length + m.length ≤ 140737488355328) :
    ∃ v' w', (Builtin.append_ #[29, 29] ty #[v, src]).run Try.prog w = .ok v' w' ∧ BlAt w' v' (l ++ m) ∧ w.grownBy w' v.ownBlock ∧ Near w v v' := by
  obtain ⟨t0, hi, hz0, hz1, hz2⟩ := info_parts info_bool
  rcases hs with ⟨rfl, rfl⟩ | ⟨g, off, cap, rfl, hc⟩
  · refine ⟨v, w, run_append_owned_none (P := Try.prog) (w := w) 0 29 ty 4 t0 1 Try.underlying29 hi v l.length (cellsB l) h, by simpa using h, World.grownBy.refl _ _, Near.refl _ _⟩
  · obtain ⟨v', w', hr, ho, hg, hn⟩ := run_append_near (P := Try.prog) w 29 ty 4 t0 (.bool false) 1 1 Try.underlying29 hi hz0 hz1 hz2 rfl (by decide) v l.length (cellsB l) h ⟨g, off, none⟩ m.length cap (cellsB m) (by rw [cellsB_length]; omega)
      (cell_bits (fun j hj => by rw [Go.WideShapes.add_plain]; exact hc j hj)) (cellsB_one _) (by unfold maxLen; omega) (by omega)
    exact ⟨v', w', hr, BlAt.joined ho, hg, hn⟩

theorem wpList_append_sees (w : World) {ops : Array Oper} {rest : List Oper} {o : Oper} {a : Act} {Q : Exit → Act → World → Prop} (hgd : o.guard = none) (s x : Operand)
    (ho : o.op = .call { callee := .builtin .append, args := #[s, x], argTypes := #[29, 29] })
    (v src : Value) (l m : List Bool) (hs : a.eval s = v) (hx : a.eval x = src) (hown : BlAt w v l) (hsee : SeesV w src m) (hb : l.length + m.length ≤ 140737488355328)
    (h : ∀ v' w', BlAt w' v' (l ++ m) → w.grownBy w' v.ownBlock → Near w v v' → wpList Try.prog ops Q rest (a.put o.dst v') w') : wpList Try.prog ops Q (o :: rest) a w := by
  refine wpList_plain hgd fun K hK => ?_
  obtain ⟨v', w', hr, h2, h3, h4⟩ := run_append_sees w o.type v src l m hown hsee hb
  unfold Oper.wp execOp
  simp only [ho, resolve, invoke, builtin, Sem.run_bind, Sem.run_pure, Result.andThen_ok, List.map_toArray, List.map_cons, List.map_nil, hs, hx, hr]
  exact hK _ _ (h v' w' h2 h3 h4)

theorem step_append_sees {ops : Array Oper} {o : Oper} {a : Act} {w : World} {K : Act → World → Prop} {Q : Exit → Act → World → Prop} {E : Prop}
    (hg : o.guard = none) (s x : Operand) (hop : o.op = Op.call { callee := Callee.builtin Builtin.append, args := #[s, x], argTypes := #[29, 29] })
    (v src : Value) (l m : List Bool) (hs : a.eval s = v) (hx : a.eval x = src) (hown : BlAt w v l) (hsee : SeesV w src m) (hb : l.length + m.length ≤ 140737488355328)
    (hK : ∀ v' w', BlAt w' v' (l ++ m) → w.grownBy w' v.ownBlock → Near w v v' → K (a.put o.dst v') w') :
    if Region.wanted o (yielded ops a.tmps) = true then Oper.wp Try.prog o a w K Q else E := by
  have hw : Region.wanted o (yielded ops a.tmps) = true := by simp [Region.wanted, hg]
  rw [if_pos hw]
  obtain ⟨v', w', hrun, r1, r2, r3⟩ := run_append_sees w o.type v src l m hown hsee hb
  unfold Oper.wp
  simp [execOp, hop, resolve, invoke, builtin, hs, hx, hrun, Result.andThen]
  exact hK v' w' r1 r2 r3

/-- A row of bits is as it was, whatever a writer does. -/
theorem BlAt.underBut {w w' : World} {b : Nat} {u v : Value} {l : List Bool} {bs : List UInt8} {f : Int} (h : BlAt w v l) (hw : WrRaw w b u bs f) (k : But b u w w') : BlAt w' v l :=
  h.block fun i hi => k.block i (World.ownsRow.lt h i hi).2 (fun e => row_ne h hw.blk (by decide) (by rw [hi, e])) (fun e => rows_ne h hw.own (by decide) i e.symm hi)

/-- A writer is as it was, whatever is done to a row of bits. -/
theorem WrRaw.underRow {w w' : World} {b : Nat} {u v : Value} {l : List Bool} {bs : List UInt8} {f : Int} (hw : WrRaw w b u bs f) (h : BlAt w v l) (k : w.grownBy w' v.ownBlock) : WrRaw w' b u bs f :=
  hw.same (k.block b hw.lt (fun e => row_ne h hw.blk (by decide) e.symm)) (fun i hi => k.block i (hw.own.lt i hi).2 (fun e => rows_ne h hw.own (by decide) i hi e.symm))

theorem SeesV.below {w w' : World} {v : Value} {l : List Bool} (h : BlAt w v l) (k : Below w.heap.size w w') : SeesV w' v l := (h.below k).seesV
end Go.Proofs.Ytdgoaccnjlkdcaa.Bit
