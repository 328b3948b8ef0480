/-
  'append' of tokens that are handed in.
-/
import Derived.Test.YtlafenookbdhoaaLzView
namespace Go.Proofs.Ytlafenookbdhoaa.Lz
open Go.ChangeShapes Go.WideShapes Go.ChangeAt Go.RowKit
set_option linter.unusedVariables false

theorem run_append_toks (w : World) (ty : TypeId) (i : TypeInfo) (hi : Try.prog.info? 30 = some i) (hz : i.zero = some (.agg #[.int .i64 0, .int .i64 0, .int .i64 0])) (hsize : i.size = 3) (hby : i.bytes = 24)
    (v : Value) (n : Nat) (l0 : List Tok) (hown : w.ownsRow 0 30 3 v n (cellsT l0)) (a : Option Addr) (m c : Nat) (l : List Tok) (hm : l.length = m) (hs : IsToks w a l) (ha : a = none → m = 0 ∧ c = 0) (h63 : n + m ≤ 1000000) :
    ∃ v' w', (Builtin.append_ #[22, 22] ty #[v, .slice a m c]).run Try.prog w = .ok v' w' ∧ w'.ownsRow 0 30 3 v' (n + m) (cellsT (l0 ++ l)) ∧ w.grownBy w' v.ownBlock ∧ Near w v v' := by
  cases a with
  | none =>
    obtain ⟨rfl, rfl⟩ := ha rfl
    have hl : l = [] := List.length_eq_zero_iff.1 hm
    subst hl
    exact ⟨v, w, run_append_owned_none (P := Try.prog) (w := w) 0 22 ty 30 i 3 Try.underlying22 hi v n _ hown, by simpa using hown, World.grownBy.refl _ _, Near.refl _ _⟩
  | some ad =>
    rw [cellsT_append]
    refine run_append_near (P := Try.prog) w 22 ty 30 i (.agg #[.int .i64 0, .int .i64 0, .int .i64 0]) 3 24 Try.underlying22 hi hz hsize hby rfl (by decide) v n (cellsT l0) hown ad m c (cellsT l) (by rw [cellsT_length, hm]) (fun j u hj => ?_) (cellsT_one _) (by unfold maxLen; omega) (by omega)
    have hj3 : j < l.length * 3 := by
      have := (List.getElem?_eq_some_iff.1 hj).1
      rwa [cellsT_length] at this
    obtain ⟨b, off, e, hb, hc⟩ := hs (by omega)
    simp only [Option.some.injEq] at e
    subst e
    obtain ⟨k, r, hr, rfl⟩ : ∃ k r, r < 3 ∧ j = k * 3 + r := ⟨j / 3, j % 3, Nat.mod_lt _ (by decide), by omega⟩
    obtain ⟨g0, g1, g2⟩ := cellsT_get l k (by omega)
    obtain ⟨q0, q1, q2⟩ := hc k (by omega)
    rw [Go.WideShapes.add_plain]
    obtain rfl | rfl | rfl : r = 0 ∨ r = 1 ∨ r = 2 := by omega
    · rw [← hj]; exact q0.trans g0.symm
    · rw [← hj, ← Nat.add_assoc]; exact q1.trans g1.symm
    · rw [← hj, ← Nat.add_assoc]; exact q2.trans g2.symm

theorem wpl_append_toks (w : World) {ops : Array Oper} {rest : List Oper} {o : Oper} {act : Act} {Q : Exit → Act → World → Prop} (hgd : o.guard = none) (s x : Operand)
    (ho : o.op = .call { callee := .builtin .append, args := #[s, x], argTypes := #[22, 22] })
    (i : TypeInfo) (hi : Try.prog.info? 30 = some i) (hz : i.zero = some (.agg #[.int .i64 0, .int .i64 0, .int .i64 0])) (hsize : i.size = 3) (hby : i.bytes = 24)
    (v : Value) (n : Nat) (l0 : List Tok) (hv : act.eval s = v) (hown : w.ownsRow 0 30 3 v n (cellsT l0)) (a : Option Addr) (m c : Nat) (l : List Tok) (hx : act.eval x = .slice a m c) (hm : l.length = m) (hs : IsToks w a l) (ha : a = none → m = 0 ∧ c = 0) (h63 : n + m ≤ 1000000)
    (h : ∀ v' w', w'.ownsRow 0 30 3 v' (n + m) (cellsT (l0 ++ l)) → w.grownBy w' v.ownBlock → Near w v v' → wpList Try.prog ops Q rest (act.put o.dst v') w') : wpList Try.prog ops Q (o :: rest) act w := by
  refine wpList_plain hgd fun K hK => ?_
  obtain ⟨v', w', hr, h2, h3, h4⟩ := run_append_toks w o.type i hi hz hsize hby v n l0 hown a m c l hm hs ha h63
  unfold Oper.wp execOp
  simp only [ho, resolve, invoke, builtin, Sem.run_bind, Sem.run_pure, Result.andThen_ok, List.map_toArray, List.map_cons, List.map_nil, hv, hx, hr]
  exact hK _ _ (h v' w' h2 h3 h4)

end Go.Proofs.Ytlafenookbdhoaa.Lz
