/-
  Texts in one: LzRow, RowG, RegVal, RegPred, RetCell.
-/
import Derived.Test.YtmjjbapahgejmaaRows
import Derived.WalkKit
import Derived.ProofKit
import Derived.OpenShut
import Derived.ShutString
import Derived.ChangeOld
import Derived.Below
import Derived.WalkSpells
import Derived.WalkLawsBesides
import Derived.Deep.QuietTactic
import Derived.Deep.WholeRow
import Derived.BigQuiet
import Derived.BigGuardPart
import Derived.StillTailTactics
import Derived.Deep.RegionHeld3
import Derived.Deep.RegionWith
import Derived.Outline
import Derived.IntWalk
import Derived.Lib.Hide
import Derived.ArgAppend
import Derived.Lib.AppendStr
import Derived.Test.YtmjjbapahgejmaaAllOct17
import Derived.Orders
import Derived.Laws.ResultCell
namespace Go.Proofs.Ytmjjbapahgejmaa.Lz
open Go.ChangeShapes Go.WideShapes Go.ChangeAt Go.RowKit
set_option linter.unusedVariables false

theorem info_u8 : (Try.prog.info? 5).map (fun i => (i.zero, i.size, i.bytes)) = some (some (.int .u8 0), 1, 1) := by kernel_rfl

/-- A row that is the old one, or a new one. -/
def Near (w : World) (v v' : Value) : Prop := ∀ k, v'.ownBlock = some k → v.ownBlock = some k ∨ w.heap.size ≤ k

theorem Near.refl (w : World) (v : Value) : Near w v v := fun _ h => .inl h
theorem Near.trans {w w1 : World} {v v1 v2 : Value} (h : Near w v v1) (k : Near w1 v1 v2) (hs : w.heap.size ≤ w1.heap.size) : Near w v v2 := by
  intro i hi
  rcases k i hi with h1 | h1
  · exact h i h1
  · exact .inr (by omega)

/-- 'append' onto what is owned: the row is the old one, or a new one. -/
theorem run_append_near {P : Program} (w : World) (t ty e : TypeId) (i : TypeInfo) (z : Value) (size bytes : Nat) (ht : P.underlying t = some (.slice e)) (hi : P.info? e = some i) (hz : i.zero = some z)
    (hsize : i.size = size) (hby : i.bytes = bytes) (hzs : z.cells.size = size) (hsz : 0 < size)
    (v : Value) (n : Nat) (xs : List Value) (hown : w.ownsRow 0 e size v n xs)
    (a : Addr) (m c : Nat) (news : List Value) (hl : news.length = m * size) (hnews : ∀ j u, news[j]? = some u → w.cell? (a.add j) = some u) (h1 : ∀ u ∈ news, u.oneCell' = true)
    (h63 : n + m ≤ maxLen) (hbytes : (n + m) * bytes ≤ 140737488355328) :
    ∃ v' w', (Builtin.append_ #[t, t] ty #[v, .slice (some a) m c]).run P w = .ok v' w' ∧ w'.ownsRow 0 e size v' (n + m) (xs ++ news) ∧ w.grownBy w' v.ownBlock ∧ Near w v v' := by
  rcases hown.2 with ⟨rfl, rfl⟩ | ⟨g, cap, cur, rfl, hbg, hg, hnc, hcm, hcs, htake⟩
  · obtain ⟨v', w', hr, h2, h3, _⟩ := run_append_own (P := P) w w.heap.size t ty e i z size bytes ht hi hz hsize hby hzs hsz (.slice none 0 0) 0 xs ⟨hown.1, .inl ⟨rfl, rfl⟩⟩ a m c news hl hnews h1 h63 hbytes (Nat.le_refl _)
    refine ⟨v', w', hr, ⟨h2.1, ?_⟩, h3, fun k hk => .inr (h2.lt k hk).1⟩
    rcases h2.2 with h | ⟨g, cap, cur, h1, _, h3⟩
    · exact .inl h
    · exact .inr ⟨g, cap, cur, h1, Nat.zero_le _, h3⟩
  · by_cases hroom : n + m ≤ cap
    · obtain ⟨w', hr, h2, h3⟩ := run_append_fits (P := P) w 0 t ty e i size ht hi hsize g n cap xs hown a m c news hl hnews h1 hroom
      exact ⟨_, w', hr, h2, h3, fun k hk => .inl hk⟩
    · have holds : ∀ j u, xs[j]? = some u → w.cell? ((⟨g, 0, none⟩ : Addr).add j) = some u := hown.cells (g := g) rfl
      obtain ⟨v', w', hr, h2, h3⟩ := run_append_arg_grows (P := P) w t ty e i z size bytes ht hi hz hsize hby hzs hsz ⟨g, 0, none⟩ n cap xs hown.1 holds a m c news hl hnews (by omega) h63 hbytes
      refine ⟨v', w', hr, ⟨h2.1, ?_⟩, ⟨h3.os, h3.tape, h3.output, h3.size, fun k hk _ => h3.block k hk (by simp)⟩, fun k hk => .inr (h2.lt k hk).1⟩
      rcases h2.2 with h | ⟨g, cap, cur, h1, _, h3⟩
      · exact .inl h
      · exact .inr ⟨g, cap, cur, h1, Nat.zero_le _, h3⟩

theorem wpList_append_near {P : Program} (w : World) {ops : Array Oper} {rest : List Oper} {o : Oper} {a : Act} {Q : Exit → Act → World → Prop} (hgd : o.guard = none) (s x : Operand) (t : TypeId)
    (ho : o.op = .call { callee := .builtin .append, args := #[s, x], argTypes := #[t, t] })
    (e : TypeId) (i : TypeInfo) (z : Value) (size bytes : Nat) (ht : P.underlying t = some (.slice e)) (hi : P.info? e = some i) (hz : i.zero = some z)
    (hsize : i.size = size) (hby : i.bytes = bytes) (hzs : z.cells.size = size) (hsz : 0 < size)
    (v : Value) (n : Nat) (xs : List Value) (hs : a.eval s = v) (hown : w.ownsRow 0 e size v n xs)
    (ad : Addr) (m c : Nat) (news : List Value) (hx : a.eval x = .slice (some ad) m c) (hl : news.length = m * size) (hnews : ∀ j u, news[j]? = some u → w.cell? (ad.add j) = some u) (h1 : ∀ u ∈ news, u.oneCell' = true)
    (h63 : n + m ≤ maxLen) (hbytes : (n + m) * bytes ≤ 140737488355328)
    (h : ∀ v' w', w'.ownsRow 0 e size v' (n + m) (xs ++ news) → w.grownBy w' v.ownBlock → Near w v v' → wpList P ops Q rest (a.put o.dst v') w') : wpList P ops Q (o :: rest) a w := by
  refine wpList_plain hgd fun K hK => ?_
  obtain ⟨v', w', hr, h2, h3, h4⟩ := run_append_near (P := P) w t o.type e i z size bytes ht hi hz hsize hby hzs hsz v n xs hown ad m c news hl hnews h1 h63 hbytes
  unfold Oper.wp execOp
  simp only [ho, resolve, invoke, builtin, Sem.run_bind, Sem.run_pure, Result.andThen_ok, List.map_toArray, List.map_cons, List.map_nil, hs, hx, hr]
  exact hK _ _ (h v' w' h2 h3 h4)

def cellsU (l : List UInt8) : List Value := l.map fun b => Value.int .u8 b.toNat

theorem ownsRow_block {w w' : World} {e : TypeId} {v : Value} {n : Nat} {xs : List Value} (h : w.ownsRow 0 e 1 v n xs) (hk : ∀ k, v.ownBlock = some k → w'.heap[k]? = w.heap[k]?) : w'.ownsRow 0 e 1 v n xs := by
  refine ⟨h.1, ?_⟩
  rcases h.2 with h1 | ⟨g, cap, cur, rfl, h1, hg, h2⟩
  · exact .inl h1
  · exact .inr ⟨g, cap, cur, rfl, h1, by rw [hk g rfl]; exact hg, h2⟩

theorem own_form {w : World} {base size n : Nat} {e : TypeId} {v : Value} {xs : List Value} (h : w.ownsRow base e size v n xs) (hn : 0 < n) : ∃ g cap, v = .slice (some ⟨g, 0, none⟩) n cap := by
  rcases h.2 with ⟨_, h0⟩ | ⟨g, cap, cur, rfl, _⟩
  · omega
  · exact ⟨g, cap, rfl⟩

theorem row0 {w : World} {base size n : Nat} {e : TypeId} {v : Value} {xs : List Value} (h : w.ownsRow base e size v n xs) : w.ownsRow 0 e size v n xs := by
  refine ⟨h.1, ?_⟩
  rcases h.2 with h0 | ⟨g, cap, cur, h1, _, h3⟩
  · exact .inl h0
  · exact .inr ⟨g, cap, cur, h1, Nat.zero_le _, h3⟩

/-- 'append(b, s...)' onto what is owned: the row is the old one, or a new one. -/
theorem run_append_string_near {P : Program} (w : World) (t u ty e : TypeId) (i : TypeInfo) (ht : P.underlying t = some (.slice e)) (hu : P.underlying u = some .string) (hi : P.info? e = some i) (hz : i.zero = some (.int .u8 0))
    (hsize : i.size = 1) (hby : i.bytes = 1) (v : Value) (n : Nat) (xs : List Value) (hown : w.ownsRow 0 e 1 v n xs) (s : ByteArray) (h63 : n + s.size ≤ maxLen) (hbytes : n + s.size ≤ 140737488355328) :
    ∃ v' w', (Builtin.append_ #[t, u] ty #[v, .string s]).run P w = .ok v' w' ∧ w'.ownsRow 0 e 1 v' (n + s.size) (xs ++ Lib.strCells s) ∧ w.grownBy w' v.ownBlock ∧ Near w v v' := by
  obtain ⟨v', w', hr, h2, h3, _⟩ := Lib.run_append_own_string (P := P) w 0 t u ty e i ht hu hi hz hsize hby v n xs hown s h63 hbytes (Nat.zero_le _)
  refine ⟨v', w', hr, h2, h3, ?_⟩
  rcases hown.2 with ⟨rfl, rfl⟩ | ⟨g, cap, cur, rfl, hbg, hg, hnc, hcm, hcs, htake⟩
  · obtain ⟨v2, w2, hr2, h4, _⟩ := Lib.run_append_own_string (P := P) w w.heap.size t u ty e i ht hu hi hz hsize hby (.slice none 0 0) 0 xs ⟨hown.1, .inl ⟨rfl, rfl⟩⟩ s h63 hbytes (Nat.le_refl _)
    rw [hr] at hr2
    injection hr2 with e1 e2
    subst e1 e2
    exact fun k hk => .inr (h4.lt k hk).1
  · by_cases hroom : n + s.size ≤ cap
    · have hr2 := Lib.run_append_room_string (P := P) w t u ty e i ht hu hi hsize g n cap cur hg s hroom (by omega)
      rw [hr] at hr2
      injection hr2 with e1 e2
      subst e1
      exact fun k hk => .inl hk
    · have holds : ∀ j u, xs[j]? = some u → w.cell? ((⟨g, 0, none⟩ : Addr).add j) = some u := hown.cells (g := g) rfl
      have hr2 := Lib.run_append_grow_string (P := P) w t u ty e i (.int .u8 0) ht hu hi hz ⟨g, 0, none⟩ n cap xs (by rw [hsize]; simpa using hown.1) holds s (by omega) (by unfold maxLen at h63; omega) (by rw [hby]; exact growslice_fits (by omega) (by omega))
      rw [hr] at hr2
      injection hr2 with e1 e2
      subst e1
      intro k hk
      simp only [Value.ownBlock, Option.some.injEq] at hk
      exact .inr (by omega)

theorem strCells_eq (s : ByteArray) : Lib.strCells s = cellsU s.data.toList := rfl

theorem wpList_append_string_near {P : Program} (w : World) {ops : Array Oper} {rest : List Oper} {o : Oper} {a : Act} {Q : Exit → Act → World → Prop} (hgd : o.guard = none) (sl x : Operand) (t u : TypeId)
    (ho : o.op = .call { callee := .builtin .append, args := #[sl, x], argTypes := #[t, u] })
    (e : TypeId) (i : TypeInfo) (ht : P.underlying t = some (.slice e)) (hu : P.underlying u = some .string) (hi : P.info? e = some i) (hz : i.zero = some (.int .u8 0))
    (hsize : i.size = 1) (hby : i.bytes = 1)
    (v : Value) (n : Nat) (xs : List Value) (hs : a.eval sl = v) (hown : w.ownsRow 0 e 1 v n xs) (s : ByteArray) (hx : a.eval x = .string s)
    (h63 : n + s.size ≤ maxLen) (hbytes : n + s.size ≤ 140737488355328)
    (h : ∀ v' w', w'.ownsRow 0 e 1 v' (n + s.size) (xs ++ Lib.strCells s) → w.grownBy w' v.ownBlock → Near w v v' → wpList P ops Q rest (a.put o.dst v') w') : wpList P ops Q (o :: rest) a w := by
  refine wpList_plain hgd fun K hK => ?_
  obtain ⟨v', w', hr, h2, h3, h4⟩ := run_append_string_near (P := P) w t u o.type e i ht hu hi hz hsize hby v n xs hown s h63 hbytes
  unfold Oper.wp execOp
  simp only [ho, resolve, invoke, builtin, Sem.run_bind, Sem.run_pure, Result.andThen_ok, List.map_toArray, List.map_cons, List.map_nil, hs, hx, hr]
  exact hK _ _ (h v' w' h2 h3 h4)

theorem wp_append_near {P : Program} {o : Oper} {a : Act} {w : World} {K : Act → World → Prop} {Q : Exit → Act → World → Prop}
    (s x : Operand) (t : TypeId) (hop : o.op = Op.call { callee := Callee.builtin Builtin.append, args := #[s, x], argTypes := #[t, t] })
    (e : TypeId) (i : TypeInfo) (z : Value) (size bytes : Nat) (ht : P.underlying t = some (.slice e)) (hi : P.info? e = some i) (hz : i.zero = some z)
    (hsize : i.size = size) (hby : i.bytes = bytes) (hzs : z.cells.size = size) (hsz : 0 < size)
    (v : Value) (n : Nat) (xs : List Value) (hs : a.eval s = v) (hown : w.ownsRow 0 e size v n xs)
    (ad : Addr) (m c : Nat) (news : List Value) (hx : a.eval x = .slice (some ad) m c) (hl : news.length = m * size) (hnews : ∀ j u, news[j]? = some u → w.cell? (ad.add j) = some u) (h1 : ∀ u ∈ news, u.oneCell' = true)
    (h63 : n + m ≤ maxLen) (hbytes : (n + m) * bytes ≤ 140737488355328)
    (hK : ∀ v' w', w'.ownsRow 0 e size v' (n + m) (xs ++ news) → w.grownBy w' v.ownBlock → Near w v v' → K (a.put o.dst v') w') : o.wp P a w K Q := by
  obtain ⟨v', w', hrun, r1, r2, r3⟩ := run_append_near (P := P) w t o.type e i z size bytes ht hi hz hsize hby hzs hsz v n xs hown ad m c news hl hnews h1 h63 hbytes
  unfold Oper.wp
  simp [execOp, hop, resolve, invoke, builtin, hs, hx, hrun, Result.andThen]
  exact hK v' w' r1 r2 r3

/-- What is told of a slice that is read. -/
def Sees (w : World) (size : Nat) (v : Value) (n : Nat) (cs : List Value) : Prop :=
  cs.length = n * size ∧ (∀ u ∈ cs, u.oneCell' = true) ∧ ((v = .slice none 0 0 ∧ n = 0) ∨ ∃ g off cap, v = .slice (some ⟨g, off, none⟩) n cap ∧ g < w.heap.size ∧ ∀ j u, cs[j]? = some u → w.cell? ⟨g, off + j, none⟩ = some u)
theorem Sees.form {w : World} {size : Nat} {v : Value} {n : Nat} {cs : List Value} (h : Sees w size v n cs) : ∃ a cap, v = .slice a n cap := by
  rcases h.2.2 with ⟨h1, h2⟩ | ⟨g, off, cap, h1, _⟩
  · exact ⟨none, 0, by rw [h1, h2]⟩
  · exact ⟨_, cap, h1⟩
theorem Sees.below {w w' : World} {size B : Nat} {v : Value} {n : Nat} {cs : List Value} (h : Sees w size v n cs) (k : Below B w w') (hB : w.heap.size ≤ B) : Sees w' size v n cs := by
  refine ⟨h.1, h.2.1, ?_⟩
  rcases h.2.2 with h1 | ⟨g, off, cap, h1, h2, h3⟩
  · exact .inl h1
  · exact .inr ⟨g, off, cap, h1, Nat.lt_of_lt_of_le h2 k.size, fun j u hj => (k.cell (p := ⟨g, off + j, none⟩) (show g < B by omega)).trans (h3 j u hj)⟩

theorem run_append_sees2 {P : Program} (w : World) (t ty e : TypeId) (i : TypeInfo) (z : Value) (size bytes : Nat) (ht : P.underlying t = some (.slice e)) (hi : P.info? e = some i) (hz : i.zero = some z)
    (hsize : i.size = size) (hby : i.bytes = bytes) (hzs : z.cells.size = size) (hsz : 0 < size)
    (v : Value) (n : Nat) (xs : List Value) (hown : w.ownsRow 0 e size v n xs) (src : Value) (m : Nat) (cs : List Value) (hs : Sees w size src m cs) (h63 : n + m ≤ maxLen) (hbytes : (n + m) * bytes ≤ 140737488355328) :
    ∃ v' w', (Builtin.append_ #[t, t] ty #[v, src]).run P w = .ok v' w' ∧ w'.ownsRow 0 e size v' (n + m) (xs ++ cs) ∧ w.grownBy w' v.ownBlock ∧ Near w v v' := by
  rcases hs.2.2 with ⟨rfl, rfl⟩ | ⟨g, off, cap, rfl, _, hc⟩
  · have : cs = [] := List.length_eq_zero_iff.1 (by have := hs.1; omega)
    subst this
    exact ⟨v, w, run_append_owned_none (P := P) (w := w) 0 t ty e i size ht hi v n xs hown, by simpa using hown, World.grownBy.refl _ _, Near.refl _ _⟩
  · exact run_append_near (P := P) w t ty e i z size bytes ht hi hz hsize hby hzs hsz v n xs hown ⟨g, off, none⟩ m cap cs hs.1 (fun j u hj => by rw [Go.WideShapes.add_plain]; exact hc j u hj) hs.2.1 h63 hbytes

theorem wpl_append_sees {P : Program} (w : World) {ops : Array Oper} {rest : List Oper} {o : Oper} {a : Act} {Q : Exit → Act → World → Prop} (hgd : o.guard = none) (s x : Operand) (t : TypeId)
    (ho : o.op = .call { callee := .builtin .append, args := #[s, x], argTypes := #[t, t] })
    (e : TypeId) (i : TypeInfo) (z : Value) (size bytes : Nat) (ht : P.underlying t = some (.slice e)) (hi : P.info? e = some i) (hz : i.zero = some z)
    (hsize : i.size = size) (hby : i.bytes = bytes) (hzs : z.cells.size = size) (hsz : 0 < size)
    (v : Value) (n : Nat) (xs : List Value) (hv : a.eval s = v) (hown : w.ownsRow 0 e size v n xs) (src : Value) (m : Nat) (cs : List Value) (hx : a.eval x = src) (hs : Sees w size src m cs) (h63 : n + m ≤ maxLen) (hbytes : (n + m) * bytes ≤ 140737488355328)
    (h : ∀ v' w', w'.ownsRow 0 e size v' (n + m) (xs ++ cs) → w.grownBy w' v.ownBlock → Near w v v' → wpList P ops Q rest (a.put o.dst v') w') : wpList P ops Q (o :: rest) a w := by
  refine wpList_plain hgd fun K hK => ?_
  obtain ⟨v', w', hr, h2, h3, h4⟩ := run_append_sees2 (P := P) w t o.type e i z size bytes ht hi hz hsize hby hzs hsz v n xs hown src m cs hs h63 hbytes
  unfold Oper.wp execOp
  simp only [ho, resolve, invoke, builtin, Sem.run_bind, Sem.run_pure, Result.andThen_ok, List.map_toArray, List.map_cons, List.map_nil, hv, hx, hr]
  exact hK _ _ (h v' w' h2 h3 h4)

end Go.Proofs.Ytmjjbapahgejmaa.Lz
namespace Go.Proofs.Ytmjjbapahgejmaa.RowG
open Go Lz
open Go.ChangeShapes Go.WideShapes Go.ChangeAt Go.RowKit
set_option linter.unusedVariables false

/-- The value v owns the row, behind B. -/
def RowAt (e : TypeId) (sz B : Nat) (w : World) (v : Value) (n : Nat) (xs : List Value) : Prop := w.ownsRow 0 e sz v n xs ∧ (∀ k, v.ownBlock = some k → B ≤ k) ∧ ∀ u ∈ xs, u.oneCell' = true
theorem RowAt.nil (e : TypeId) (sz B : Nat) (w : World) : RowAt e sz B w (.slice none 0 0) 0 [] := ⟨World.ownsRow_nil _ _ _ _, fun k hk => by simp [Value.ownBlock] at hk, fun u hu => by simp at hu⟩
theorem RowAt.alloc {e : TypeId} {sz B n : Nat} {w : World} {v : Value} {xs : List Value} (h : RowAt e sz B w v n xs) (o : Obj) : RowAt e sz B (w.alloc o) v n xs := ⟨World.ownsRow.alloc h.1 o, h.2⟩
theorem own_block {w w' : World} {e : TypeId} {sz n : Nat} {v : Value} {xs : List Value} (h : w.ownsRow 0 e sz v n xs) (hk : ∀ k, v.ownBlock = some k → w'.heap[k]? = w.heap[k]?) : w'.ownsRow 0 e sz v n xs := by
  refine ⟨h.1, ?_⟩
  rcases h.2 with h1 | ⟨g, cap, cur, rfl, h1, hg, h2⟩
  · exact .inl h1
  · exact .inr ⟨g, cap, cur, rfl, h1, by rw [hk g rfl]; exact hg, h2⟩
theorem RowAt.below {e : TypeId} {sz B n : Nat} {w w' : World} {v : Value} {xs : List Value} (h : RowAt e sz B w v n xs) (k : Below w.heap.size w w') : RowAt e sz B w' v n xs :=
  ⟨own_block h.1 fun i hi => k.block i (World.ownsRow.lt h.1 i hi).2, h.2⟩
theorem RowAt.base {e : TypeId} {sz B C n : Nat} {w : World} {v : Value} {xs : List Value} (h : RowAt e sz B w v n xs) (hC : C ≤ B) : RowAt e sz C w v n xs := ⟨h.1, fun k hk => Nat.le_trans hC (h.2.1 k hk), h.2.2⟩
theorem RowAt.size {e : TypeId} {sz B n : Nat} {w : World} {v : Value} {xs : List Value} (h : RowAt e sz B w v n xs) : xs.length = n * sz := h.1.1
theorem RowAt.shape {e : TypeId} {sz B n : Nat} {w : World} {v : Value} {xs : List Value} (h : RowAt e sz B w v n xs) : ∃ a cap, v = .slice a n cap := by
  rcases h.1.2 with ⟨rfl, h0⟩ | ⟨g, cap, cur, rfl, _⟩
  · exact ⟨none, 0, by rw [h0]⟩
  · exact ⟨_, cap, rfl⟩
/-- A row that is owned is a slice that is read. -/
theorem RowAt.sees {e : TypeId} {sz B n : Nat} {w : World} {v : Value} {xs : List Value} (h : RowAt e sz B w v n xs) : Sees w sz v n xs := by
  refine ⟨h.1.1, h.2.2, ?_⟩
  rcases h.1.2 with ⟨rfl, h0⟩ | ⟨g, cap, cur, rfl, _, hg, _⟩
  · exact .inl ⟨rfl, h0⟩
  · refine .inr ⟨g, 0, cap, rfl, (Array.getElem?_eq_some_iff.1 hg).1, fun j u hj => ?_⟩
    have hl : j < xs.length := (List.getElem?_eq_some_iff.1 hj).1
    have hs := h.1.1
    rw [Nat.zero_add, World.ownsRow.cellAt h.1 j (by omega)]
    exact hj
theorem grown_below {w w' : World} {B : Nat} {row : Option Nat} (h : w.grownBy w' row) (hr : ∀ k, row = some k → B ≤ k) (hB : B ≤ w.heap.size) : Below B w w' :=
  ⟨h.os, h.tape, h.output, h.size, fun i hi => h.block i (by omega) fun e => by have := hr i e.symm; omega⟩
/-- 'append' of one that was just made. -/
theorem wpl_grow {P : Program} (w : World) {ops : Array Oper} {rest : List Oper} {o : Oper} {a : Act} {Q : Exit → Act → World → Prop} (hgd : o.guard = none) (s x : Operand) (t : TypeId)
    (ho : o.op = .call { callee := .builtin .append, args := #[s, x], argTypes := #[t, t] })
    (e : TypeId) (i : TypeInfo) (z : Value) (sz bytes : Nat) (ht : P.underlying t = some (.slice e)) (hi : P.info? e = some i) (hz : i.zero = some z)
    (hsize : i.size = sz) (hby : i.bytes = bytes) (hzs : z.cells.size = sz) (hsz : 0 < sz)
    (v : Value) (B n : Nat) (xs : List Value) (hs : a.eval s = v) (hown : RowAt e sz B w v n xs) (hB : B ≤ w.heap.size)
    (m : Nat) (cs : List Value) (src : Value) (hx : a.eval x = src) (hsee : Sees w sz src m cs)
    (h63 : n + m ≤ maxLen) (hbytes : (n + m) * bytes ≤ 140737488355328)
    (h : ∀ v' w', RowAt e sz B w' v' (n + m) (xs ++ cs) → Below B w w' → wpList P ops Q rest (a.put o.dst v') w') : wpList P ops Q (o :: rest) a w := by
  refine wpl_append_sees w hgd s x t ho e i z sz bytes ht hi hz hsize hby hzs hsz v n xs hs hown.1 src m cs hx hsee h63 hbytes ?_
  intro v' w' h1 h2 h3
  refine h v' w' ⟨h1, fun k hk => ?_, fun u hu => ?_⟩ (grown_below h2 hown.2.1 hB)
  · rcases h3 k hk with h4 | h4
    · exact hown.2.1 k h4
    · omega
  · rcases List.mem_append.1 hu with hu | hu
    · exact hown.2.2 u hu
    · exact hsee.2.1 u hu
/-- A slice that was just built. -/
theorem sees_new (w : World) (sz : Nat) (cs : Array Value) (T : TypeId) (m : Nat) (hm : cs.size = m * sz) (h1 : ∀ u ∈ cs.toList, u.oneCell' = true) : Sees (w.alloc (.cells cs T)) sz (.slice (some ⟨w.heap.size, 0, none⟩) m m) m cs.toList := by
  refine ⟨by simpa using hm, h1, .inr ⟨w.heap.size, 0, m, rfl, by simp, fun j u hj => ?_⟩⟩
  rw [Nat.zero_add]
  have := heap_alloc_new w (.cells cs T)
  simp only [World.cell?, this]
  simpa using hj
/-- Rows of numbers. -/
def ints (l : List Int) : List Value := l.map (Value.int .i64)
theorem ints_length (l : List Int) : (ints l).length = l.length := by simp [ints]
theorem ints_append (l m : List Int) : ints (l ++ m) = ints l ++ ints m := by simp [ints]
theorem ints_get {l : List Int} {i : Nat} (h : i < l.length) : (ints l)[i]? = some (.int .i64 l[i]) := by simp [ints, h]
/-- A cell of an owned row is written. -/
theorem RowAt.setCell {e : TypeId} {sz B n g cap : Nat} {w : World} {xs : List Value} (h : RowAt e sz B w (.slice (some ⟨g, 0, none⟩) n cap) n xs) {j : Nat} (hj : j < n * sz) {u : Value} (hu : u.oneCell' = true) :
    RowAt e sz B (w.setCell ⟨g, j, none⟩ u) (.slice (some ⟨g, 0, none⟩) n cap) n (xs.set j u) := by
  obtain ⟨⟨h1, h2⟩, h3, h4⟩ := h
  refine ⟨⟨by rw [List.length_set]; exact h1, ?_⟩, h3, fun v hv => ?_⟩
  · rcases h2 with ⟨h5, _⟩ | ⟨g', cap', cur, h5, hb, hg, hnc, hcm, hcs, ht⟩
    · simp at h5
    · simp only [Value.slice.injEq, Option.some.injEq, Addr.mk.injEq, true_and, and_true] at h5
      obtain ⟨rfl, rfl⟩ := h5
      refine .inr ⟨g, cap, cur.setIfInBounds j u, rfl, hb, heap_setCell_same w g j _ _ u hg, hnc, hcm, by simpa using hcs, ?_⟩
      rw [← ht, Array.toList_setIfInBounds, List.take_set]
  · rcases List.mem_or_eq_of_mem_set hv with h6 | h6
    · exact h4 v h6
    · rw [h6]; exact hu
theorem RowAt.block {e : TypeId} {sz B n g cap : Nat} {w : World} {xs : List Value} (h : RowAt e sz B w (.slice (some ⟨g, 0, none⟩) n cap) n xs) : B ≤ g ∧ g < w.heap.size ∧ (∀ j u, xs[j]? = some u → w.cell? ⟨g, j, none⟩ = some u) ∧ ∀ j, w.frozen? ⟨g, j, none⟩ = false := by
  have hb := h.2.1 g rfl
  obtain ⟨⟨h1, h2⟩, h3, h4⟩ := h
  rcases h2 with ⟨h5, _⟩ | ⟨g', cap', cur, h5, _, hg, hnc, hcm, hcs, ht⟩
  · simp at h5
  · simp only [Value.slice.injEq, Option.some.injEq, Addr.mk.injEq, true_and, and_true] at h5
    obtain ⟨rfl, rfl⟩ := h5
    refine ⟨hb, (Array.getElem?_eq_some_iff.1 hg).1, fun j u hj => ?_, fun j => frozen_of_row w g j _ _ hg⟩
    have hl : j < xs.length := (List.getElem?_eq_some_iff.1 hj).1
    exact (World.ownsRow.cellAt (base := 0) ⟨h1, .inr ⟨g, cap, cur, rfl, Nat.zero_le _, hg, hnc, hcm, hcs, ht⟩⟩ j (by omega)).trans hj
end Go.Proofs.Ytmjjbapahgejmaa.RowG
namespace Go.Proofs.Ytmjjbapahgejmaa.RegVal
open Go

/-- Where an operation leaves its value. -/
def dstOf (ops : Array Oper) (i : Nat) : Option Tmp := (ops[i]?).bind (·.dst)
/-- How many have not come up. -/
def left (ops : Array Oper) (listed : Array Bool) : Nat := ((List.range ops.size).filter fun i => !listed.getD i true).length

section
variable {P : Program} {ops : Array Oper} {Q : Exit → Act → World → Prop} {md : Region.Mode}

theorem filter_less {p q : Nat → Bool} (i : Nat) (hp : p i = true) (hq : q i = false) (hn : ∀ j, j ≠ i → q j = p j) : ∀ (l : List Nat), l.Nodup → i ∈ l → (l.filter q).length + 1 = (l.filter p).length := by
  intro l
  induction l with
  | nil => intro _ h; simp at h
  | cons a r ih =>
    intro hd hi
    obtain ⟨h1, h2⟩ := List.nodup_cons.1 hd
    by_cases e : a = i
    · subst e
      have : r.filter q = r.filter p := List.filter_congr (fun j hj => hn j (by rintro rfl; exact h1 hj))
      simp [hp, hq, this]
    · have hi' : i ∈ r := by
        rcases List.mem_cons.1 hi with h | h
        · exact absurd h.symm e
        · exact h
      have := ih h2 hi'
      by_cases hpa : p a
      · simp [hpa, hn a e]; omega
      · simp [hpa, hn a e]; omega

theorem left_set (listed : Array Bool) (hs : listed.size = ops.size) (i : Nat) (hi : i ∈ Region.ready md ops listed) : left ops (listed.setIfInBounds i true) + 1 = left ops listed := by
  obtain ⟨h0, o, ho, _⟩ := mem_ready.1 hi
  have hlt : i < ops.size := (Array.getElem?_eq_some_iff.1 ho).1
  unfold left
  refine filter_less i (by simp [h0]) ?_ ?_ _ List.nodup_range (List.mem_range.2 hlt)
  · have : i < listed.size := by omega
    simp [this]
  · intro j hj
    rw [getD_set_ne true (Ne.symm hj)]

theorem all_of_none (hd2 : ∀ i o, ops[i]? = some o → ∀ e ∈ o.after, Region.binds md e = true → e.on < i) (listed : Array Bool) (hs : listed.size = ops.size) (h : Region.ready md ops listed = []) :
    ∀ i, i < ops.size → listed.getD i false = true := by
  intro i
  induction i using Nat.strongRecOn with
  | ind i ih =>
    intro hi
    apply Classical.byContradiction
    intro hn
    have hi' : i < listed.size := by omega
    have h0 : listed.getD i true = false := by
      simp [hi'] at hn ⊢; exact hn
    obtain ⟨o, ho⟩ : ∃ o, ops[i]? = some o := ⟨ops[i], by simp [hi]⟩
    have : i ∈ Region.ready md ops listed := mem_ready.2 ⟨h0, o, ho, fun e he hb => by
      have hlt := hd2 i o ho e he hb
      exact ih e.on hlt (by omega)⟩
    rw [h] at this
    cases this

theorem none_of_left (listed : Array Bool) (h : left ops listed = 0) : Region.ready md ops listed = [] := by
  apply List.eq_nil_iff_forall_not_mem.2
  intro i hi
  obtain ⟨h0, o, ho, _⟩ := mem_ready.1 hi
  have hlt : i < ops.size := (Array.getElem?_eq_some_iff.1 ho).1
  unfold left at h
  have := List.length_eq_zero_iff.1 h
  have hm : i ∈ (List.range ops.size).filter fun i => !listed.getD i true := List.mem_filter.2 ⟨List.mem_range.2 hlt, by simp [h0]⟩
  rw [this] at hm
  cases hm

/-- What is so on the way. -/
structure Inv (ops : Array Oper) (a1 : Act) (V : Nat → Value) (S : (Nat → Bool) → World → Prop) (listed : Array Bool) (a : Act) (w : World) : Prop where
  s : S (fun j => listed.getD j false) w
  defers : a.defers = a1.defers
  size : a.tmps.size = a1.tmps.size
  same : ∀ t, (∀ i, listed.getD i false = true → dstOf ops i ≠ some t) → a.tmps[t]? = a1.tmps[t]?
  done : ∀ i t, listed.getD i false = true → dstOf ops i = some t → a.tmps[t]? = some (V i)

/-- EACH OPERATION ONCE: if each, where what it waits for has left its value, leaves its own, then so does any order. -/
theorem wpAny_inv (a1 : Act) (V : Nat → Value) (S : (Nat → Bool) → World → Prop)
    (hd1 : ∀ i j t, dstOf ops i = some t → dstOf ops j = some t → i = j)
    (hd2 : ∀ i o, ops[i]? = some o → ∀ e ∈ o.after, Region.binds md e = true → e.on < i)
    (hd3 : ∀ i t, dstOf ops i = some t → t < a1.tmps.size)
    (hstep : ∀ i o, ops[i]? = some o → ∀ (ℓ : Nat → Bool) a w, ℓ i = false → S ℓ w → (∀ e ∈ o.after, Region.binds md e = true → ℓ e.on = true) → (∀ t, (∀ j, dstOf ops j ≠ some t) → a.tmps[t]? = a1.tmps[t]?) →
      (∀ e ∈ o.after, Region.binds md e = true → ∀ t, dstOf ops e.on = some t → a.tmps[t]? = some (V e.on)) →
      Region.wanted o (yielded ops a.tmps) = true ∧ o.wp P a w (fun a' w' => a' = a.put o.dst (V i) ∧ S (fun j => if j = i then true else ℓ j) w') Q)
    (hend : ∀ ℓ a w, (∀ i, i < ops.size → ℓ i = true) → S ℓ w → a.defers = a1.defers → a.tmps.size = a1.tmps.size → (∀ t, (∀ i, dstOf ops i ≠ some t) → a.tmps[t]? = a1.tmps[t]?) →
      (∀ i t, dstOf ops i = some t → a.tmps[t]? = some (V i)) → Q .normal a w) :
    ∀ (fuel : Nat) (listed : Array Bool) (a : Act) (w : World), listed.size = ops.size → left ops listed ≤ fuel → Inv ops a1 V S listed a w → wpAny P md ops Q fuel listed a w := by
  have hfin : ∀ (listed : Array Bool) (a : Act) (w : World), listed.size = ops.size → Inv ops a1 V S listed a w → Region.ready md ops listed = [] → Q .normal a w := by
    intro listed a w hs I hr
    have hall := all_of_none hd2 listed hs hr
    have hlt : ∀ i t, dstOf ops i = some t → i < ops.size := by
      intro i t h
      apply Classical.byContradiction
      intro hn
      unfold dstOf at h
      rw [Array.getElem?_eq_none (Nat.le_of_not_lt hn)] at h
      cases h
    exact hend _ a w hall I.s I.defers I.size (fun t ht => I.same t fun i _ => ht i) (fun i t h => I.done i t (hall i (hlt i t h)) h)
  intro fuel
  induction fuel with
  | zero =>
    intro listed a w hs hl I
    have hr := none_of_left (ops := ops) (md := md) listed (by omega)
    exact ⟨hr, hfin listed a w hs I hr⟩
  | succ fuel ih =>
    intro listed a w hs hl I
    refine ⟨hfin listed a w hs I, fun i hi => ?_⟩
    have hcount := left_set listed hs i hi
    obtain ⟨h0, o, ho, hdeps⟩ := mem_ready.1 hi
    have hlt : i < ops.size := (Array.getElem?_eq_some_iff.1 ho).1
    have hni : listed.getD i false = false := by
      have : i < listed.size := by omega
      simp [this] at h0 ⊢; exact h0
    obtain ⟨hw, hwp⟩ := hstep i o ho (fun j => listed.getD j false) a w hni I.s hdeps (fun t ht => I.same t fun j _ => ht j) (fun e he hb t ht => I.done e.on t (hdeps e he hb) ht)
    unfold wpOp
    simp only [ho, hw, if_true]
    refine .inl (Oper.wp_mono ?_ hwp)
    rintro a' w' ⟨rfl, hS⟩
    refine ih _ _ _ (by simpa using hs) (by omega) ?_
    have hnew : ∀ j, (listed.setIfInBounds i true).getD j false = true → j = i ∨ listed.getD j false = true := by
      intro j hj
      by_cases e : i = j
      · exact .inl e.symm
      · rw [getD_set_ne false e] at hj; exact .inr hj
    have hold : ∀ j, listed.getD j false = true → (listed.setIfInBounds i true).getD j false = true := fun j hj => getD_set_true hj
    have hme : (listed.setIfInBounds i true).getD i false = true := by
      have : i < listed.size := by omega
      simp [this]
    have hS' : S (fun j => (listed.setIfInBounds i true).getD j false) w' := by
      have : (fun j => (listed.setIfInBounds i true).getD j false) = fun j => if j = i then true else listed.getD j false := by
        funext j
        by_cases e : j = i
        · subst e; rw [if_pos rfl]; exact hme
        · rw [if_neg e, getD_set_ne false (Ne.symm e)]
      rw [this]; exact hS
    have hdst : dstOf ops i = o.dst := by unfold dstOf; rw [ho]; rfl
    cases hd : o.dst with
    | none =>
      show Inv ops a1 V S _ a w'
      exact ⟨hS', I.defers, I.size, fun t ht => I.same t fun j hj => ht j (hold j hj), fun j t hj ht => by
        rcases hnew j hj with rfl | hj
        · rw [hdst, hd] at ht; cases ht
        · exact I.done j t hj ht⟩
    | some t0 =>
      have ht0 : t0 < a.tmps.size := by rw [I.size]; exact hd3 i t0 (by rw [hdst, hd])
      show Inv ops a1 V S _ { a with tmps := a.tmps.setIfInBounds t0 (V i) } w'
      refine ⟨hS', I.defers, by simpa using I.size, fun t ht => ?_, fun j t hj ht => ?_⟩
      · have hne : t0 ≠ t := by
          rintro rfl
          exact ht i hme (by rw [hdst, hd])
        show (a.tmps.setIfInBounds t0 (V i))[t]? = _
        rw [Array.getElem?_setIfInBounds_ne hne]
        exact I.same t fun j hj => ht j (hold j hj)
      · rcases hnew j hj with rfl | hj
        · rw [hdst, hd] at ht
          cases ht
          show (a.tmps.setIfInBounds t0 (V j))[t0]? = _
          simp [ht0]
        · have hu := I.done j t hj ht
          have hne : t0 ≠ t := by
            rintro rfl
            have := hd1 i j t0 (by rw [hdst, hd]) ht
            subst this
            rw [hni] at hj
            cases hj
          show (a.tmps.setIfInBounds t0 (V i))[t]? = _
          rw [Array.getElem?_setIfInBounds_ne hne]
          exact hu

/-! ### The side conditions, to be computed; the operations, one by one. -/

def okDst (ops : Array Oper) : Bool := (List.range ops.size).all fun i => (List.range ops.size).all fun j => i == j || dstOf ops i == none || dstOf ops i != dstOf ops j
def okDep (md : Region.Mode) (ops : Array Oper) : Bool := (List.range ops.size).all fun i => ((ops[i]?).map fun o => o.after.toList.all fun e => !Region.binds md e || decide (e.on < i)).getD true
def okSize (n : Nat) (ops : Array Oper) : Bool := (List.range ops.size).all fun i => ((dstOf ops i).map fun t => decide (t < n)).getD true
def notDst (ops : Array Oper) (t : Tmp) : Bool := (List.range ops.size).all fun i => dstOf ops i != some t

theorem dst_lt {i t : Nat} (h : dstOf ops i = some t) : i < ops.size := by
  apply Classical.byContradiction
  intro hn
  unfold dstOf at h
  rw [Array.getElem?_eq_none (Nat.le_of_not_lt hn)] at h
  cases h
theorem okDst_spec (h : okDst ops = true) : ∀ i j t, dstOf ops i = some t → dstOf ops j = some t → i = j := by
  intro i j t hi hj
  unfold okDst at h
  rw [List.all_eq_true] at h
  have h1 := h i (List.mem_range.2 (dst_lt hi))
  rw [List.all_eq_true] at h1
  have h2 := h1 j (List.mem_range.2 (dst_lt hj))
  rw [hi, hj] at h2
  simpa using h2
theorem okDep_spec (h : okDep md ops = true) : ∀ i o, ops[i]? = some o → ∀ e ∈ o.after, Region.binds md e = true → e.on < i := by
  intro i o ho e he hb
  unfold okDep at h
  rw [List.all_eq_true] at h
  have h1 := h i (List.mem_range.2 (Array.getElem?_eq_some_iff.1 ho).1)
  rw [ho] at h1
  simp only [Option.map_some, Option.getD_some] at h1
  rw [List.all_eq_true] at h1
  have h2 := h1 e (Array.mem_toList_iff.2 he)
  rw [hb] at h2
  simpa using h2
theorem okSize_spec {n : Nat} (h : okSize n ops = true) : ∀ i t, dstOf ops i = some t → t < n := by
  intro i t hi
  unfold okSize at h
  rw [List.all_eq_true] at h
  have h1 := h i (List.mem_range.2 (dst_lt hi))
  rw [hi] at h1
  simpa using h1
theorem notDst_spec {t : Tmp} (h : notDst ops t = true) : ∀ j, dstOf ops j ≠ some t := by
  intro j hj
  unfold notDst at h
  rw [List.all_eq_true] at h
  have h1 := h j (List.mem_range.2 (dst_lt hj))
  rw [hj] at h1
  simp at h1

theorem wanted_none {o : Oper} {f : Nat → Option Bool} (h : o.guard = none) : Region.wanted o f = true := by
  unfold Region.wanted; rw [h]
theorem wanted_guard {o : Oper} {a : Act} {j : Nat} {b : Bool} {t : Tmp} (h : o.guard = some (j, b)) (hd : dstOf ops j = some t) (ht : a.tmps[t]? = some (.bool b)) : Region.wanted o (yielded ops a.tmps) = true := by
  have hy : yielded ops a.tmps j = some b := by
    unfold yielded
    have : (ops[j]?).bind (·.dst) = some t := hd
    rw [this]
    show (match a.tmps[t]? with | some (.bool b) => some b | _ => none) = _
    rw [ht]
  unfold Region.wanted
  rw [h]
  simp [hy]

/-- What an operation waits for has left its value. -/
def depFacts (ops : Array Oper) (V : Nat → Value) (a : Act) : List Edge → Prop
  | [] => True
  | e :: r => (match Region.binds .any e, dstOf ops e.on with | true, some t => a.tmps[t]? = some (V e.on) | _, _ => True) ∧ depFacts ops V a r
/-- What it reads that the region does not write. -/
def readFacts (a a1 : Act) : List Nat → Prop
  | [] => True
  | t :: r => a.tmps[t]? = a1.tmps[t]? ∧ readFacts a a1 r
/-- What is asked of one operation. -/
def StepV (P : Program) (ops : Array Oper) (Q : Exit → Act → World → Prop) (a1 : Act) (V : Nat → Value) (S : (Nat → Bool) → World → Prop) (reads : List Nat) (i : Nat) (o : Oper) : Prop :=
  ∀ (ℓ : Nat → Bool) a w, ℓ i = false → S ℓ w → (∀ e ∈ o.after, Region.binds .any e = true → ℓ e.on = true) → readFacts a a1 reads → depFacts ops V a o.after.toList →
    Region.wanted o (yielded ops a.tmps) = true ∧ ∀ K : Act → World → Prop, (∀ w', S (fun j => if j = i then true else ℓ j) w' → K (a.put o.dst (V i)) w') → o.wp P a w K Q
def StepsV (P : Program) (ops : Array Oper) (Q : Exit → Act → World → Prop) (a1 : Act) (V : Nat → Value) (S : (Nat → Bool) → World → Prop) (reads : List Nat) : Nat → List Oper → Prop
  | _, [] => True
  | i, o :: r => StepV P ops Q a1 V S reads i o ∧ StepsV P ops Q a1 V S reads (i + 1) r
theorem StepsV.get {a1 : Act} {V : Nat → Value} {S : (Nat → Bool) → World → Prop} {reads : List Nat} : ∀ (l : List Oper) (k i : Nat) (o : Oper), StepsV P ops Q a1 V S reads k l → l[i]? = some o → StepV P ops Q a1 V S reads (k + i) o
  | [], _, _, _, _, h => by simp at h
  | x :: r, k, 0, o, ⟨h1, _⟩, h => by
    simp at h; subst h; exact h1
  | x :: r, k, i + 1, o, ⟨_, h2⟩, h => by
    have := StepsV.get r (k + 1) i o h2 (by simpa using h)
    rw [show k + (i + 1) = k + 1 + i by omega]
    exact this
theorem depFacts_of {V : Nat → Value} {a : Act} : ∀ (l : List Edge), (∀ e ∈ l, Region.binds .any e = true → ∀ t, dstOf ops e.on = some t → a.tmps[t]? = some (V e.on)) → depFacts ops V a l
  | [], _ => trivial
  | e :: r, h => by
    refine ⟨?_, depFacts_of r fun f hf => h f (List.mem_cons_of_mem _ hf)⟩
    split
    · rename_i t h1 h2
      exact h e (by simp) h1 t h2
    · trivial
theorem readFacts_of {a a1 : Act} : ∀ (l : List Nat), (∀ t ∈ l, a.tmps[t]? = a1.tmps[t]?) → readFacts a a1 l
  | [], _ => trivial
  | t :: r, h => ⟨h t (by simp), readFacts_of r fun u hu => h u (List.mem_cons_of_mem _ hu)⟩

theorem region_vals {id n : Nat} {a1 : Act} {w : World} (hm : P.follows .mixedOrders = true) (V : Nat → Value) (S : (Nat → Bool) → World → Prop) (reads : List Nat)
    (h1 : okDst ops = true) (h2 : okDep .any ops = true) (hn : a1.tmps.size = n) (h3 : okSize n ops = true) (h4 : reads.all (notDst ops) = true) (hS : S (fun _ => false) w.drew) (hsteps : StepsV P ops Q a1 V S reads 0 ops.toList)
    (hend : ∀ ℓ a w, (∀ i, i < ops.size → ℓ i = true) → S ℓ w → a.defers = a1.defers → a.tmps.size = n → (∀ t, notDst ops t = true → a.tmps[t]? = a1.tmps[t]?) →
      (∀ i t, dstOf ops i = some t → a.tmps[t]? = some (V i)) → Q .normal a w) :
    (Code.region id ops true).wp P Q a1 w := by
  subst hn
  refine wp_region_any hm (wpAny_inv a1 V S (okDst_spec h1) (okDep_spec h2) (okSize_spec h3) ?_ ?_ _ _ _ _ (by simp) ?_ ?_)
  · intro i o ho ℓ a w hl hw hwait hsame hdeps
    have hg := StepsV.get ops.toList 0 i o hsteps (by rw [Array.getElem?_toList]; exact ho)
    rw [Nat.zero_add] at hg
    obtain ⟨x, y⟩ := hg ℓ a w hl hw hwait (readFacts_of _ fun t ht => hsame t (notDst_spec (List.all_eq_true.1 h4 t ht))) (depFacts_of _ fun e he hb t ht => hdeps e (Array.mem_toList_iff.1 he) hb t ht)
    exact ⟨x, y _ fun w' q => ⟨rfl, q⟩⟩
  · intro ℓ a w hl hw hd hz hsame hdone
    exact hend ℓ a w hl hw hd hz (fun t ht => hsame t (notDst_spec ht)) hdone
  · unfold left
    refine Nat.le_trans (List.length_filter_le _ _) ?_
    simp
  · have hf : ∀ i, (Array.replicate ops.size false).getD i false ≠ true := by
      intro i
      by_cases h : i < ops.size <;> simp [h]
    have e0 : (fun j => (Array.replicate ops.size false).getD j false) = fun _ => false := by
      funext j; simpa using hf j
    exact ⟨by rw [e0]; exact hS, rfl, rfl, fun _ _ => rfl, fun i t h => absurd h (hf i)⟩
/-- The slots behind a region: which operation wrote each. -/
def zipF (V : Nat → Value) : List (Option Nat) → List Value → List Value
  | some i :: r, _ :: l => V i :: zipF V r l
  | none :: r, v :: l => v :: zipF V r l
  | _, _ => []
def okWs (ops : Array Oper) (ws : List (Option Nat)) : Bool := (List.range ws.length).all fun t => match ws[t]? with | some (some i) => dstOf ops i == some t | some none => notDst ops t | none => false
theorem zipF_get (V : Nat → Value) : ∀ (ws : List (Option Nat)) (l : List Value) (t : Nat), ws.length = l.length → (zipF V ws l)[t]? = match ws[t]? with | some (some i) => some (V i) | some none => l[t]? | none => none
  | [], l, t, h => by
    have : l = [] := List.length_eq_zero_iff.1 h.symm
    subst this
    simp [zipF]
  | o :: r, [], t, h => by simp at h
  | some i :: r, v :: l, 0, h => by simp [zipF]
  | none :: r, v :: l, 0, h => by simp [zipF]
  | some i :: r, v :: l, t + 1, h => by
    have := zipF_get V r l t (by simpa using h)
    simp only [zipF, List.getElem?_cons_succ]
    exact this
  | none :: r, v :: l, t + 1, h => by
    have := zipF_get V r l t (by simpa using h)
    simp only [zipF, List.getElem?_cons_succ]
    exact this
theorem zipF_length (V : Nat → Value) : ∀ (ws : List (Option Nat)) (l : List Value), ws.length = l.length → (zipF V ws l).length = l.length
  | [], l, h => by
    have : l = [] := List.length_eq_zero_iff.1 h.symm
    subst this
    rfl
  | o :: r, [], h => by simp at h
  | some i :: r, v :: l, h => by simp [zipF, zipF_length V r l (by simpa using h)]
  | none :: r, v :: l, h => by simp [zipF, zipF_length V r l (by simpa using h)]
/-- ALL AT ONCE: a region in open order whose operations leave known values; behind it the slots stand written out. -/
theorem region_alls {id : Nat} {ts : Array Value} {w : World} (hm : P.follows .mixedOrders = true) (V : Nat → Value) (S : (Nat → Bool) → World → Prop) (reads : List Nat) (ws : List (Option Nat))
    (h1 : okDst ops = true) (h2 : okDep .any ops = true) (hn : ws.length = ts.size) (h3 : okSize ws.length ops = true) (h4 : reads.all (notDst ops) = true) (h5 : okWs ops ws = true) (hS : S (fun _ => false) w.drew)
    (hsteps : StepsV P ops Q ⟨ts, []⟩ V S reads 0 ops.toList)
    (hend : ∀ ℓ w, (∀ i, i < ops.size → ℓ i = true) → S ℓ w → Q .normal ⟨(zipF V ws ts.toList).toArray, []⟩ w) :
    (Code.region id ops true).wp P Q ⟨ts, []⟩ w := by
  refine region_vals hm V S reads h1 h2 hn.symm h3 h4 hS hsteps ?_
  intro ℓ a w hl hw hd hz hsame hdone
  have he : a = ⟨(zipF V ws ts.toList).toArray, []⟩ := by
    obtain ⟨tm, df⟩ := a
    obtain rfl : df = [] := hd
    have hz' : tm.size = ws.length := hz
    have : tm = (zipF V ws ts.toList).toArray := by
      apply Array.ext_getElem?
      intro t
      rw [show ((zipF V ws ts.toList).toArray)[t]? = (zipF V ws ts.toList)[t]? by simp, zipF_get V ws ts.toList t (by rw [hn]; simp)]
      by_cases ht : t < ws.length
      · have h6 := List.all_eq_true.1 h5 t (List.mem_range.2 ht)
        rw [List.getElem?_eq_getElem ht] at h6 ⊢
        cases hv : ws[t] with
        | none =>
          rw [hv] at h6
          have := hsame t h6
          simp only at this ⊢
          rw [this]
          simp
        | some i =>
          rw [hv] at h6
          exact hdone i t (by simpa using h6)
      · rw [List.getElem?_eq_none (by omega), Array.getElem?_eq_none (by omega)]
    rw [this]
  rw [he]
  exact hend ℓ w hl hw
/-- The same, where one thing holds of all worlds on the way. -/
theorem region_all {id : Nat} {ts : Array Value} {w : World} (hm : P.follows .mixedOrders = true) (V : Nat → Value) (S : World → Prop) (reads : List Nat) (ws : List (Option Nat))
    (h1 : okDst ops = true) (h2 : okDep .any ops = true) (hn : ws.length = ts.size) (h3 : okSize ws.length ops = true) (h4 : reads.all (notDst ops) = true) (h5 : okWs ops ws = true) (hS : S w.drew)
    (hsteps : StepsV P ops Q ⟨ts, []⟩ V (fun _ => S) reads 0 ops.toList)
    (hend : ∀ w, S w → Q .normal ⟨(zipF V ws ts.toList).toArray, []⟩ w) :
    (Code.region id ops true).wp P Q ⟨ts, []⟩ w :=
  region_alls hm V (fun _ => S) reads ws h1 h2 hn h3 h4 h5 hS hsteps fun _ w _ h => hend w h
end
end Go.Proofs.Ytmjjbapahgejmaa.RegVal
namespace Go.Proofs.Ytmjjbapahgejmaa.RegVal
open Go

section
variable {P : Program} {ops : Array Oper} {Q : Exit → Act → World → Prop} {md : Region.Mode}

/-- What is so on the way. -/
structure InvP (md : Region.Mode) (ops : Array Oper) (a1 : Act) (U : Nat → Value → World → Prop) (S : (Nat → Bool) → World → Prop) (listed : Array Bool) (a : Act) (w : World) : Prop where
  s : S (fun j => listed.getD j false) w
  defers : a.defers = a1.defers
  size : a.tmps.size = a1.tmps.size
  same : ∀ t, (∀ i, listed.getD i false = true → dstOf ops i ≠ some t) → a.tmps[t]? = a1.tmps[t]?
  done : ∀ i t, listed.getD i false = true → dstOf ops i = some t → ∃ v, a.tmps[t]? = some v ∧ U i v w
  closed : ∀ j o, ops[j]? = some o → listed.getD j false = true → ∀ e ∈ o.after, Region.binds md e = true → listed.getD e.on false = true

/-- EACH OPERATION ONCE: if each, where what it waits for has left its value, leaves its own, then so does any order. -/
theorem wpAny_invP (a1 : Act) (U : Nat → Value → World → Prop) (S : (Nat → Bool) → World → Prop)
    (hd1 : ∀ i j t, dstOf ops i = some t → dstOf ops j = some t → i = j)
    (hd2 : ∀ i o, ops[i]? = some o → ∀ e ∈ o.after, Region.binds md e = true → e.on < i)
    (hd3 : ∀ i t, dstOf ops i = some t → t < a1.tmps.size)
    (hstep : ∀ i o, ops[i]? = some o → ∀ (ℓ : Nat → Bool) a w, ℓ i = false → S ℓ w → (∀ e ∈ o.after, Region.binds md e = true → ℓ e.on = true) → (∀ t j, dstOf ops j = some t → ℓ j = false → a.tmps[t]? = a1.tmps[t]?) → (∀ j o, ops[j]? = some o → ℓ j = true → ∀ e ∈ o.after, Region.binds md e = true → ℓ e.on = true) → (∀ t, (∀ j, dstOf ops j ≠ some t) → a.tmps[t]? = a1.tmps[t]?) →
      (∀ e ∈ o.after, Region.binds md e = true → ∀ t, dstOf ops e.on = some t → ∃ v, a.tmps[t]? = some v ∧ U e.on v w) →
      Region.wanted o (yielded ops a.tmps) = true ∧ o.wp P a w (fun a' w' => ∃ v, a' = a.put o.dst v ∧ U i v w' ∧ S (fun j => if j = i then true else ℓ j) w' ∧ ∀ j u, ℓ j = true → U j u w → U j u w') Q)
    (hend : ∀ ℓ a w, (∀ i, i < ops.size → ℓ i = true) → S ℓ w → a.defers = a1.defers → a.tmps.size = a1.tmps.size → (∀ t, (∀ i, dstOf ops i ≠ some t) → a.tmps[t]? = a1.tmps[t]?) →
      (∀ i t, dstOf ops i = some t → ∃ v, a.tmps[t]? = some v ∧ U i v w) → Q .normal a w) :
    ∀ (fuel : Nat) (listed : Array Bool) (a : Act) (w : World), listed.size = ops.size → left ops listed ≤ fuel → InvP md ops a1 U S listed a w → wpAny P md ops Q fuel listed a w := by
  have hfin : ∀ (listed : Array Bool) (a : Act) (w : World), listed.size = ops.size → InvP md ops a1 U S listed a w → Region.ready md ops listed = [] → Q .normal a w := by
    intro listed a w hs I hr
    have hall := all_of_none hd2 listed hs hr
    have hlt : ∀ i t, dstOf ops i = some t → i < ops.size := by
      intro i t h
      apply Classical.byContradiction
      intro hn
      unfold dstOf at h
      rw [Array.getElem?_eq_none (Nat.le_of_not_lt hn)] at h
      cases h
    exact hend _ a w hall I.s I.defers I.size (fun t ht => I.same t fun i _ => ht i) (fun i t h => I.done i t (hall i (hlt i t h)) h)
  intro fuel
  induction fuel with
  | zero =>
    intro listed a w hs hl I
    have hr := none_of_left (ops := ops) (md := md) listed (by omega)
    exact ⟨hr, hfin listed a w hs I hr⟩
  | succ fuel ih =>
    intro listed a w hs hl I
    refine ⟨hfin listed a w hs I, fun i hi => ?_⟩
    have hcount := left_set listed hs i hi
    obtain ⟨h0, o, ho, hdeps⟩ := mem_ready.1 hi
    have hlt : i < ops.size := (Array.getElem?_eq_some_iff.1 ho).1
    have hni : listed.getD i false = false := by
      have : i < listed.size := by omega
      simp [this] at h0 ⊢; exact h0
    obtain ⟨hw, hwp⟩ := hstep i o ho (fun j => listed.getD j false) a w hni I.s hdeps (fun t j hj hl => I.same t fun i hi he => by rw [hd1 i j t he hj, hl] at hi; cases hi) I.closed (fun t ht => I.same t fun j _ => ht j) (fun e he hb t ht => I.done e.on t (hdeps e he hb) ht)
    unfold wpOp
    simp only [ho, hw, if_true]
    refine .inl (Oper.wp_mono ?_ hwp)
    rintro a' w' ⟨v, rfl, hv, hS, hk⟩
    refine ih _ _ _ (by simpa using hs) (by omega) ?_
    have hnew : ∀ j, (listed.setIfInBounds i true).getD j false = true → j = i ∨ listed.getD j false = true := by
      intro j hj
      by_cases e : i = j
      · exact .inl e.symm
      · rw [getD_set_ne false e] at hj; exact .inr hj
    have hold : ∀ j, listed.getD j false = true → (listed.setIfInBounds i true).getD j false = true := fun j hj => getD_set_true hj
    have hme : (listed.setIfInBounds i true).getD i false = true := by
      have : i < listed.size := by omega
      simp [this]
    have hS' : S (fun j => (listed.setIfInBounds i true).getD j false) w' := by
      have : (fun j => (listed.setIfInBounds i true).getD j false) = fun j => if j = i then true else listed.getD j false := by
        funext j
        by_cases e : j = i
        · subst e; rw [if_pos rfl]; exact hme
        · rw [if_neg e, getD_set_ne false (Ne.symm e)]
      rw [this]; exact hS
    have hcl' : ∀ j o', ops[j]? = some o' → (listed.setIfInBounds i true).getD j false = true → ∀ e ∈ o'.after, Region.binds md e = true → (listed.setIfInBounds i true).getD e.on false = true := by
      intro j o' ho' hj e he hb
      rcases hnew j hj with rfl | hj
      · rw [ho] at ho'
        obtain rfl := Option.some.inj ho'
        exact hold _ (hdeps e he hb)
      · exact hold _ (I.closed j o' ho' hj e he hb)
    have hdst : dstOf ops i = o.dst := by unfold dstOf; rw [ho]; rfl
    cases hd : o.dst with
    | none =>
      show InvP md ops a1 U S _ a w'
      exact ⟨hS', I.defers, I.size, fun t ht => I.same t fun j hj => ht j (hold j hj), fun j t hj ht => by
        rcases hnew j hj with rfl | hj
        · rw [hdst, hd] at ht; cases ht
        · obtain ⟨u, hu, hU⟩ := I.done j t hj ht
          exact ⟨u, hu, hk j u hj hU⟩, hcl'⟩
    | some t0 =>
      have ht0 : t0 < a.tmps.size := by rw [I.size]; exact hd3 i t0 (by rw [hdst, hd])
      show InvP md ops a1 U S _ { a with tmps := a.tmps.setIfInBounds t0 v } w'
      refine ⟨hS', I.defers, by simpa using I.size, fun t ht => ?_, fun j t hj ht => ?_, hcl'⟩
      · have hne : t0 ≠ t := by
          rintro rfl
          exact ht i hme (by rw [hdst, hd])
        show (a.tmps.setIfInBounds t0 v)[t]? = _
        rw [Array.getElem?_setIfInBounds_ne hne]
        exact I.same t fun j hj => ht j (hold j hj)
      · rcases hnew j hj with rfl | hj
        · rw [hdst, hd] at ht
          cases ht
          exact ⟨v, by show (a.tmps.setIfInBounds t0 v)[t0]? = _; simp [ht0], hv⟩
        · obtain ⟨u, hu, hU⟩ := I.done j t hj ht
          have hne : t0 ≠ t := by
            rintro rfl
            have := hd1 i j t0 (by rw [hdst, hd]) ht
            subst this
            rw [hni] at hj
            cases hj
          refine ⟨u, ?_, hk j u hj hU⟩
          show (a.tmps.setIfInBounds t0 v)[t]? = _
          rw [Array.getElem?_setIfInBounds_ne hne]
          exact hu

/-- What an operation leaves: a value that is known, or one of which R is known. -/
def UV (V : Nat → Option Value) (R : Nat → Value → World → Prop) (i : Nat) (v : Value) (w : World) : Prop := match V i with | some c => v = c | none => R i v w
def depFactsP (ops : Array Oper) (V : Nat → Option Value) (R : Nat → Value → World → Prop) (a : Act) (w : World) : List Edge → Prop
  | [] => True
  | e :: r => (match Region.binds .any e, dstOf ops e.on, V e.on with | true, some t, some c => a.tmps[t]? = some c | true, some t, none => ∃ v, a.tmps[t]? = some v ∧ R e.on v w | _, _, _ => True) ∧ depFactsP ops V R a w r
theorem depFactsP_of {V : Nat → Option Value} {R : Nat → Value → World → Prop} {a : Act} {w : World} : ∀ (l : List Edge), (∀ e ∈ l, Region.binds .any e = true → ∀ t, dstOf ops e.on = some t → ∃ v, a.tmps[t]? = some v ∧ UV V R e.on v w) → depFactsP ops V R a w l
  | [], _ => trivial
  | e :: r, h => by
    refine ⟨?_, depFactsP_of r fun f hf => h f (List.mem_cons_of_mem _ hf)⟩
    split
    · rename_i t c h1 h2 h3
      obtain ⟨v, hv, hU⟩ := h e (by simp) h1 t h2
      unfold UV at hU
      rw [h3] at hU
      rw [hv, show v = c from hU]
    · rename_i t h1 h2 h3
      obtain ⟨v, hv, hU⟩ := h e (by simp) h1 t h2
      unfold UV at hU
      rw [h3] at hU
      exact ⟨v, hv, hU⟩
    · trivial
/-- Does m wait for j? -/
def waitsB (ops : Array Oper) (m j : Nat) : Bool := ((ops[m]?).map fun o => o.after.toList.any fun e => Region.binds .any e && e.on == j).getD false
/-- What is asked of one operation. -/
def StepP (P : Program) (ops : Array Oper) (Q : Exit → Act → World → Prop) (a1 : Act) (V : Nat → Option Value) (R : Nat → Value → World → Prop) (S : (Nat → Bool) → World → Prop) (reads : List Nat) (i : Nat) (o : Oper) : Prop :=
  ∀ (ℓ : Nat → Bool) a w, ℓ i = false → S ℓ w → (∀ e ∈ o.after, Region.binds .any e = true → ℓ e.on = true) → (∀ t j, dstOf ops j = some t → waitsB ops j i = true → a.tmps[t]? = a1.tmps[t]?) → readFacts a a1 reads → depFactsP ops V R a w o.after.toList →
    Region.wanted o (yielded ops a.tmps) = true ∧ ∀ K : Act → World → Prop, (∀ v w', UV V R i v w' → S (fun j => if j = i then true else ℓ j) w' → (∀ j u, V j = none → ℓ j = true → R j u w → R j u w') → K (a.put o.dst v) w') → o.wp P a w K Q
def StepsP (P : Program) (ops : Array Oper) (Q : Exit → Act → World → Prop) (a1 : Act) (V : Nat → Option Value) (R : Nat → Value → World → Prop) (S : (Nat → Bool) → World → Prop) (reads : List Nat) : Nat → List Oper → Prop
  | _, [] => True
  | i, o :: r => StepP P ops Q a1 V R S reads i o ∧ StepsP P ops Q a1 V R S reads (i + 1) r
theorem StepsP.get {a1 : Act} {V : Nat → Option Value} {R : Nat → Value → World → Prop} {S : (Nat → Bool) → World → Prop} {reads : List Nat} : ∀ (l : List Oper) (k i : Nat) (o : Oper), StepsP P ops Q a1 V R S reads k l → l[i]? = some o → StepP P ops Q a1 V R S reads (k + i) o
  | [], _, _, _, _, h => by simp at h
  | x :: r, k, 0, o, ⟨h1, _⟩, h => by
    simp at h; subst h; exact h1
  | x :: r, k, i + 1, o, ⟨_, h2⟩, h => by
    have := StepsP.get r (k + 1) i o h2 (by simpa using h)
    rw [show k + (i + 1) = k + 1 + i by omega]
    exact this
/-- ALL AT ONCE: behind the region the slots stand written out; of what was not known ahead R is told. -/
theorem region_preds {id : Nat} {ts : Array Value} {w : World} (hm : P.follows .mixedOrders = true) (V : Nat → Option Value) (R : Nat → Value → World → Prop) (S : (Nat → Bool) → World → Prop) (reads : List Nat) (ws : List (Option Nat))
    (h1 : okDst ops = true) (h2 : okDep .any ops = true) (hn : ws.length = ts.size) (h3 : okSize ws.length ops = true) (h4 : reads.all (notDst ops) = true) (h5 : okWs ops ws = true) (hS : S (fun _ => false) w.drew)
    (hsteps : StepsP P ops Q ⟨ts, []⟩ V R S reads 0 ops.toList)
    (hend : ∀ (vs : Nat → Value) ℓ w, (∀ i, i < ops.size → ℓ i = true) → S ℓ w → (∀ i t, dstOf ops i = some t → V i = none → R i (vs i) w) → Q .normal ⟨(zipF (fun i => (V i).getD (vs i)) ws ts.toList).toArray, []⟩ w) :
    (Code.region id ops true).wp P Q ⟨ts, []⟩ w := by
  refine wp_region_any hm (wpAny_invP ⟨ts, []⟩ (UV V R) S (okDst_spec h1) (okDep_spec h2) (by rw [show (Act.tmps ⟨ts, []⟩).size = ws.length from hn.symm]; exact okSize_spec h3) ?_ ?_ _ _ _ _ (by simp) ?_ ?_)
  · intro i o ho ℓ a w hl hw hwait hlate hclosed hsame hdeps
    have hg := StepsP.get ops.toList 0 i o hsteps (by rw [Array.getElem?_toList]; exact ho)
    rw [Nat.zero_add] at hg
    obtain ⟨x, y⟩ := hg ℓ a w hl hw hwait (fun t j hj hwt => hlate t j hj (by
      cases hlj : ℓ j with
      | false => rfl
      | true =>
        unfold waitsB at hwt
        cases hoj : ops[j]? with
        | none => rw [hoj] at hwt; simp at hwt
        | some oj =>
          rw [hoj] at hwt
          simp only [Option.map_some, Option.getD_some, List.any_eq_true, Bool.and_eq_true, beq_iff_eq] at hwt
          obtain ⟨e, he, hb, rfl⟩ := hwt
          have := hclosed j oj hoj hlj e (Array.mem_toList_iff.1 he) hb
          rw [hl] at this
          cases this)) (readFacts_of _ fun t ht => hsame t (notDst_spec (List.all_eq_true.1 h4 t ht))) (depFactsP_of _ fun e he hb t ht => hdeps e (Array.mem_toList_iff.1 he) hb t ht)
    refine ⟨x, y _ fun v w' q1 q2 q3 => ⟨v, rfl, q1, q2, fun j u hj hU => ?_⟩⟩
    unfold UV at hU ⊢
    split at hU
    · exact hU
    · rename_i hV
      exact q3 j u hV hj hU
  · intro ℓ a w hl hw hd hz hsame hdone
    let vs : Nat → Value := fun i => match dstOf ops i with | some t => a.tmps.getD t undef | none => undef
    have hvs : ∀ i t, dstOf ops i = some t → a.tmps[t]? = some (vs i) ∧ UV V R i (vs i) w := by
      intro i t ht
      obtain ⟨v, hv, hU⟩ := hdone i t ht
      have e : vs i = v := by
        show (match dstOf ops i with | some t => a.tmps.getD t undef | none => undef) = v
        rw [ht]
        show a.tmps.getD t undef = v
        rw [Array.getD_eq_getD_getElem?, hv]
        rfl
      rw [e]
      exact ⟨hv, hU⟩
    have hval : ∀ i t, dstOf ops i = some t → a.tmps[t]? = some ((V i).getD (vs i)) := by
      intro i t ht
      obtain ⟨h6, h7⟩ := hvs i t ht
      unfold UV at h7
      cases hV : V i with
      | none => exact h6
      | some c =>
        rw [hV] at h7
        rw [h6, show vs i = c from h7]
        rfl
    have he : a = ⟨(zipF (fun i => (V i).getD (vs i)) ws ts.toList).toArray, []⟩ := by
      obtain ⟨tm, df⟩ := a
      obtain rfl : df = [] := hd
      have hz' : tm.size = ws.length := (show tm.size = ts.size from hz).trans hn.symm
      have : tm = (zipF (fun i => (V i).getD (vs i)) ws ts.toList).toArray := by
        apply Array.ext_getElem?
        intro t
        rw [show ((zipF (fun i => (V i).getD (vs i)) ws ts.toList).toArray)[t]? = (zipF (fun i => (V i).getD (vs i)) ws ts.toList)[t]? by simp, zipF_get _ ws ts.toList t (by rw [hn]; simp)]
        by_cases ht : t < ws.length
        · have h6 := List.all_eq_true.1 h5 t (List.mem_range.2 ht)
          rw [List.getElem?_eq_getElem ht] at h6 ⊢
          cases hv : ws[t] with
          | none =>
            rw [hv] at h6
            have := hsame t (notDst_spec h6)
            simp only at this ⊢
            rw [this]
            simp
          | some i =>
            rw [hv] at h6
            exact hval i t (by simpa using h6)
        · rw [List.getElem?_eq_none (by omega), Array.getElem?_eq_none (by omega)]
      rw [this]
    rw [he]
    refine hend vs ℓ w hl hw fun i t ht hV => ?_
    have := (hvs i t ht).2
    unfold UV at this
    rw [hV] at this
    exact this
  · unfold left
    refine Nat.le_trans (List.length_filter_le _ _) ?_
    simp
  · have hf : ∀ i, (Array.replicate ops.size false).getD i false ≠ true := by
      intro i
      by_cases h : i < ops.size <;> simp [h]
    have e0 : (fun j => (Array.replicate ops.size false).getD j false) = fun _ => false := by
      funext j; simpa using hf j
    exact ⟨by rw [e0]; exact hS, rfl, rfl, fun _ _ => rfl, fun i t h => absurd h (hf i), fun j o _ h => absurd h (hf j)⟩
end
end Go.Proofs.Ytmjjbapahgejmaa.RegVal
namespace Go.Proofs.Ytmjjbapahgejmaa.Ret
open Go
theorem results_cell {fn : Func} {p : Tmp} {ty : TypeId} (h : fn.results = #[.cell p ty]) (tmps : Array Value) (P : Program) (w : World) :
    (results fn tmps).run P w = ((asAddr (tmps.getD p undef) >>= fun a => loadVar ty a)).run P w := by
  simp [results, h, go_sem]
theorem ret_cell {P : Program} {fn : Func} {p : Tmp} {ty : TypeId} (h : fn.results = #[.cell p ty]) (tmps : Array Value) (w : World) (g : Nat) (t : TypeId) (cs : Array Value) (fr : Nat × Nat) (d : TypeDesc)
    (hp : tmps.getD p undef = .pointer (some ⟨g, 0, none⟩)) (hg : w.heap[g]? = some (.cells cs t fr))
    (hu : P.underlying ty = some d) (hd : (match d with | .struct _ | .array _ _ => true | _ => false) = true) (hi : (P.info? ty).map (·.size) = some cs.size) :
    (results fn tmps).run P w = .ok (.agg cs) w := by
  rw [results_cell h, hp]
  simp [asAddr, run_loadVar_row w g t ty cs fr d hg hu hd hi]
theorem ret_cell_tmp {P : Program} {fn : Func} {p u : Tmp} {ty : TypeId} (h : fn.results = #[.cell p ty, .tmp u]) (tmps : Array Value) (w : World) (g : Nat) (t : TypeId) (cs : Array Value) (fr : Nat × Nat) (d : TypeDesc)
    (hp : tmps.getD p undef = .pointer (some ⟨g, 0, none⟩)) (hg : w.heap[g]? = some (.cells cs t fr))
    (hu : P.underlying ty = some d) (hd : (match d with | .struct _ | .array _ _ => true | _ => false) = true) (hi : (P.info? ty).map (·.size) = some cs.size) :
    (results fn tmps).run P w = .ok (.tuple #[.agg cs, tmps.getD u undef]) w := by
  rw [results_cell_tmp h, hp]
  simp [asAddr, run_loadVar_row w g t ty cs fr d hg hu hd hi, Result.andThen]
end Go.Proofs.Ytmjjbapahgejmaa.Ret
