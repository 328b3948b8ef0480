/-
  The state of a bitio.Writer in memory, and the contracts of its methods.
-/
import Derived.Test.YtikfenimgjeplaaBitBase
import Derived.ArgAppend
import Derived.Lib.AppendStr
namespace Go.Proofs.Ytikfenimgjeplaa.Bit
open Go.ChangeShapes Go.WideShapes Go.ChangeAt Go.RowKit
set_option linter.unusedVariables false

theorem info_u8 : (Try.prog.info? 5).map (fun i => (i.zero, i.size, i.bytes)) = some (some (.int .u8 0), 1, 1) := by kernel_rfl

/-- But for block b and the row of v, what was there is as it was. -/
structure But (b : Nat) (v : Value) (w w' : World) : Prop where
  os : w'.os = w.os
  tape : w'.tape = w.tape
  output : w'.output = w.output
  size : w.heap.size ≤ w'.heap.size
  block : ∀ k, k < w.heap.size → k ≠ b → some k ≠ v.ownBlock → w'.heap[k]? = w.heap[k]?

theorem But.refl (b : Nat) (v : Value) (w : World) : But b v w w := ⟨rfl, rfl, rfl, Nat.le_refl _, fun _ _ _ _ => rfl⟩

/-- A row that is the old one, or a new one. -/
def Near (w : World) (v v' : Value) : Prop := ∀ k, v'.ownBlock = some k → v.ownBlock = some k ∨ w.heap.size ≤ k

theorem Near.refl (w : World) (v : Value) : Near w v v := fun _ h => .inl h
theorem Near.trans {w w1 : World} {v v1 v2 : Value} (h : Near w v v1) (k : Near w1 v1 v2) (hs : w.heap.size ≤ w1.heap.size) : Near w v v2 := by
  intro i hi
  rcases k i hi with h1 | h1
  · exact h i h1
  · exact .inr (by omega)

theorem But.trans {b : Nat} {v v1 : Value} {w w1 w2 : World} (h : But b v w w1) (n : Near w v v1) (k : But b v1 w1 w2) : But b v w w2 := by
  refine ⟨k.os.trans h.os, k.tape.trans h.tape, k.output.trans h.output, Nat.le_trans h.size k.size, fun i hi hb hv => ?_⟩
  have hs := h.size
  refine (k.block i (by omega) hb fun e => ?_).trans (h.block i hi hb hv)
  rcases n i e.symm with h1 | h1
  · exact hv h1.symm
  · omega

theorem But.drewN {b : Nat} {v : Value} {w w1 : World} (h : But b v w w1) (n : Nat) : But b v w (w1.drewN n) := ⟨h.os, h.tape, h.output, h.size, h.block⟩

/-- 'append' onto what is owned: the row is the old one, or a new one. -/
theorem run_append_near {P : Program} (w : World) (t ty e : TypeId) (i : TypeInfo) (z : Value) (size bytes : Nat) (ht : P.underlying t = some (.slice e)) (hi : P.info? e = some i) (hz : i.zero = some z)
    (hsize : i.size = size) (hby : i.bytes = bytes) (hzs : z.cells.size = size) (hsz : 0 < size)
    (v : Value) (n : Nat) (xs : List Value) (hown : w.ownsRow 0 e size v n xs)
    (a : Addr) (m c : Nat) (news : List Value) (hl : news.length = m * size) (hnews : ∀ j u, news[j]? = some u → w.cell? (a.add j) = some u) (h1 : ∀ u ∈ news, u.oneCell' = true)
    (h63 : n + m ≤ maxLen) (hbytes : (n + m) * bytes ≤ 140737488355328) :
    ∃ v' w', (Builtin.append_ #[t, t] ty #[v, .slice (some a) m c]).run P w = .ok v' w' ∧ w'.ownsRow 0 e size v' (n + m) (xs ++ news) ∧ w.grownBy w' v.ownBlock ∧ Near w v v' := by
  rcases hown.2 with ⟨rfl, rfl⟩ | ⟨g, cap, cur, rfl, hbg, hg, hnc, hcm, hcs, htake⟩
  · obtain ⟨v', w', hr, h2, h3, _⟩ := run_append_own (P := P) w w.heap.size t ty e i z size bytes ht hi hz hsize hby hzs hsz (.slice none 0 0) 0 xs ⟨hown.1, .inl ⟨rfl, rfl⟩⟩ a m c news hl hnews h1 h63 hbytes (Nat.le_refl _)
    refine ⟨v', w', hr, ⟨h2.1, ?_⟩, h3, fun k hk => .inr (h2.lt k hk).1⟩
    rcases h2.2 with h | ⟨g, cap, cur, h1, _, h3⟩
    · exact .inl h
    · exact .inr ⟨g, cap, cur, h1, Nat.zero_le _, h3⟩
  · by_cases hroom : n + m ≤ cap
    · obtain ⟨w', hr, h2, h3⟩ := run_append_fits (P := P) w 0 t ty e i size ht hi hsize g n cap xs hown a m c news hl hnews h1 hroom
      exact ⟨_, w', hr, h2, h3, fun k hk => .inl hk⟩
    · have holds : ∀ j u, xs[j]? = some u → w.cell? ((⟨g, 0, none⟩ : Addr).add j) = some u := hown.cells (g := g) rfl
      obtain ⟨v', w', hr, h2, h3⟩ := run_append_arg_grows (P := P) w t ty e i z size bytes ht hi hz hsize hby hzs hsz ⟨g, 0, none⟩ n cap xs hown.1 holds a m c news hl hnews (by omega) h63 hbytes
      refine ⟨v', w', hr, ⟨h2.1, ?_⟩, ⟨h3.os, h3.tape, h3.output, h3.size, fun k hk _ => h3.block k hk (by simp)⟩, fun k hk => .inr (h2.lt k hk).1⟩
      rcases h2.2 with h | ⟨g, cap, cur, h1, _, h3⟩
      · exact .inl h
      · exact .inr ⟨g, cap, cur, h1, Nat.zero_le _, h3⟩

theorem wpList_append_near {P : Program} (w : World) {ops : Array Oper} {rest : List Oper} {o : Oper} {a : Act} {Q : Exit → Act → World → Prop} (hgd : o.guard = none) (s x : Operand) (t : TypeId)
    (ho : o.op = .call { callee := .builtin .append, args := #[s, x], argTypes := #[t, t] })
    (e : TypeId) (i : TypeInfo) (z : Value) (size bytes : Nat) (ht : P.underlying t = some (.slice e)) (hi : P.info? e = some i) (hz : i.zero = some z)
    (hsize : i.size = size) (hby : i.bytes = bytes) (hzs : z.cells.size = size) (hsz : 0 < size)
    (v : Value) (n : Nat) (xs : List Value) (hs : a.eval s = v) (hown : w.ownsRow 0 e size v n xs)
    (ad : Addr) (m c : Nat) (news : List Value) (hx : a.eval x = .slice (some ad) m c) (hl : news.length = m * size) (hnews : ∀ j u, news[j]? = some u → w.cell? (ad.add j) = some u) (h1 : ∀ u ∈ news, u.oneCell' = true)
    (h63 : n + m ≤ maxLen) (hbytes : (n + m) * bytes ≤ 140737488355328)
    (h : ∀ v' w', w'.ownsRow 0 e size v' (n + m) (xs ++ news) → w.grownBy w' v.ownBlock → Near w v v' → wpList P ops Q rest (a.put o.dst v') w') : wpList P ops Q (o :: rest) a w := by
  refine wpList_plain hgd fun K hK => ?_
  obtain ⟨v', w', hr, h2, h3, h4⟩ := run_append_near (P := P) w t o.type e i z size bytes ht hi hz hsize hby hzs hsz v n xs hown ad m c news hl hnews h1 h63 hbytes
  unfold Oper.wp execOp
  simp only [ho, resolve, invoke, builtin, Sem.run_bind, Sem.run_pure, Result.andThen_ok, List.map_toArray, List.map_cons, List.map_nil, hs, hx, hr]
  exact hK _ _ (h v' w' h2 h3 h4)

def cellsU (l : List UInt8) : List Value := l.map fun b => Value.int .u8 b.toNat

/-- Block b holds a writer whose bytes lie in v, with so many bits free. -/
structure WrRaw (w : World) (b : Nat) (v : Value) (bs : List UInt8) (f : Int) : Prop where
  blk : w.heap[b]? = some (.cells #[v, .int .i64 f] 39 (0, 0))
  own : w.ownsRow 0 5 1 v bs.length (cellsU bs)

theorem WrRaw.lt {w : World} {b : Nat} {v : Value} {bs : List UInt8} {f : Int} (h : WrRaw w b v bs f) : b < w.heap.size := (Array.getElem?_eq_some_iff.1 h.blk).1

theorem WrRaw.cells {w : World} {b : Nat} {v : Value} {bs : List UInt8} {f : Int} (h : WrRaw w b v bs f) :
    w.cell? ⟨b, 0, none⟩ = some v ∧ w.cell? ⟨b, 1, none⟩ = some (.int .i64 f) ∧ w.frozen? ⟨b, 0, none⟩ = false ∧ w.frozen? ⟨b, 1, none⟩ = false := by
  refine ⟨?_, ?_, ?_, ?_⟩
  · rw [cell_of_row w b 0 _ _ _ h.blk]; rfl
  · rw [cell_of_row w b 1 _ _ _ h.blk]; rfl
  · exact frozen_of_row w b 0 _ _ h.blk
  · exact frozen_of_row w b 1 _ _ h.blk

/-- The row is another block than the writer's. -/
theorem WrRaw.ne {w : World} {b : Nat} {v : Value} {bs : List UInt8} {f : Int} (h : WrRaw w b v bs f) : v.ownBlock ≠ some b := by
  intro e
  rcases h.own.2 with ⟨rfl, _⟩ | ⟨g, cap, cur, rfl, _, hg, _⟩
  · simp [Value.ownBlock] at e
  · simp only [Value.ownBlock, Option.some.injEq] at e
    subst e
    rw [h.blk] at hg
    simp at hg

theorem ownsRow_block {w w' : World} {e : TypeId} {v : Value} {n : Nat} {xs : List Value} (h : w.ownsRow 0 e 1 v n xs) (hk : ∀ k, v.ownBlock = some k → w'.heap[k]? = w.heap[k]?) : w'.ownsRow 0 e 1 v n xs := by
  refine ⟨h.1, ?_⟩
  rcases h.2 with h1 | ⟨g, cap, cur, rfl, h1, hg, h2⟩
  · exact .inl h1
  · exact .inr ⟨g, cap, cur, rfl, h1, by rw [hk g rfl]; exact hg, h2⟩

/-- A store into the writer's own cells. -/
theorem WrRaw.setFree {w : World} {b : Nat} {v : Value} {bs : List UInt8} {f : Int} (h : WrRaw w b v bs f) (f' : Int) : WrRaw (w.setCell ⟨b, 1, none⟩ (.int .i64 f')) b v bs f' := by
  refine ⟨?_, ownsRow_block h.own fun k hk => heap_setCell_other w ⟨b, 1, none⟩ k _ (fun e => h.ne (by rw [hk, e]))⟩
  rw [heap_setCell_same w b 1 _ _ _ h.blk]; rfl

theorem But.setCell {b : Nat} {v : Value} (w : World) (o : Nat) (u : Value) : But b v w (w.setCell ⟨b, o, none⟩ u) :=
  ⟨rfl, rfl, rfl, by simp, fun k _ hk _ => heap_setCell_other w ⟨b, o, none⟩ k u hk⟩

/-- A new row behind an append, stored into the writer. -/
theorem WrRaw.appended {w w1 : World} {b : Nat} {v v' : Value} {bs bs' : List UInt8} {f : Int} (h : WrRaw w b v bs f) (hg : w.grownBy w1 v.ownBlock) (hn : Near w v v') (ho : w1.ownsRow 0 5 1 v' bs'.length (cellsU bs')) :
    WrRaw (w1.setCell ⟨b, 0, none⟩ v') b v' bs' f ∧ But b v w (w1.setCell ⟨b, 0, none⟩ v') := by
  have hb : w1.heap[b]? = some (.cells #[v, .int .i64 f] 39 (0, 0)) := by rw [hg.block b h.lt (fun e => h.ne e.symm)]; exact h.blk
  have hne : v'.ownBlock ≠ some b := by
    intro e
    rcases hn b e with h1 | h1
    · exact h.ne h1
    · have := h.lt; omega
  refine ⟨⟨?_, ownsRow_block ho fun k hk => heap_setCell_other w1 ⟨b, 0, none⟩ k _ (fun e => hne (by rw [hk, e]))⟩, ⟨hg.os, hg.tape, hg.output, by simpa using hg.size, fun k hk hb' hv => ?_⟩⟩
  · rw [heap_setCell_same w1 b 0 _ _ _ hb]; rfl
  · exact (heap_setCell_other w1 ⟨b, 0, none⟩ k _ hb').trans (hg.block k hk hv)

end Go.Proofs.Ytikfenimgjeplaa.Bit
