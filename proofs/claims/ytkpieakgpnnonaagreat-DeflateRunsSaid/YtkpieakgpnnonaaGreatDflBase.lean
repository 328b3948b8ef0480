/-
  A writer that goes on, beside blocks of one's own; contracts of deflate's within, begin, pieces and Stored.
-/
import Derived.Test.YtkpieakgpnnonaaGreatAllDef
import Derived.Test.YtkpieakgpnnonaaGreatAllPack
namespace Go.Proofs.YtkpieakgpnnonaaGreat.Dfl
open Go.ChangeShapes Go.WideShapes Go.ChangeAt Go.RowKit
open Go.Proofs.YtkpieakgpnnonaaGreat.Bit (WrAt But Near bitsOf bitsOf_length cnt tb pack pad wbits_any align_any wbytes_any bitsOf_add ibit)
open Go.Proofs.YtkpieakgpnnonaaGreat.Sym (wr_below)
open Go.Proofs.YtkpieakgpnnonaaGreat.Def
set_option linter.unusedVariables false
set_option maxRecDepth 100000

/-- A writer that went on from w0 to w. -/
structure Wt (b : Nat) (v0 : Value) (w0 w : World) (v : Value) (l : List Bool) : Prop where
  at_ : WrAt w b v l
  but : But b v0 w0 w
  near : Near w0 v0 v
theorem Wt.start {b : Nat} {v : Value} {w : World} {l : List Bool} (h : WrAt w b v l) : Wt b v w w v l := ⟨h, But.refl _ _ _, Near.refl _ _⟩
theorem Wt.step {b : Nat} {v0 v v' : Value} {w0 w w' : World} {l l' : List Bool} (h : Wt b v0 w0 w v l) (h1 : WrAt w' b v' l') (h2 : But b v w w') (h3 : Near w v v') : Wt b v0 w0 w' v' l' :=
  ⟨h1, h.but.trans h.near h2, h.near.trans h3 h.but.size⟩
theorem Wt.below {b : Nat} {v0 v : Value} {w0 w w' : World} {l : List Bool} (h : Wt b v0 w0 w v l) (k : Below w.heap.size w w') : Wt b v0 w0 w' v l :=
  h.step (wr_below h.at_ k) (Bit.But.below k) (Near.refl _ _)
theorem Wt.blk {b k : Nat} {v0 v : Value} {w0 w : World} {l : List Bool} (h : Wt b v0 w0 w v l) (hk : k < w0.heap.size) (h1 : k ≠ b) (h2 : v0.ownBlock ≠ some k) : w.heap[k]? = w0.heap[k]? := h.but.block k hk h1 fun e => h2 e.symm
/-- A block that is none of the writer's. -/
structure Off (b : Nat) (v : Value) (w : World) (P : Nat) : Prop where
  lt : P < w.heap.size
  ne : P ≠ b
  own : v.ownBlock ≠ some P
theorem Off.new {b : Nat} {v : Value} {w w' : World} {l : List Bool} (h : WrAt w b v l) {P : Nat} (hP : w.heap.size ≤ P) (hP2 : P < w'.heap.size) : Off b v w' P := by
  refine ⟨hP2, fun e => ?_, fun e => ?_⟩
  · have := Bit.WrRaw.lt h; omega
  · have := (h.own.lt _ e).2; omega
theorem Off.step {b P : Nat} {v v' : Value} {w w' : World} (h : Off b v w P) (k : But b v w w') (n : Near w v v') : Off b v' w' P ∧ w'.heap[P]? = w.heap[P]? := by
  refine ⟨⟨Nat.lt_of_lt_of_le h.lt k.size, h.ne, fun e => ?_⟩, k.block P h.lt h.ne fun e => h.own e.symm⟩
  rcases n P e with h1 | h1
  · exact h.own h1
  · have := h.lt; omega
theorem Off.below {b P : Nat} {v : Value} {w w' : World} (h : Off b v w P) (k : Below w.heap.size w w') : Off b v w' P ∧ w'.heap[P]? = w.heap[P]? := h.step (Bit.But.below k) (Near.refl _ _)

theorem within_any (n l m : Int) (w : World) :
    Calls Tryz.prog 40 #[.int .i64 n, .int .i64 l, .int .i64 m] w fun e w' => e = .returned (.bool (decide (l ≤ n) && decide (n ≤ m))) ∧ w = w' := by
  go_enter Tryz.func40, Tryz.ntmps40
  go_wp2_with fail
  all_goals (go_ret; refine ⟨Lz.ret_bool ?_, rfl⟩)
  all_goals (first | (simp_all; done) | (simp_all; omega))

theorem bit_one (last : Bool) : bitsOf (cnt 1) ((last.toNat : Nat) : Int) = [last] := by cases last <;> rfl

set_option maxHeartbeats 1000000 in
theorem begin_any (b : Nat) (v0 v : Value) (l : List Bool) (last : Bool) (kind : Nat) (w0 w : World) (h : Wt b v0 w0 w v l) (hl : l.length ≤ 1000000000) :
    Calls Tryz.prog 34 #[.pointer (some ⟨b, 0, none⟩), .bool last, .int .i64 kind] w fun e w' => e = .returned (.tuple #[]) ∧ ∃ v', Wt b v w w' v' (l ++ (last :: bitsOf 2 kind)) := by
  have H := Lib.hid h
  have C1 := Lib.hid (wbits_any b v l 1 (last.toNat : Nat) w h.at_ (by omega))
  rw [bit_one] at C1
  clear h
  have FIN : Hid (∀ w1 v1, WrAt w1 b v1 (l ++ [last]) → Calls Tryz.prog 10 #[.pointer (some ⟨b, 0, none⟩), .int .i64 2, .int .i64 kind] w1 fun r w' => r = .returned (.tuple #[]) ∧ ∃ v', WrAt w' b v' (l ++ [last] ++ bitsOf 2 kind) ∧ But b v1 w1 w' ∧ Near w1 v1 v') :=
    fun w1 v1 h1 => wbits_any b v1 (l ++ [last]) 2 kind w1 h1 (by rw [List.length_append, List.length_singleton]; omega)
  go_enter Tryz.func34, Tryz.ntmps34
  cases last with
  | false =>
    go_wp2_with fail
    refine C1.out.mono ?_
    rintro r w1 ⟨rfl, v1, h1, b1, n1⟩
    have W1 := Lib.hid ((Wt.start H.out.at_).step h1 b1 n1)
    have C2 := Lib.hid (FIN.out w1 v1 h1)
    clear h1 b1 n1 C1 FIN
    go_wp2_with fail
    refine C2.out.mono ?_
    rintro r w2 ⟨rfl, v2, h2, b2, n2⟩
    have W2 := Lib.hid (W1.out.step h2 b2 n2)
    clear h2 b2 n2 C2
    go_wp2_with fail
    go_end0
    have := W2.out
    rw [List.append_assoc] at this
    exact ⟨rfl, v2, this⟩
  | true =>
    go_wp2_with fail
    refine C1.out.mono ?_
    rintro r w1 ⟨rfl, v1, h1, b1, n1⟩
    have W1 := Lib.hid ((Wt.start H.out.at_).step h1 b1 n1)
    have C2 := Lib.hid (FIN.out w1 v1 h1)
    clear h1 b1 n1 C1 FIN
    go_wp2_with fail
    refine C2.out.mono ?_
    rintro r w2 ⟨rfl, v2, h2, b2, n2⟩
    have W2 := Lib.hid (W1.out.step h2 b2 n2)
    clear h2 b2 n2 C2
    go_wp2_with fail
    go_end0
    have := W2.out
    rw [List.append_assoc] at this
    exact ⟨rfl, v2, this⟩

/-- A text's pieces. -/
def pcs (last : Bool) (s : ByteArray) : List (ByteArray × Bool) := if s.size ≤ 65535 then [(s, last)] else [(s.extract 0 65535, false), (s.extract 65535 s.size, last)]
def cellsP : List (ByteArray × Bool) → List Value
  | [] => []
  | p :: l => .string p.1 :: .bool p.2 :: cellsP l
theorem cellsP_length (l : List (ByteArray × Bool)) : (cellsP l).length = l.length * 2 := by
  induction l with
  | nil => rfl
  | cons t l ih => simp [cellsP, ih]; omega
theorem cellsP_get (l : List (ByteArray × Bool)) : ∀ i (h : i < l.length), (cellsP l)[i * 2]? = some (.string l[i].1) ∧ (cellsP l)[i * 2 + 1]? = some (.bool l[i].2) := by
  induction l with
  | nil => intro i h; simp at h
  | cons t l ih =>
    intro i h
    cases i with
    | zero => exact ⟨rfl, rfl⟩
    | succ i =>
      have := ih i (by simpa using h)
      rw [show (i + 1) * 2 = i * 2 + 2 by omega]
      simpa [cellsP] using this
theorem info_pc : (Tryz.prog.info? 70).map (fun i => (i.zero, i.size, i.bytes)) = some (some (.agg #[.string ⟨#[]⟩, .bool false]), 2, 24) := by kernel_rfl

/-- Pieces in a row of their own. -/
structure PcAt (B : Nat) (w : World) (v : Value) (l : List (ByteArray × Bool)) : Prop where
  own : w.ownsRow 0 70 2 v l.length (cellsP l)
  new : ∀ j, v.ownBlock = some j → B ≤ j
theorem pc_lit (w : World) (p : ByteArray × Bool) (T : TypeId) : ∀ j u, (cellsP [p])[j]? = some u → (w.alloc (.cells #[.string p.1, .bool p.2] T)).cell? ((⟨w.heap.size, 0, none⟩ : Addr).add j) = some u := by
  intro j u hj
  rw [Go.WideShapes.add_plain, Nat.zero_add, cell_of_row _ _ j _ _ _ (heap_alloc_new _ _)]
  match j, hj with
  | 0, h => exact h
  | 1, h => exact h
theorem pc_one (p : ByteArray × Bool) : ∀ u ∈ cellsP [p], u.oneCell' = true := by
  intro u hu
  simp only [cellsP, List.mem_cons, List.not_mem_nil, or_false] at hu
  rcases hu with rfl | rfl <;> rfl

set_option maxHeartbeats 4000000 in
theorem pieces_any (s : ByteArray) (last : Bool) (w : World) (hs : s.size ≤ 70000) :
    Calls Tryz.prog 33 #[.string s, .bool last] w fun e w' => ∃ v, e = .returned v ∧ PcAt w.heap.size w' v (pcs last s) ∧ Below w.heap.size w w' := by
  obtain ⟨i0, hi, hz0, hz1, hz2⟩ := Huf.info_parts info_pc
  obtain ⟨TT, hTT⟩ : ∃ TT, pcs last s = TT := ⟨_, rfl⟩
  rw [hTT]
  have HT := Lib.hid hTT
  clear hTT
  go_enter Tryz.func33, Tryz.ntmps33
  go_wp2_with fail
  go_loopw [0, 5] (fun sv u wr => ∃ (t : ByteArray) (l0 : List (ByteArray × Bool)), sv = .string t ∧ t.size ≤ 70000 ∧ l0.length ≤ 1 ∧ (l0.length = 1 → t.size ≤ 65535) ∧ (if t.size ≤ 65535 then l0 ++ [(t, last)] = TT else l0 = [] ∧ [(t.extract 0 65535, false), (t.extract 65535 t.size, last)] = TT) ∧ PcAt w.heap.size wr u l0 ∧ Below w.heap.size w wr) (fun sv _ _ => match sv with | .string t => t.size | _ => 0)
  case atStart =>
    refine ⟨s, [], rfl, hs, by simp, by simp, ?_, ⟨World.ownsRow_nil _ _ _ _, fun j h => by cases h⟩, Below.refl _ _⟩
    rw [← HT.out]
    unfold pcs
    split <;> simp
  case round =>
    obtain ⟨t, l0, rfl, hts, hl0, hl1, hc, hp, hb⟩ := hrel
    have NEXT : Hid (∀ p wr' v', (wr.alloc (.cells #[.string p.1, .bool p.2] 70)).grownBy wr' u5.ownBlock → Lz.Near (wr.alloc (.cells #[.string p.1, .bool p.2] 70)) u5 v' → wr'.ownsRow 0 70 2 v' (l0.length + 1) (cellsP l0 ++ cellsP [p]) → PcAt w.heap.size wr' v' (l0 ++ [p]) ∧ Below w.heap.size w wr') := by
      intro p wr' v' hg hn ho
      have hb2 := hb.alloc hb.size (.cells #[.string p.1, .bool p.2] 70)
      have ha : ∀ (a b : List (ByteArray × Bool)), cellsP (a ++ b) = cellsP a ++ cellsP b := by
        intro a b
        induction a with
        | nil => rfl
        | cons x a ih => simp [cellsP, ih]
      refine ⟨⟨by rw [List.length_append, List.length_singleton, ha]; exact ho, fun j hj => ?_⟩, hb2.grown hg hb2.size hp.new⟩
      rcases hn j hj with h | h
      · exact hp.new j h
      · have := hb2.size; omega
    have HA : Hid (∀ o, (wr.alloc o).ownsRow 0 70 2 u5 l0.length (cellsP l0)) := Lib.hid fun o => hp.own.alloc o
    clear hp hb HT
    by_cases hlt : 65535 < t.size
    · rw [if_neg (by omega)] at hc
      obtain ⟨rfl, hc⟩ := hc
      obtain ⟨R, hR⟩ : ∃ R, t.extract 65535 t.size = R := ⟨_, rfl⟩
      obtain ⟨P, hP⟩ : ∃ P, t.extract 0 65535 = P := ⟨_, rfl⟩
      have hRs : R.size ≤ 65535 ∧ R.size < t.size := by rw [← hR]; simp; omega
      rw [hR, hP] at hc
      have HC := Lib.hid hc
      have HR := Lib.hid hRs
      have h1 : (65535 : Int) < t.size := by omega
      have N2 := Lib.hid (NEXT.out (P, false))
      clear hc hRs NEXT hl1 hl0
      go_wp2_with (at_builtin; refine Lz.wpList_append_near _ rfl _ _ 67 rfl 70 i0 (.agg #[.string ⟨#[]⟩, .bool false]) 2 24 Tryz.underlying67 hi hz0 hz1 hz2 rfl (by decide) u5 0 [] rfl (HA.out _) ⟨wr.heap.size, 0, none⟩ 1 1 (cellsP [(P, false)]) rfl rfl (pc_lit wr (P, false) _) (pc_one _) (by unfold maxLen; omega) (by omega) ?_; intro v6 w6 o6 g6 n6; have H6 := Lib.hid (N2.out w6 v6 g6 n6 o6); clear o6 g6 n6)
      refine ⟨⟨R, [(P, false)], rfl, by have := HR.out; omega, Nat.le_refl _, fun _ => HR.out.1, ?_, H6.out.1, H6.out.2⟩, ?_⟩
      · rw [if_pos HR.out.1]; exact HC.out
      · exact HR.out.2
    · rw [if_pos (by omega)] at hc
      have HC := Lib.hid hc
      have h1 : ¬ (65535 : Int) < t.size := by omega
      have N2 := Lib.hid (NEXT.out (t, last))
      have HL := Lib.hid hl0
      generalize hLn : l0.length = n0 at *
      clear hc NEXT hl1 hl0
      go_wp2_with (at_builtin; refine Lz.wpList_append_near _ rfl _ _ 67 rfl 70 i0 (.agg #[.string ⟨#[]⟩, .bool false]) 2 24 Tryz.underlying67 hi hz0 hz1 hz2 rfl (by decide) u5 n0 (cellsP l0) rfl (HA.out _) ⟨wr.heap.size, 0, none⟩ 1 1 (cellsP [(t, last)]) rfl rfl (pc_lit wr (t, last) _) (pc_one _) (by unfold maxLen; have := HL.out; omega) (by have := HL.out; omega) ?_; intro v6 w6 o6 g6 n6; have H6 := Lib.hid (N2.out w6 v6 g6 n6 o6); clear o6 g6 n6)
      go_ret
      rw [← HC.out]
      exact ⟨_, rfl, H6.out.1, H6.out.2⟩
end Go.Proofs.YtkpieakgpnnonaaGreat.Dfl
