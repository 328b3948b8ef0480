/-
  Contract of deflate's codedBlock.
-/
import Derived.Test.YtkpieakgpnnonaaGreatDflClo
import Derived.Test.YtkpieakgpnnonaaGreatAllBit
namespace Go.Proofs.YtkpieakgpnnonaaGreat.Dfl
open Go.ChangeShapes Go.WideShapes Go.ChangeAt Go.RowKit
open Go.Proofs.YtkpieakgpnnonaaGreat.Bit (WrAt But Near bitsOf bitsOf_length wlen_any)
open Go.Proofs.YtkpieakgpnnonaaGreat.Lz (Tok okT IsToks)
open Go.Proofs.YtkpieakgpnnonaaGreat.Def
open Go.Proofs.YtkpieakgpnnonaaGreat.Huf (IsInts used nats eval_tmp needed_ne lead_ne)
open Go.Proofs.YtkpieakgpnnonaaGreat.Sym
open Go.Proofs.YtkpieakgpnnonaaGreat.RegTwo
set_option linter.unusedVariables false
set_option maxRecDepth 100000

theorem five (w : World) (A B C D E : Obj) : ((((((w.alloc A).alloc B).alloc C).alloc D).alloc E).heap[w.heap.size]? = some A ∧ (((((w.alloc A).alloc B).alloc C).alloc D).alloc E).heap[w.heap.size + 1]? = some B ∧ (((((w.alloc A).alloc B).alloc C).alloc D).alloc E).heap[w.heap.size + 1 + 1]? = some C ∧
    (((((w.alloc A).alloc B).alloc C).alloc D).alloc E).heap[w.heap.size + 1 + 1 + 1]? = some D ∧ (((((w.alloc A).alloc B).alloc C).alloc D).alloc E).heap[w.heap.size + 1 + 1 + 1 + 1]? = some E) ∧ Below w.heap.size w (((((w.alloc A).alloc B).alloc C).alloc D).alloc E) := by
  have s1 : (w.alloc A).heap.size = w.heap.size + 1 := by simp
  have s2 : ((w.alloc A).alloc B).heap.size = w.heap.size + 1 + 1 := by simp
  have s3 : (((w.alloc A).alloc B).alloc C).heap.size = w.heap.size + 1 + 1 + 1 := by simp
  have s4 : ((((w.alloc A).alloc B).alloc C).alloc D).heap.size = w.heap.size + 1 + 1 + 1 + 1 := by simp
  refine ⟨⟨?_, ?_, ?_, ?_, ?_⟩, ((((((Below.refl _ _).alloc (Nat.le_refl _) A).alloc (by omega) B).alloc (by omega) C).alloc (by omega) D).alloc (by omega) E)⟩
  · rw [Below.heap_alloc _ _ _ (by omega), Below.heap_alloc _ _ _ (by omega), Below.heap_alloc _ _ _ (by omega), Below.heap_alloc _ _ _ (by omega)]; exact heap_alloc_new _ _
  · rw [Below.heap_alloc _ _ _ (by omega), Below.heap_alloc _ _ _ (by omega), Below.heap_alloc _ _ _ (by omega), ← s1]; exact heap_alloc_new _ _
  · rw [Below.heap_alloc _ _ _ (by omega), Below.heap_alloc _ _ _ (by omega), ← s2]; exact heap_alloc_new _ _
  · rw [Below.heap_alloc _ _ _ (by omega), ← s3]; exact heap_alloc_new _ _
  · rw [← s4]; exact heap_alloc_new _ _
theorem two_new (w : World) (A B : Obj) : ((w.alloc A).alloc B).heap[w.heap.size]? = some A ∧ ((w.alloc A).alloc B).heap[w.heap.size + 1]? = some B ∧ Below w.heap.size w ((w.alloc A).alloc B) := by
  have s1 : (w.alloc A).heap.size = w.heap.size + 1 := by simp
  refine ⟨?_, ?_, (((Below.refl _ _).alloc (Nat.le_refl _) A).alloc (by omega) B)⟩
  · rw [Below.heap_alloc _ _ _ (by omega)]; exact heap_alloc_new _ _
  · rw [← s1]; exact heap_alloc_new _ _

/-- Boxes in blocks of their own. -/
def Bx (w : World) (p : Nat) (v : Value) (T : TypeId) : Prop := w.heap[p]? = some (.cells #[v] T (0, 0))
theorem Bx.cell {w : World} {p : Nat} {v : Value} {T : TypeId} (h : Bx w p v T) : w.cell? ⟨p, 0, none⟩ = some v := (cell_of_row _ _ 0 _ _ _ h).trans rfl
theorem Bx.frozen {w : World} {p : Nat} {v : Value} {T : TypeId} (h : Bx w p v T) : w.frozen? ⟨p, 0, none⟩ = false := frozen_of_row w p 0 _ _ h
theorem Bx.lt {w : World} {p : Nat} {v : Value} {T : TypeId} (h : Bx w p v T) : p < w.heap.size := (Array.getElem?_eq_some_iff.1 h).1
theorem Bx.below {w w' : World} {p : Nat} {v : Value} {T : TypeId} (h : Bx w p v T) (k : Below w.heap.size w w') : Bx w' p v T := by unfold Bx; rw [k.block p h.lt]; exact h
theorem Bx.set {w : World} {p : Nat} {v : Value} {T : TypeId} (h : Bx w p v T) (u : Value) : Bx (w.setCell ⟨p, 0, none⟩ u) p u T := by
  unfold Bx
  rw [heap_setCell_same w p 0 _ _ _ h]; rfl
theorem Bx.other {w : World} {p r : Nat} {v u : Value} {T : TypeId} (h : Bx w p v T) (hr : p ≠ r) : Bx (w.setCell ⟨r, 0, none⟩ u) p v T := by
  unfold Bx
  rw [heap_setCell_other w ⟨r, 0, none⟩ p u (fun e => hr e)]; exact h
theorem Bx.block {w w' : World} {p : Nat} {v : Value} {T : TypeId} (h : Bx w p v T) (k : w'.heap[p]? = w.heap[p]?) : Bx w' p v T := by unfold Bx; rw [k]; exact h

theorem at_ne {w : World} {g p n : Nat} {f : Nat → Nat} {v : Value} {T : TypeId} (h : AtN w g n f) (k : Bx w p v T) (hn : n ≠ 1) : g ≠ p := by
  rintro rfl
  unfold AtN at h
  unfold Bx at k
  rw [h] at k
  simp only [Option.some.injEq, Obj.cells.injEq] at k
  have := congrArg Array.size k.1
  simp [rowN] at this
  exact hn this
/-- The block's cells when they are stored. -/
def codF (W0 : World) (p6 K : Nat) (f : Value) (v : Value) (w' : World) : Prop := w'.heap[p6]? = some (.cells #[.int .i64 (K : Nat), f] 94 (0, 0)) ∧ W0.grownBy w' (some p6)
theorem store_at {W : World} {a : Addr} {f u : Value} (hc : W.cell? a = some u) (hf : W.frozen? a = false) (h1 : f.oneCell' = true) : (store a f).run Tryz.prog W = .ok () (W.setCell a f) := by
  rw [run_store _ _ _ _ _ h1, hc]; simp [hf]
theorem codF_one {W : World} {p6 K : Nat} {u1 u2 : Value} (h : W.heap[p6]? = some (.cells #[u1, u2] 94 (0, 0))) : (W.setCell ⟨p6, 0, none⟩ (.int .i64 (K : Nat))).heap[p6]? = some (.cells #[.int .i64 (K : Nat), u2] 94 (0, 0)) := by
  rw [heap_setCell_same W p6 0 _ _ _ h]; rfl
theorem codF_store {W0 W : World} {p6 K : Nat} {f v u1 u2 : Value} (h : W.heap[p6]? = some (.cells #[u1, u2] 94 (0, 0))) (hb : Below W0.heap.size W0 W) : codF W0 p6 K f v ((W.setCell ⟨p6, 0, none⟩ (.int .i64 (K : Nat))).setCell ⟨p6, 1, none⟩ f) := by
  have h1 : (W.setCell ⟨p6, 0, none⟩ (.int .i64 (K : Nat))).heap[p6]? = some (.cells #[.int .i64 (K : Nat), u2] 94 (0, 0)) := by rw [heap_setCell_same W p6 0 _ _ _ h]; rfl
  have h2 : ((W.setCell ⟨p6, 0, none⟩ (.int .i64 (K : Nat))).setCell ⟨p6, 1, none⟩ f).heap[p6]? = some (.cells #[.int .i64 (K : Nat), f] 94 (0, 0)) := by rw [heap_setCell_same _ p6 1 _ _ _ h1]; rfl
  refine ⟨h2, ⟨hb.os, hb.tape, hb.output, by have := hb.size; simpa using this, fun k hk hne => ?_⟩⟩
  have hk6 : k ≠ p6 := fun e => hne (by rw [e])
  rw [heap_setCell_other _ ⟨p6, 1, none⟩ k f (fun e => hk6 e), heap_setCell_other _ ⟨p6, 0, none⟩ k _ (fun e => hk6 e)]
  exact hb.block k hk

/-- What each operation of the last region leaves. -/
def codU (h h3 g1 k1 s1 g2 k2 K gl nl cl gm ml cm p3 p4 p5 p7 p8 p9 : Nat) (j : Nat) (v : Value) (_ : World) : Prop := match j with
  | 0 => v = .int .i64 (h : Nat)
  | 1 => v = .int .i64 (h3 : Nat)
  | 2 => v = .slice (some ⟨g1, 0, none⟩) 286 286
  | 3 => v = .slice (some ⟨gl, 0, none⟩) nl cl
  | 4 => v = .int .i64 (k1 : Nat)
  | 5 => v = .int .i64 (s1 : Nat)
  | 6 => v = .slice (some ⟨g2, 0, none⟩) 30 30
  | 7 => v = .slice (some ⟨gm, 0, none⟩) ml cm
  | 8 => v = .int .i64 (k2 : Nat)
  | 9 => v = .int .i64 (K : Nat)
  | 10 => v = .func (.func 71) #[] #[.pointer (some ⟨p5, 0, none⟩), .pointer (some ⟨p7, 0, none⟩), .pointer (some ⟨p4, 0, none⟩), .pointer (some ⟨p8, 0, none⟩), .pointer (some ⟨p9, 0, none⟩), .pointer (some ⟨p3, 0, none⟩)]
  | 11 => v = .agg #[.int .i64 (K : Nat), .func (.func 71) #[] #[.pointer (some ⟨p5, 0, none⟩), .pointer (some ⟨p7, 0, none⟩), .pointer (some ⟨p4, 0, none⟩), .pointer (some ⟨p8, 0, none⟩), .pointer (some ⟨p9, 0, none⟩), .pointer (some ⟨p3, 0, none⟩)]]
  | 12 => v = undef
  | _ => True
def codFin (W0 : World) (p6 K p3 p4 p5 p7 p8 p9 : Nat) (j : Nat) (v : Value) (w : World) : Prop := match j with
  | 12 => codF W0 p6 K (.func (.func 71) #[] #[.pointer (some ⟨p5, 0, none⟩), .pointer (some ⟨p7, 0, none⟩), .pointer (some ⟨p4, 0, none⟩), .pointer (some ⟨p8, 0, none⟩), .pointer (some ⟨p9, 0, none⟩), .pointer (some ⟨p3, 0, none⟩)]) v w
  | _ => True
theorem codFin_keep {W0 W W' : World} {p6 K p3 p4 p5 p7 p8 p9 : Nat} (j : Nat) (u0 : Value) (h12 : j = 12 → False) (h : codFin W0 p6 K p3 p4 p5 p7 p8 p9 j u0 W) : codFin W0 p6 K p3 p4 p5 p7 p8 p9 j u0 W' := by
  unfold codFin at *
  split
  · exact (h12 rfl).elim
  · trivial
theorem ret_blk (tmps : Array Value) (w : World) (R : Nat) (K : Nat) (f : Value) (hp : tmps.getD 6 undef = .pointer (some ⟨R, 0, none⟩)) (hg : w.heap[R]? = some (.cells #[.int .i64 (K : Nat), f] 94 (0, 0))) :
    (results Tryz.f49 tmps).run Tryz.prog w = .ok (.agg #[.int .i64 (K : Nat), f]) w :=
  results_cell_row rfl tmps w R 94 #[.int .i64 (K : Nat), f] (0, 0) _ hp hg Tryz.underlying94 rfl (by kernel_rfl)

/-- The block that codedBlock hands back. -/
structure CoB (B : Nat) (w' : World) (a : Option Addr) (q c : Nat) (l : List Tok) (own last : Bool) (r : Value) : Prop where
  is : ∃ (K p3 p4 p5 p7 p8 p9 gl nl cl gm ml cm kind : Nat) (N M : List Nat), r = .agg #[.int .i64 (K : Nat), .func (.func 71) #[] #[.pointer (some ⟨p5, 0, none⟩), .pointer (some ⟨p7, 0, none⟩), .pointer (some ⟨p4, 0, none⟩), .pointer (some ⟨p8, 0, none⟩), .pointer (some ⟨p9, 0, none⟩), .pointer (some ⟨p3, 0, none⟩)]] ∧
    Held w' p5 p7 p4 p8 p9 p3 gl nl cl gm ml cm a q c last own kind N M l ∧ (∀ p ∈ [p3, p4, p5, p7, p8, p9, gl, gm], B ≤ p ∧ p < w'.heap.size) ∧ N.length = nl ∧ M.length = ml ∧ Fit N M l ∧ kind = (if own then 2 else 1) ∧ (own = true → Rng N M) ∧ (own = false → N = fxL ∧ M = fxD) ∧ nl ≤ 1000 ∧ ml ≤ 1000 ∧
    ∃ X, CodX own last N M l X ∧ K = X.length

/-- What there is ahead of the last region. -/
structure St9 (w W0 : World) (a : Option Addr) (q c : Nat) (l : List Tok) (own last : Bool) (kind p3 p4 p5 p6 p7 p8 p9 p12 gl nl cl gm ml cm g1 g2 : Nat) (vh : Value) (hdr : List Bool) (N M : List Nat) : Prop where
  b : Below w.heap.size w W0
  x3 : Bx W0 p3 (.slice a q c) 48
  x4 : Bx W0 p4 (.bool own) 4
  x5 : Bx W0 p5 (.bool last) 4
  x6 : W0.heap[p6]? = some (.cells #[.int .i64 0, .nilFunc] 94 (0, 0))
  x7 : Bx W0 p7 (.int .i64 kind) 3
  x8 : Bx W0 p8 (.slice (some ⟨gl, 0, none⟩) nl cl) 36
  x9 : Bx W0 p9 (.slice (some ⟨gm, 0, none⟩) ml cm) 36
  wh : WrAt W0 p12 vh hdr
  n1 : AtN W0 g1 286 (litC l)
  n2 : AtN W0 g2 30 (dstC l)
  iN : IsInts W0 (some ⟨gl, 0, none⟩) (ints N)
  iM : IsInts W0 (some ⟨gm, 0, none⟩) (ints M)
  iT : IsToks w a l
  hq : l.length = q
  q6 : q ≤ 6000
  ge : ∀ p ∈ [p3, p4, p5, p7, p8, p9, gl, gm], w.heap.size ≤ p ∧ p ≠ p6
  g6 : w.heap.size ≤ p6
  hN : N.length = nl
  hM : M.length = ml
  fit : Fit N M l
  f15 : (∀ x ∈ N, x ≤ 15) ∧ ∀ x ∈ M, x ≤ 15
  kd : kind = if own then 2 else 1
  rng : own = true → Rng N M
  fix : own = false → N = fxL ∧ M = fxD
  small : nl ≤ 1000 ∧ ml ≤ 1000
  hdr_ : (own = false ∧ hdr = []) ∨ (own = true ∧ ∃ k O Y, IsHdr N M k O Y ∧ HdrOf N M k O Y ∧ hdr = hdrB N M k O Y)
  hl : hdr.length ≤ 100000
theorem St9.done {w W0 w' : World} {a : Option Addr} {q c : Nat} {l : List Tok} {own last : Bool} {kind p3 p4 p5 p6 p7 p8 p9 p12 gl nl cl gm ml cm g1 g2 K : Nat} {vh v : Value} {hdr : List Bool} {N M : List Nat} (h : St9 w W0 a q c l own last kind p3 p4 p5 p6 p7 p8 p9 p12 gl nl cl gm ml cm g1 g2 vh hdr N M)
    (g : codF W0 p6 K (.func (.func 71) #[] #[.pointer (some ⟨p5, 0, none⟩), .pointer (some ⟨p7, 0, none⟩), .pointer (some ⟨p4, 0, none⟩), .pointer (some ⟨p8, 0, none⟩), .pointer (some ⟨p9, 0, none⟩), .pointer (some ⟨p3, 0, none⟩)]) v w') (hK : K = 3 + hdr.length + (wrBits N M l).length) :
    CoB w.heap.size w' a q c l own last (.agg #[.int .i64 (K : Nat), .func (.func 71) #[] #[.pointer (some ⟨p5, 0, none⟩), .pointer (some ⟨p7, 0, none⟩), .pointer (some ⟨p4, 0, none⟩), .pointer (some ⟨p8, 0, none⟩), .pointer (some ⟨p9, 0, none⟩), .pointer (some ⟨p3, 0, none⟩)]]) ∧ Below w.heap.size w w' := by
  obtain ⟨_, g2⟩ := g
  have hB : Below w.heap.size w w' := h.b.grown g2 h.b.size (fun j hj => by cases hj; exact h.g6)
  have blk : ∀ p, p < W0.heap.size → p ≠ p6 → w'.heap[p]? = W0.heap[p]? := fun p hp hne => g2.block p hp (fun e => hne (by cases e; rfl))
  have m : ∀ p, p ∈ [p3, p4, p5, p7, p8, p9, gl, gm] → w.heap.size ≤ p ∧ p ≠ p6 := h.ge
  have gll : gl < W0.heap.size ∧ gm < W0.heap.size := by
    have hn := h.fit.2.1
    have hm := h.fit.2.2
    constructor
    · obtain ⟨b', _, e, hb', _⟩ := h.iN (by
        rw [ints_length]
        rcases Nat.eq_zero_or_pos N.length with h0 | h0
        · exfalso
          unfold cvB at hn
          rw [Bool.and_eq_true, ints_nats] at hn
          have := (covB_iff _ _ _).1 hn.2 256 (by decide) (end_needs l)
          rw [List.getD_eq_getElem?_getD, List.getElem?_eq_none (by omega)] at this
          exact this rfl
        · exact h0)
      cases e; exact hb'
    · rcases Nat.eq_zero_or_pos M.length with h0 | h0
      · rcases Bool.eq_false_or_eq_true own with ho | ho
        · have := (h.rng ho).2.1; omega
        · have := (h.fix ho).2
          rw [this] at h0
          exact absurd h0 (by decide)
      · obtain ⟨b', _, e, hb', _⟩ := h.iM (by rw [ints_length]; exact h0)
        cases e; exact hb'
  have lt : ∀ p ∈ [p3, p4, p5, p7, p8, p9, gl, gm], p < W0.heap.size := by
    intro p hp
    simp only [List.mem_cons, List.not_mem_nil, or_false] at hp
    rcases hp with rfl | rfl | rfl | rfl | rfl | rfl | rfl | rfl
    · exact h.x3.lt
    · exact h.x4.lt
    · exact h.x5.lt
    · exact h.x7.lt
    · exact h.x8.lt
    · exact h.x9.lt
    · exact gll.1
    · exact gll.2
  refine ⟨⟨K, p3, p4, p5, p7, p8, p9, gl, nl, cl, gm, ml, cm, kind, N, M, rfl, ?_, fun p hp => ⟨(m p hp).1, Nat.lt_of_lt_of_le (lt p hp) g2.size⟩, h.hN, h.hM, h.fit, h.kd, h.rng, h.fix, h.small.1, h.small.2, ?_⟩, hB⟩
  · have kb : ∀ p, p ∈ [p3, p4, p5, p7, p8, p9, gl, gm] → w'.heap[p]? = W0.heap[p]? := fun p hp => blk p (lt p hp) (m p hp).2
    exact ⟨(h.x5.block (kb _ (by simp))).cell, (h.x7.block (kb _ (by simp))).cell, (h.x4.block (kb _ (by simp))).cell, (h.x8.block (kb _ (by simp))).cell, (h.x9.block (kb _ (by simp))).cell, (h.x3.block (kb _ (by simp))).cell,
      ints_block h.iN (Nat.lt_of_lt_of_le gll.1 g2.size) (kb _ (by simp)), ints_block h.iM (Nat.lt_of_lt_of_le gll.2 g2.size) (kb _ (by simp)), h.iT.below hB (Nat.le_refl _)⟩
  · rcases h.hdr_ with ⟨h1, h2⟩ | ⟨h1, k, O, Y, h2, h3, h4⟩
    · refine ⟨_, .inl ⟨h1, rfl⟩, ?_⟩
      rw [hK, h2]; simp; omega
    · refine ⟨_, .inr ⟨h1, k, O, Y, h2, h3, rfl⟩, ?_⟩
      rw [hK, h4]
      simp only [List.length_append, List.length_cons, List.length_nil]
      omega

end Go.Proofs.YtkpieakgpnnonaaGreat.Dfl
