/-
  Rows of numbers that are read, images as values, what a call touches: memory of layer 14 (screen).
-/
import Derived.Test.YtlamdgdegmjljaaRegRow
import Derived.Test.YtlamdgdegmjljaaScrMath
import Derived.Test.YtlamdgdegmjljaaRegVal
import Derived.Test.YtlamdgdegmjljaaRetCell
import Derived.WalkKit
import Derived.Deep.DeepCutAuto
namespace Go.Proofs.Ytlamdgdegmjljaa.Scr
open Go.ChangeShapes Go.WideShapes Go.ChangeAt Go.RowKit Lz RowG RegVal Reg
set_option linter.unusedVariables false
set_option maxRecDepth 100000

theorem retB {a b : Bool} (h : a = b) : Ending.returned (Value.bool a) = Ending.returned (.bool b) := by rw [h]
theorem retI {k : IntKind} {a b : Int} (h : a = b) : Ending.returned (Value.int k a) = Ending.returned (.int k b) := by rw [h]
theorem valN {k : IntKind} {a b : Int} (h : a = b) : Value.int k a = Value.int k b := by rw [h]
theorem alloc_size (w : World) (o : Obj) : (w.alloc o).heap.size = w.heap.size + 1 := by simp [World.alloc, -World.alloc_eq]
theorem below_q {B : Nat} {w w' : World} (h : Below B w w') (n : Nat) : Below B w (w'.drewN n) := ⟨h.os, h.tape, h.output, h.size, h.block⟩
theorem below_n {w a b : World} (h : Below w.heap.size w a) (k : Below a.heap.size a b) : Below w.heap.size w b := h.trans (k.mono h.size)
theorem below_set {w w' : World} {n : Nat} (h : Below n w w') {g : Nat} (hg : n ≤ g) (o : Nat) (v : Value) : Below n w (w'.setCell ⟨g, o, none⟩ v) :=
  ⟨h.os, h.tape, h.output, by simpa using h.size, fun i hi => (heap_setCell_other w' ⟨g, o, none⟩ i v (fun e => by have : g = i := e.symm; omega)).trans (h.block i hi)⟩
theorem setAt {w : World} {R i : Nat} {cs cs' : Array Value} {T : TypeId} {v : Value} (h : w.heap[R]? = some (.cells cs T (0, 0))) (e : cs.setIfInBounds i v = cs') : (w.setCell ⟨R, i, none⟩ v).heap[R]? = some (.cells cs' T (0, 0)) := by
  rw [heap_setCell_same _ R i _ _ v h, e]
/-- One block that was just made. -/
theorem box1 (w : World) (x : Array Value) (T : TypeId) : Below w.heap.size w (w.alloc (.cells x T)) ∧ ∀ i v, x[i]? = some v → (w.alloc (.cells x T)).cell? ⟨w.heap.size, i, none⟩ = some v := by
  refine ⟨(Below.refl _ w).alloc (Nat.le_refl _) _, fun i v h => ?_⟩
  have := heap_alloc_new w (.cells x T)
  simp only [World.cell?, this]
  simpa using h

/-- A row of numbers that is read. -/
def SI (w : World) (v : Value) (l : List Int) : Prop := Sees w 1 v l.length (ints l)
theorem SI.form {w : World} {v : Value} {l : List Int} (h : SI w v l) : ∃ a cap, v = .slice a l.length cap := Sees.form h
theorem SI.below {w w' : World} {v : Value} {l : List Int} (h : SI w v l) (k : Below w.heap.size w w') : SI w' v l := Sees.below h k (Nat.le_refl _)
theorem SI.drewN {w : World} {v : Value} {l : List Int} (h : SI w v l) (n : Nat) : SI (w.drewN n) v l := h
theorem SI.nil (w : World) : SI w (.slice none 0 0) [] := ⟨rfl, fun u hu => by simp [ints] at hu, .inl ⟨rfl, rfl⟩⟩
theorem SI.cells {w : World} {v : Value} {l : List Int} (h : SI w v l) : ∃ a cap, v = .slice a l.length cap ∧ (0 < l.length → ∃ g off, a = some ⟨g, off, none⟩ ∧ g < w.heap.size ∧ ∀ i, i < l.length → w.cell? ⟨g, off + i, none⟩ = some (.int .i64 (px l i))) := by
  rcases h.2.2 with ⟨rfl, h0⟩ | ⟨g, off, cap, rfl, hg, hc⟩
  · exact ⟨none, 0, by rw [h0], fun h => by omega⟩
  · exact ⟨_, cap, rfl, fun _ => ⟨g, off, rfl, hg, fun i hi => by rw [px_get hi]; exact hc i _ (ints_get hi)⟩⟩
/-- The same, of one that is handed in: of an empty one nothing is known but that it is empty. -/
def SW (w : World) (v : Value) (l : List Int) : Prop := ∃ a cap, v = .slice a l.length cap ∧ (a = none → l.length = 0 ∧ cap = 0) ∧ (0 < l.length → ∃ g off, a = some ⟨g, off, none⟩ ∧ g < w.heap.size ∧ ∀ i, i < l.length → w.cell? ⟨g, off + i, none⟩ = some (.int .i64 (px l i)))
/-- A slice's capacity. -/
def Room (v : Value) : Prop := ∀ a n cap, v = .slice a n cap → n ≤ cap
theorem room_of {a : Option Addr} {n cap : Nat} (h : n ≤ cap) : Room (.slice a n cap) := fun _ _ _ e => by cases e; exact h
theorem _root_.Go.Proofs.Ytlamdgdegmjljaa.Reg.IntsAt.room {B : Nat} {w : World} {v : Value} {l : List Int} (h : IntsAt B w v l) : Room v := by
  rcases h.1.2 with ⟨rfl, h0⟩ | ⟨g, cap, cur, rfl, _, _, hnc, _⟩
  · exact room_of (Nat.le_refl _)
  · exact room_of hnc
theorem SI.sw {w : World} {v : Value} {l : List Int} (h : SI w v l) : SW w v l := by
  rcases h.2.2 with ⟨rfl, h0⟩ | ⟨g, off, cap, rfl, hg, hc⟩
  · exact ⟨none, 0, by rw [h0], fun _ => ⟨h0, rfl⟩, fun h => by omega⟩
  · exact ⟨_, cap, rfl, fun e => by simp at e, fun _ => ⟨g, off, rfl, hg, fun i hi => by rw [px_get hi]; exact hc i _ (ints_get hi)⟩⟩
theorem SW.below {w w' : World} {v : Value} {l : List Int} (h : SW w v l) (k : Below w.heap.size w w') : SW w' v l := by
  obtain ⟨a, cap, e, hn, hc⟩ := h
  refine ⟨a, cap, e, hn, fun h0 => ?_⟩
  obtain ⟨g, off, e2, hg, hc⟩ := hc h0
  exact ⟨g, off, e2, Nat.lt_of_lt_of_le hg k.size, fun i hi => (k.cell (p := ⟨g, off + i, none⟩) hg).trans (hc i hi)⟩
theorem SW.cells {w : World} {v : Value} {l : List Int} (h : SW w v l) : ∃ a cap, v = .slice a l.length cap ∧ (0 < l.length → ∃ g off, a = some ⟨g, off, none⟩ ∧ g < w.heap.size ∧ ∀ i, i < l.length → w.cell? ⟨g, off + i, none⟩ = some (.int .i64 (px l i))) := by
  obtain ⟨a, cap, e, _, hc⟩ := h
  exact ⟨a, cap, e, hc⟩
theorem SW.lt {w : World} {v : Value} {l : List Int} (h : SW w v l) (h0 : 0 < l.length) : ∀ k, v.ownBlock = some k → k < w.heap.size := by
  obtain ⟨a, cap, rfl, _, hc⟩ := h
  obtain ⟨g, off, rfl, hg, _⟩ := hc h0
  intro k hk
  simp [Value.ownBlock] at hk
  omega
theorem SW.read {w : World} {v : Value} {l : List Int} (h : SW w v l) : ∃ a n cap, v = .slice a n cap ∧ l.length = n ∧ ∀ W', Below w.heap.size w W' → 0 < n → ∃ g off, a = some ⟨g, off, none⟩ ∧ ∀ i, i < n → W'.cell? ⟨g, off + i, none⟩ = some (.int .i64 (px l i)) := by
  obtain ⟨a, cap, rfl, _, hc⟩ := h
  refine ⟨a, l.length, cap, rfl, rfl, fun W' k h0 => ?_⟩
  obtain ⟨g, off, rfl, hg, hc⟩ := hc h0
  exact ⟨g, off, rfl, fun i hi => (k.cell (p := ⟨g, off + i, none⟩) hg).trans (hc i hi)⟩
theorem _root_.Go.Proofs.Ytlamdgdegmjljaa.Reg.IntsAt.si {B : Nat} {w : World} {v : Value} {l : List Int} (h : IntsAt B w v l) : SI w v l := RowAt.sees h
/-- What a row has, whatever stands ahead of it. -/
theorem SI.of_cells {w : World} {g off cap : Nat} {l : List Int} (hg : g < w.heap.size) (h : ∀ i, i < l.length → w.cell? ⟨g, off + i, none⟩ = some (.int .i64 (px l i))) : SI w (.slice (some ⟨g, off, none⟩) l.length cap) l := by
  refine ⟨by simp [ints], fun u hu => ?_, .inr ⟨g, off, cap, rfl, hg, fun j u hj => ?_⟩⟩
  · unfold ints at hu
    obtain ⟨x, _, rfl⟩ := List.mem_map.1 hu
    rfl
  · have hl : j < l.length := by
      have := (List.getElem?_eq_some_iff.1 hj).1
      simpa [ints] using this
    rw [h j hl, px_get hl, ← hj, ints_get hl]
/-- An image as a value. -/
def imgV (W H : Int) (v : Value) : Value := .agg #[.int .i64 W, .int .i64 H, v]

/-- What a call touches beside what it makes: the blocks of F. -/
structure Touch (w w' : World) (F : List Nat) : Prop where
  os : w'.os = w.os
  tape : w'.tape = w.tape
  output : w'.output = w.output
  size : w.heap.size ≤ w'.heap.size
  block : ∀ k, k < w.heap.size → k ∉ F → w'.heap[k]? = w.heap[k]?
theorem Touch.of_below {w w' : World} (h : Below w.heap.size w w') (F : List Nat) : Touch w w' F := ⟨h.os, h.tape, h.output, h.size, fun k hk _ => h.block k hk⟩
theorem Touch.below {w0 w w' : World} {B : Nat} {F : List Nat} (h : Below B w0 w) (k : Touch w w' F) (hF : ∀ i ∈ F, B ≤ i) (hB : B ≤ w.heap.size) : Below B w0 w' :=
  h.trans ⟨k.os, k.tape, k.output, k.size, fun i hi => k.block i (by omega) (fun hm => by have := hF i hm; omega)⟩
/-- A row that is none of these blocks. -/
def Off (v : Value) (F : List Nat) : Prop := ∀ k, v.ownBlock = some k → k ∉ F
theorem SI.lt {w : World} {v : Value} {l : List Int} (h : SI w v l) : ∀ k, v.ownBlock = some k → k < w.heap.size := by
  intro k hk
  rcases h.2.2 with ⟨rfl, _⟩ | ⟨g, off, cap, rfl, hg, _⟩
  · simp [Value.ownBlock] at hk
  · simp [Value.ownBlock] at hk
    omega
theorem SI.touch {w w' : World} {v : Value} {l : List Int} {F : List Nat} (h : SI w v l) (k : Touch w w' F) (hF : Off v F) : SI w' v l := by
  refine ⟨h.1, h.2.1, ?_⟩
  rcases h.2.2 with h1 | ⟨g, off, cap, rfl, hg, hc⟩
  · exact .inl h1
  · refine .inr ⟨g, off, cap, rfl, Nat.lt_of_lt_of_le hg k.size, fun j u hj => ?_⟩
    have e := k.block g hg (hF g rfl)
    rw [← hc j u hj]
    simp only [World.cell?, e]
/-- The blocks that come of those: some of them, or new ones. -/
def From (w : World) (F F' : List Nat) : Prop := ∀ k ∈ F', k ∈ F ∨ w.heap.size ≤ k
theorem Off.from {w : World} {v : Value} {l : List Int} {F F' : List Nat} (h : Off v F) (hv : SI w v l) (hF : From w F F') : Off v F' := by
  intro k hk hm
  rcases hF k hm with h1 | h1
  · exact h k hk h1
  · have := hv.lt k hk
    omega
theorem Off.near {w : World} {v v' : Value} {F : List Nat} (h : Off v F) (hn : Near w v v') (hF : ∀ k ∈ F, k < w.heap.size) : Off v' F := by
  intro k hk hm
  rcases hn k hk with h1 | h1
  · exact h k h1 hm
  · have := hF k hm
    omega
theorem From.base {w : World} {B : Nat} {F F' : List Nat} (h : From w F F') (hF : ∀ k ∈ F, B ≤ k) (hB : B ≤ w.heap.size) : ∀ k ∈ F', B ≤ k := by
  intro k hk
  rcases h k hk with h1 | h1
  · exact hF k h1
  · omega
set_option maxHeartbeats 1000000 in
theorem refRow_any (u v : Value) (L M : List Int) (w : World) (hL : SW w u L) (hM : SW w v M) (h1 : L.length ≤ 1000000000) (h2 : M.length ≤ 1000000000) :
    Calls Try.prog 23 #[u, v] w fun e w' => e = .returned (.bool (decide (L = M))) ∧ ∃ q, w' = w.drewN q := by
  obtain ⟨a, c, rfl, cL⟩ := hL.cells
  obtain ⟨b, d, rfl, cM⟩ := hM.cells
  clear hL hM
  obtain ⟨n, hn⟩ : ∃ n, L.length = n := ⟨_, rfl⟩
  obtain ⟨m, hm⟩ : ∃ m, M.length = m := ⟨_, rfl⟩
  have HL := Lib.hid cL
  have HM := Lib.hid cM
  have hLn := Lib.hid hn
  have hMn := Lib.hid hm
  rw [hn] at h1 HL ⊢
  rw [hm] at h2 HM ⊢
  clear cL cM hn hm
  by_cases hnm : n = m
  · subst hnm
    go_enter Try.func23, Try.ntmps23
    go_wp2_with fail
    go_loopw [5] (fun i wr => ∃ k q : Nat, k ≤ n ∧ i = .int .i64 k ∧ L.take k = M.take k ∧ wr = w.drewN q) (fun i _ => n - (intOf i).toNat)
    case atStart => exact ⟨0, 0, Nat.zero_le _, rfl, rfl, rfl⟩
    case round =>
      obtain ⟨k, q, hk, rfl, hT, rfl⟩ := hrel
      have HT := Lib.hid hT
      clear hT
      by_cases hlt : k < n
      · obtain ⟨A, o, rfl, _, f1⟩ := HL.out (by omega)
        obtain ⟨B, p, rfl, _, f2⟩ := HM.out (by omega)
        have c1 := f1 k hlt
        have c2 := f2 k hlt
        clear f1 f2
        have tk : ∀ l : List Int, k < l.length → l.take (k + 1) = l.take k ++ [px l k] := fun l hl => by rw [List.take_succ_eq_append_getElem hl, px_get hl]
        have t1 := Lib.hid (tk L (by rw [hLn.out]; exact hlt))
        have t2 := Lib.hid (tk M (by rw [hMn.out]; exact hlt))
        clear tk
        by_cases he : px L k = px M k
        · have HE := Lib.hid he
          rw [← he] at c2
          clear he
          generalize px L k = x at *
          go_wp2_with fail
          go_quiet (fail)
          go_wp2_with fail
          refine ⟨⟨k + 1, q + nq, by omega, by go_num, ?_, rfl⟩, by simp [intOf]; omega⟩
          rw [t1.out, t2.out, HT.out, HE.out]
        · have hd : (px L k == px M k) = false := by simpa using he
          have hne : decide (L = M) = false := decide_eq_false (fun e => he (by rw [e]))
          have HN := Lib.hid hne
          clear he t1 t2 hne
          generalize px L k = x at *
          generalize px M k = y at *
          go_wp2_with fail
          go_quiet (fail)
          go_wp2_with fail
          go_ret
          exact ⟨retB HN.out.symm, q + nq, by rw [World.drewN_drewN]⟩
      · obtain rfl : k = n := by omega
        have e : L = M := by
          have := HT.out
          rwa [List.take_of_length_le (by rw [hLn.out]; exact Nat.le_refl _), List.take_of_length_le (by rw [hMn.out]; exact Nat.le_refl _)] at this
        have HN := Lib.hid (decide_eq_true e)
        clear e
        go_wp2_with fail
        go_ret
        exact ⟨retB HN.out.symm, q, rfl⟩
  · have hne : decide (L = M) = false := decide_eq_false (fun e => hnm (by rw [← hLn.out, ← hMn.out, e]))
    have HN := Lib.hid hne
    have d1 : ((n : Int) == m) = false := by simp; omega
    have d2 : (n == m) = false := by simp; omega
    clear hne
    go_enter Try.func23, Try.ntmps23
    go_wp2_with fail
    go_ret
    exact ⟨retB HN.out.symm, 0, rfl⟩
set_option maxHeartbeats 1000000 in
theorem refSameImage_any (W H W2 H2 : Int) (u v : Value) (L M : List Int) (w : World) (hL : SI w u L) (hM : SI w v M) (h1 : L.length ≤ 1000000000) (h2 : M.length ≤ 1000000000) :
    Calls Try.prog 25 #[imgV W H u, imgV W2 H2 v] w fun e w' => e = .returned (.bool (decide (W = W2 ∧ H = H2 ∧ L = M))) ∧ Below w.heap.size w w' := by
  obtain ⟨b1, cx⟩ := box1 w #[.int .i64 W, .int .i64 H, u] 32
  obtain ⟨b2, cy⟩ := box1 (w.alloc (.cells #[.int .i64 W, .int .i64 H, u] 32)) #[.int .i64 W2, .int .i64 H2, v] 32
  have hz := alloc_size w (.cells #[.int .i64 W, .int .i64 H, u] 32)
  have bel := b1.trans (b2.mono b1.size)
  have cx := fun i v h => (b2.cell (p := ⟨w.heap.size, i, none⟩) (by show w.heap.size < _; omega)).trans (cx i v h)
  rw [hz] at cy
  obtain ⟨w1, hw1⟩ : ∃ w1, (w.alloc (.cells #[.int .i64 W, .int .i64 H, u] 32)).alloc (.cells #[.int .i64 W2, .int .i64 H2, v] 32) = w1 := ⟨_, rfl⟩
  rw [hw1] at bel cx cy
  have c0 := cx 0 _ rfl
  have c1 := cx 1 _ rfl
  have c2 := cx 2 _ rfl
  have c3 := cy 0 _ rfl
  have c4 := cy 1 _ rfl
  have c5 := cy 2 _ rfl
  have R := Lib.hid (refRow_any u v L M w1 (hL.below bel).sw (hM.below bel).sw h1 h2)
  have BB := Lib.hid bel
  have fu := hL.form
  have fv := hM.form
  clear cx cy hL hM b1 b2 hz bel
  generalize L.length = n1 at *
  generalize M.length = n2 at *
  obtain ⟨a, c, rfl⟩ := fu
  obtain ⟨b, d, rfl⟩ := fv
  unfold imgV
  by_cases q1 : W = W2
  · by_cases q2 : H = H2
    · subst q1 q2
      have E : Hid (decide (L = M) = decide (W = W ∧ H = H ∧ L = M)) := Lib.hid (by simp)
      generalize decide (L = M) = rb at *
      go_enter Try.func25, Try.ntmps25
      go_wp2_with fail
      refine R.out.mono ?_
      rintro r w2 ⟨rfl, q, rfl⟩
      go_wp2_with fail
      go_ret
      exact ⟨retB E.out, below_q BB.out q⟩
    · subst q1
      have d2 : (H == H2) = false := by simpa using q2
      clear R
      go_enter Try.func25, Try.ntmps25
      go_wp2_with fail
      go_ret
      exact ⟨retB (decide_eq_false (fun h => q2 h.2.1)).symm, BB.out⟩
  · have d1 : (W == W2) = false := by simpa using q1
    clear R
    go_enter Try.func25, Try.ntmps25
    go_wp2_with fail
    go_ret
    exact ⟨retB (decide_eq_false (fun h => q1 h.1)).symm, BB.out⟩
end Go.Proofs.Ytlamdgdegmjljaa.Scr
