/-
  A slice of acts that came in, and the contract of 'over'.
-/
import Derived.Test.YtdgoaccnjlkdcaaBitTwo
import Derived.Lib.SmallJoins
import Derived.Deep.Slices
namespace Go.Proofs.Ytdgoaccnjlkdcaa.Bit
open Go.ChangeShapes Go.WideShapes Go.ChangeAt Go.RowKit
set_option linter.unusedVariables false

structure Act4 where
  K : Int
  N : Int
  V : Int
  S : ByteArray

instance : Inhabited Act4 := ⟨⟨0, 0, 0, ⟨#[]⟩⟩⟩

/-- The cells of the act at place i. -/
def ActCells (w : World) (b o : Nat) (c : Act4) : Prop :=
  w.cell? ⟨b, o, none⟩ = some (.int .i64 c.K) ∧ w.cell? ⟨b, o + 1, none⟩ = some (.int .i64 c.N) ∧ w.cell? ⟨b, o + 2, none⟩ = some (.int .i64 c.V) ∧ w.cell? ⟨b, o + 3, none⟩ = some (.string c.S)

/-- What a walk is told of a slice of acts that came in. -/
def IsActs (w : World) (a : Option Addr) (len : Nat) (A : Nat → Act4) : Prop :=
  len ≤ maxLen ∧ (0 < len → ∃ b off, a = some ⟨b, off, none⟩ ∧ b < w.heap.size ∧ ∀ i, i < len → ActCells w b (off + i * 4) (A i)) ∧
    ∀ i, i < len → (A i).S.size ≤ maxLen ∧ (Lit.int .i64 (A i).K).wf = true ∧ (Lit.int .i64 (A i).N).wf = true ∧ (Lit.int .i64 (A i).V).wf = true

theorem IsActs.below {w w' : World} {a : Option Addr} {len : Nat} {A : Nat → Act4} (h : IsActs w a len A) (k : Below w.heap.size w w') : IsActs w' a len A := by
  obtain ⟨q1, q2, q3⟩ := h
  refine ⟨q1, fun h0 => ?_, q3⟩
  obtain ⟨b, off, e, hb, hc⟩ := q2 h0
  refine ⟨b, off, e, Nat.lt_of_lt_of_le hb k.size, fun i hi => ?_⟩
  obtain ⟨k1, k2, k3, k4⟩ := hc i hi
  exact ⟨(k.cell hb).trans k1, (k.cell hb).trans k2, (k.cell hb).trans k3, (k.cell hb).trans k4⟩

theorem acts_view {H : Type} {enc : TypeId × Value → H} {W : World} {a : Option Addr} {len cap : Nat} {d : DataW H} {p : List MemPlace} (h : DataW.Trod enc Try.prog W 0 (fun _ => true) true 22 (.slice a len cap) d p) :
    ∃ A, IsActs W a len A := by
  obtain ⟨fuel, hf⟩ := h
  rcases Go.Deep.open_slice Try.underlying22 hf with ⟨hcs, _⟩ | ⟨x, l, c, m, n, D, Pl, hcs, _, hl, hm, hmm, _, hx⟩
  · simp [Value.cells] at hcs
    obtain ⟨rfl, rfl, rfl⟩ := hcs
    exact ⟨fun _ => ⟨0, 0, 0, ⟨#[]⟩⟩, by simp, fun h => by omega, fun i hi => by omega⟩
  · simp [Value.cells] at hcs
    obtain ⟨rfl, rfl, rfl⟩ := hcs
    have h4 : Try.prog.cellsOf 31 = 4 := by kernel_rfl
    rw [h4] at hx
    have key : ∀ i, i < len → ∃ c : Act4, (∀ j : Nat, (h : j < 4) → W.cell? ((x.add (i * 4)).add j) = [Value.int .i64 c.K, .int .i64 c.N, .int .i64 c.V, .string c.S][j]?) ∧ c.S.size ≤ maxLen ∧ (Lit.int .i64 c.K).wf = true ∧ (Lit.int .i64 c.N).wf = true ∧ (Lit.int .i64 c.V).wf = true := by
      intro i hi
      have him : i < m := by rw [hmm]; simp; omega
      obtain ⟨cs', h1, h2⟩ := hx i him
      obtain ⟨_, hlen, hcell⟩ := World.cells?_some h1
      obtain ⟨y0, y1, y2, y3, n', _, _, g0, g1, g2, g3⟩ := Go.Joins.trod_struct4 Try.underlying31 h2
      obtain ⟨k0, e0, _, w0⟩ := DataW.trod_int Try.underlying3 g0
      obtain ⟨k1, e1, _, w1⟩ := DataW.trod_int Try.underlying3 g1
      obtain ⟨k2, e2, _, w2⟩ := DataW.trod_int Try.underlying3 g2
      obtain ⟨s, e3, _, w3⟩ := DataW.trod_string Try.underlying9 g3
      have c1 : Try.prog.cellsOf 3 = 1 := by kernel_rfl
      have c2 : Try.prog.cellsOf 9 = 1 := by kernel_rfl
      match cs', hlen with
      | [z0, z1, z2, z3], _ =>
        simp [c1, c2] at e0 e1 e2 e3
        subst e0 e1 e2 e3
        exact ⟨⟨k0, k1, k2, s⟩, fun j hj => hcell j hj, w3, w0, w1, w2⟩
    obtain ⟨A, hA⟩ := Go.Deep.choose_lt (α := Act4) (p := fun i c => (∀ j : Nat, (h : j < 4) → W.cell? ((x.add (i * 4)).add j) = [Value.int .i64 c.K, .int .i64 c.N, .int .i64 c.V, .string c.S][j]?) ∧ c.S.size ≤ maxLen ∧ (Lit.int .i64 c.K).wf = true ∧ (Lit.int .i64 c.N).wf = true ∧ (Lit.int .i64 c.V).wf = true) key
    refine ⟨A, by omega, fun h0 => ?_, fun i hi => (hA i hi).2⟩
    obtain ⟨b, off, spot⟩ := x
    have hspot : spot = none := by
      have := (hA 0 h0).1 0 (by decide)
      simp at this
      simpa [Addr.add] using World.cell?_spot this
    subst hspot
    have hc : ∀ i, i < len → ActCells W b (off + i * 4) (A i) := fun i hi => by
      have hh := (hA i hi).1
      have e : ∀ j, ((⟨b, off, none⟩ : Addr).add (i * 4)).add j = ⟨b, off + i * 4 + j, none⟩ := fun j => by rw [Go.WideShapes.add_plain, Go.WideShapes.add_plain]
      refine ⟨?_, ?_, ?_, ?_⟩
      · have := hh 0 (by decide); rw [e] at this; simpa using this
      · have := hh 1 (by decide); rw [e] at this; simpa using this
      · have := hh 2 (by decide); rw [e] at this; simpa using this
      · have := hh 3 (by decide); rw [e] at this; simpa using this
    exact ⟨b, off, rfl, World.block_lt_of_cell? W _ (hc 0 h0).1, hc⟩


/-- Are acts more than is looked at? -/
def overB (len : Nat) (A : Nat → Act4) : Bool := decide (60 < len) || (List.range len).any fun i => decide (60 < (A i).S.size)

theorem overB_no {len : Nat} {A : Nat → Act4} (h1 : len ≤ 60) (h : ∀ i, i < len → (A i).S.size ≤ 60) : overB len A = false := by
  unfold overB
  simp only [Bool.or_eq_false_iff, decide_eq_false_iff_not, List.any_eq_false, List.mem_range, decide_eq_true_eq]
  exact ⟨by omega, fun i hi => by have := h i hi; omega⟩

theorem overB_yes {len : Nat} {A : Nat → Act4} (h : overB len A = false) : len ≤ 60 ∧ ∀ i, i < len → (A i).S.size ≤ 60 := by
  unfold overB at h
  simp only [Bool.or_eq_false_iff, decide_eq_false_iff_not, List.any_eq_false, List.mem_range, decide_eq_true_eq] at h
  exact ⟨by omega, fun i hi => by have := h.2 i hi; omega⟩

theorem overB_at {len : Nat} {A : Nat → Act4} {i : Nat} (hi : i < len) (h : 60 < (A i).S.size) : overB len A = true := by
  cases ho : overB len A with
  | true => rfl
  | false => have := (overB_yes ho).2 i hi; omega

theorem over_any (a : Option Addr) (len cap : Nat) (A : Nat → Act4) (w : World) (h : IsActs w a len A) :
    Calls Try.prog 9 #[.slice a len cap] w fun e w' => e = .returned (.bool (overB len A)) ∧ w = w' := by
  obtain ⟨hm, hc, hs⟩ := h
  unfold maxLen at hm hs
  by_cases h1 : 60 < len
  · have e : overB len A = true := by unfold overB; simp [h1]
    rw [e]; clear e hc hs
    go_enter Try.func9, Try.ntmps9
    go_wp2
    go_ret
    exact ⟨rfl, rfl⟩
  have q : len ≤ 60 := by omega
  clear h1 hm
  by_cases h0 : len = 0
  · subst h0
    have e : overB 0 A = false := overB_no (by omega) (fun i hi => by omega)
    rw [e]; clear e hc hs q
    go_enter Try.func9, Try.ntmps9
    go_wp2
    refine wp_loop_rounds 1 ?_
    rw [rounds_succ]
    go_wp2
    go_ret
    exact ⟨rfl, rfl⟩
  obtain ⟨b, off, rfl, hb, hcell⟩ := hc (by omega)
  have HC := Lib.hid hcell
  have HS := Lib.hid hs
  clear hc hcell hs hb h0
  go_enter Try.func9, Try.ntmps9
  go_wp2
  go_loop [3] (fun i => ∃ k : Nat, k ≤ len ∧ i = .int .i64 k ∧ Hid (∀ j, j < k → (A j).S.size ≤ 60)) (fun i => len - (intOf i).toNat)
  case atStart => exact ⟨0, Nat.zero_le _, rfl, fun j hj => by omega⟩
  case round =>
    obtain ⟨k, hk, rfl, hall⟩ := hrel
    by_cases hlt : k < len
    · obtain ⟨_, _, _, c3⟩ := HC.out k hlt
      have i0 : (0 : Int) ≤ k := by omega
      have i1 : (k : Int) < len := by omega
      obtain ⟨s, hs⟩ : ∃ s, (A k).S = s := ⟨_, rfl⟩
      rw [hs] at c3
      have hz : s.size ≤ 9223372036854775807 := by rw [← hs]; exact (HS.out k hlt).1
      have HS1 := Lib.hid hs
      clear hs
      by_cases hz60 : 60 < s.size
      · go_wp2
        go_ret
        exact ⟨by rw [overB_at hlt (by rw [HS1.out]; exact hz60)]; rfl, rfl⟩
      · go_wp2
        refine ⟨⟨k + 1, by omega, by go_num, fun j hj => ?_⟩, by simp [intOf]; omega⟩
        rcases (show j < k ∨ j = k by omega) with h | rfl
        · exact hall.out j h
        · rw [HS1.out]; omega
    · obtain rfl : k = len := by omega
      go_wp2
      go_ret
      exact ⟨by rw [overB_no q hall.out]; rfl, rfl⟩
end Go.Proofs.Ytdgoaccnjlkdcaa.Bit
