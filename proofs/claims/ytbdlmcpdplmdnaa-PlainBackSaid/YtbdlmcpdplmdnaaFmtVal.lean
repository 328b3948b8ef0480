/-
  Plain facts of layer 13 (format): which formats may be, their bytes, the format of bytes, a value's bytes. Nothing of the program is named here.
-/
import Derived.Test.YtbdlmcpdplmdnaaFmtMath
import Derived.Test.YtbdlmcpdplmdnaaOctMath
namespace Go.Proofs.Ytbdlmcpdplmdnaa.Fmt
set_option linter.unusedVariables false

/-- May a part be? -/
def partB (bits m s : Int) : Bool := decide (0 < width m ∧ 0 ≤ s ∧ s ≤ 32 ∧ s + width m ≤ bits)
/-- A format. -/
structure Fm where
  B : Int
  D : Int
  big : Bool
  tr : Bool
  rm : Int
  gm : Int
  bm : Int
  rs : Int
  gs : Int
  bs : Int
def Fm.v (f : Fm) : Value := .agg #[.int .i64 f.B, .int .i64 f.D, .bool f.big, .bool f.tr, .int .i64 f.rm, .int .i64 f.gm, .int .i64 f.bm, .int .i64 f.rs, .int .i64 f.gs, .int .i64 f.bs]
def Fm.zero : Fm := ⟨0, 0, false, false, 0, 0, 0, 0, 0, 0⟩
/-- All numbers are an int's. -/
structure Fm.Wf (f : Fm) : Prop where
  B : (Lit.int .i64 f.B).wf = true
  D : (Lit.int .i64 f.D).wf = true
  rm : (Lit.int .i64 f.rm).wf = true
  gm : (Lit.int .i64 f.gm).wf = true
  bm : (Lit.int .i64 f.bm).wf = true
  rs : (Lit.int .i64 f.rs).wf = true
  gs : (Lit.int .i64 f.gs).wf = true
  bs : (Lit.int .i64 f.bs).wf = true
instance (s k t j : Nat) : Decidable (apart s k t j) := inferInstanceAs (Decidable (s + k ≤ t ∨ t + j ≤ s))
def Fm.side (f : Fm) : Bool := decide (apart f.rs.toNat (width f.rm) f.gs.toNat (width f.gm) ∧ apart f.rs.toNat (width f.rm) f.bs.toNat (width f.bm) ∧ apart f.gs.toNat (width f.gm) f.bs.toNat (width f.bm))
def Fm.head (f : Fm) : Bool := decide ((f.B = 8 ∨ f.B = 16 ∨ f.B = 32) ∧ 1 ≤ f.D ∧ f.D ≤ f.B ∧ f.tr = true)
/-- May it be? -/
def Fm.ok (f : Fm) : Bool := f.head && (partB f.B f.rm f.rs && partB f.B f.gm f.gs && partB f.B f.bm f.bs) && f.side
theorem part_spec {b m s : Int} (h : partB b m s = true) : ∃ k j : Nat, (1 ≤ k ∧ k ≤ 16) ∧ m = (top k : Nat) ∧ s = (j : Nat) ∧ width m = k ∧ j ≤ 32 ∧ (j + k : Nat) ≤ b := by
  unfold partB at h
  obtain ⟨h1, h2, h3, h4⟩ := of_decide_eq_true h
  obtain ⟨w1, w2, w3⟩ := width_spec h1
  exact ⟨width m, s.toNat, ⟨w1, w2⟩, w3, by omega, rfl, by omega, by omega⟩
/-- What is known of a format that may be. -/
structure Fm.Is (f : Fm) (k j l s t u n : Nat) : Prop where
  hk : 1 ≤ k ∧ k ≤ 16
  hj : 1 ≤ j ∧ j ≤ 16
  hl : 1 ≤ l ∧ l ≤ 16
  rm : f.rm = (top k : Nat)
  gm : f.gm = (top j : Nat)
  bm : f.bm = (top l : Nat)
  rs : f.rs = (s : Nat)
  gs : f.gs = (t : Nat)
  bs : f.bs = (u : Nat)
  B : f.B = (n : Nat)
  hn : n = 8 ∨ n = 16 ∨ n = 32
  D : 1 ≤ f.D ∧ f.D ≤ f.B
  tr : f.tr = true
  three : Three k j l s t u n
theorem Fm.is {f : Fm} (h : f.ok = true) : ∃ k j l s t u n, f.Is k j l s t u n := by
  unfold Fm.ok at h
  simp only [Bool.and_eq_true] at h
  obtain ⟨⟨h0, ⟨h1, h2⟩, h3⟩, h4⟩ := h
  unfold Fm.head at h0
  unfold Fm.side at h4
  have h0 := of_decide_eq_true h0
  have h4 := of_decide_eq_true h4
  obtain ⟨k, s, hk, rm, rs, wk, _, ks⟩ := part_spec h1
  obtain ⟨j, t, hj, gm, gs, wj, _, jt⟩ := part_spec h2
  obtain ⟨l, u, hl, bm, bs, wl, _, lu⟩ := part_spec h3
  rw [wk, wj, wl, rs, gs, bs] at h4
  simp only [Int.toNat_natCast] at h4
  refine ⟨k, j, l, s, t, u, f.B.toNat, hk, hj, hl, rm, gm, bm, rs, gs, bs, by omega, by omega, h0.2.1 |> fun a => ⟨a, h0.2.2.1⟩, h0.2.2.2, ?_⟩
  exact ⟨h4.1, h4.2.1, h4.2.2, by omega, by omega, by omega, by omega⟩
end Go.Proofs.Ytbdlmcpdplmdnaa.Fmt
