/-
  Two writers side by side; what is read of what was written.
-/
import Derived.Test.YtdgoaccnjlkdcaaBitWorks
namespace Go.Proofs.Ytdgoaccnjlkdcaa.Bit
open Go.ChangeShapes Go.WideShapes Go.ChangeAt Go.RowKit
set_option linter.unusedVariables false

theorem pow_in (n : Nat) (hn : n ≤ 32) : (1 : Int) ≤ 2 ^ n ∧ (2 : Int) ^ n ≤ 4294967296 := by
  have h1 : (2 : Nat) ^ n ≤ 2 ^ 32 := Nat.pow_le_pow_right (by decide) hn
  have h2 : 0 < (2 : Nat) ^ n := Nat.pow_pos (by decide)
  have h3 : ((2 ^ n : Nat) : Int) = (2 : Int) ^ n := Int.natCast_pow 2 _
  rw [← h3]
  generalize (2 : Nat) ^ n = p at *
  omega

theorem quiet_w {P : Program} {f : FuncId} {args : Array Value} {w : World} {n : Nat} {v : Value}
    (h : Calls P f args (w.drewN n) fun e w' => e = .returned v ∧ w.drewN n = w') : Calls P f args (w.drewN n) fun e w'' => e = .returned v ∧ ∃ m, w'' = w.drewN m :=
  h.mono fun _ _ ⟨he, hm⟩ => ⟨he, n, hm.symm⟩

theorem wr_ne {w : World} {b1 b2 : Nat} {v1 v2 : Value} {bs1 bs2 : List UInt8} {f1 f2 : Int} (h1 : WrRaw w b1 v1 bs1 f1) (h2 : WrRaw w b2 v2 bs2 f2) : v1.ownBlock ≠ some b2 := by
  intro e
  rcases h1.own.2 with ⟨rfl, _⟩ | ⟨g, cap, cur, rfl, _, hg, _⟩
  · simp [Value.ownBlock] at e
  · simp only [Value.ownBlock, Option.some.injEq] at e
    subst e
    rw [h2.blk] at hg
    simp at hg

/-- The rows are not one. -/
def Apart (v1 v2 : Value) : Prop := ∀ k, v2.ownBlock = some k → v1.ownBlock ≠ some k

theorem Apart.symm {v1 v2 : Value} (h : Apart v1 v2) : Apart v2 v1 := fun k h1 h2 => h k h2 h1

theorem Apart.near {w : World} {b2 : Nat} {v1 v1' v2 : Value} {bs2 : List UInt8} {f2 : Int} (h : Apart v1 v2) (n : Near w v1 v1') (h2 : WrRaw w b2 v2 bs2 f2) : Apart v1' v2 := by
  intro k hk e
  rcases n k e with h3 | h3
  · exact h k hk h3
  · have := (h2.own.lt k hk).2; omega

/-- The other writer is as it was. -/
theorem WrRaw.beside {w w' : World} {b1 b2 : Nat} {v1 v2 : Value} {bs1 bs2 : List UInt8} {f1 f2 : Int} (h2 : WrRaw w b2 v2 bs2 f2) (h1 : WrRaw w b1 v1 bs1 f1) (k : But b1 v1 w w') (hne : b2 ≠ b1) (ap : Apart v1 v2) : WrRaw w' b2 v2 bs2 f2 :=
  h2.same (k.block b2 h2.lt hne (fun e => wr_ne h1 h2 e.symm)) (fun i hi => k.block i (h2.own.lt i hi).2 (fun e => wr_ne h2 h1 (by rw [hi, e])) (fun e => ap i hi e.symm))

/-- What stands there is read. -/
theorem read_part (x y z : List Bool) : rOk (x ++ (y ++ z)) x.length false y.length = true ∧ rV (x ++ (y ++ z)) x.length false y.length = num y ∧ rI (x ++ (y ++ z)) x.length false y.length = x.length + y.length := by
  have h : rOk (x ++ (y ++ z)) x.length false y.length = true := by unfold rOk; simp
  refine ⟨h, ?_, ?_⟩
  · unfold rV; rw [if_pos h, List.drop_left, List.take_left]
  · unfold rI; rw [if_pos h]

theorem tb_text (l : List Bool) : tb ⟨(pack l).toArray⟩ = pad l := by unfold tb; exact tbits_packed l

theorem size_text (l : List Bool) : (⟨(pack l).toArray⟩ : ByteArray).size = (l.length + 7) / 8 := by
  show (pack l).toArray.size = _
  simp [pack_length]

theorem mod_split (v : Int) (a b : Nat) : v % 2 ^ (a + b) = v % 2 ^ a + v / 2 ^ a % 2 ^ b * 2 ^ a := by
  have h1 := num_bitsOf (a + b) v
  rw [bitsOf_add, num_append, bitsOf_length] at h1
  rw [← h1, Int.natCast_add, Int.natCast_mul, num_bitsOf, num_bitsOf, Int.natCast_pow, Int.mul_comm]
  rfl
end Go.Proofs.Ytdgoaccnjlkdcaa.Bit
