/-
  Contract of the reference's Same: two rows of the same tokens.
-/
import Derived.Test.YtikfenimgjeplaaSymSame
import Derived.Test.YtikfenimgjeplaaLzTokS
namespace Go.Proofs.Ytikfenimgjeplaa.Sym
open Go.ChangeShapes Go.WideShapes Go.ChangeAt Go.RowKit
open Go.Proofs.Ytikfenimgjeplaa.Lz (Tok IsToks TokAt cellsT cellsT_length cellsT_get)
set_option linter.unusedVariables false
set_option maxRecDepth 100000

/-- An owned row of tokens, as others read it. -/
theorem row_toks {w : World} {base n : Nat} {v : Value} {l : List Tok} (h : w.ownsRow base 64 3 v n (cellsT l)) (hn : l.length = n) : ∃ a cap, v = .slice a n cap ∧ IsToks w a l ∧ n ≤ 9223372036854775807 := by
  rcases h.2 with ⟨rfl, h1⟩ | ⟨g, cap, cur, rfl, _, hg, hcc, hmm, _⟩
  · exact ⟨none, 0, by rw [h1], fun h0 => by omega, by omega⟩
  · refine ⟨_, cap, rfl, fun h0 => ⟨g, 0, rfl, (Array.getElem?_eq_some_iff.1 hg).1, fun i hi => ?_⟩, by unfold maxLen at hmm; omega⟩
    obtain ⟨g1, g2, g3⟩ := cellsT_get l i hi
    refine ⟨?_, ?_, ?_⟩
    · rw [Nat.zero_add, ← g1]; exact h.cellAt (i * 3) (by omega)
    · rw [Nat.zero_add, ← g2]; exact h.cellAt (i * 3 + 1) (by omega)
    · rw [Nat.zero_add, ← g3]; exact h.cellAt (i * 3 + 2) (by omega)

set_option maxHeartbeats 4000000 in
theorem same_any (a b : Option Addr) (n c1 c2 : Nat) (l : List Tok) (w : World) (hl : l.length = n) (h1 : IsToks w a l) (h2 : IsToks w b l) (hn : n ≤ 9223372036854775807) :
    Calls Try.prog 35 #[.slice a n c1, .slice b n c2] w fun e w' => e = .returned (.bool true) ∧ ∃ q, w' = w.drewN q := by
  have H1 := Lib.hid h1
  have H2 := Lib.hid h2
  clear h1 h2
  go_enter Try.func35, Try.ntmps35
  go_wp2_with fail
  go_loopw [5] (fun i wr => ∃ k q : Nat, k ≤ n ∧ i = .int .i64 k ∧ wr = w.drewN q) (fun i _ => n - (intOf i).toNat)
  case atStart => exact ⟨0, 0, Nat.zero_le _, rfl, rfl⟩
  case round =>
    obtain ⟨k, q, hk, rfl, rfl⟩ := hrel
    by_cases hlt : k < n
    · have hlt' : (k : Int) < n := by omega
      obtain ⟨g1, o1, rfl, _, q1⟩ := H1.out (by omega)
      obtain ⟨g2, o2, rfl, _, q2⟩ := H2.out (by omega)
      obtain ⟨e1, e2, e3⟩ := q1 k (by omega)
      obtain ⟨e4, e5, e6⟩ := q2 k (by omega)
      clear q1 q2
      generalize l[k] = t at *
      generalize t.B = tB at *
      generalize t.L = tL at *
      generalize t.D = tD at *
      go_wp2_with fail
      go_quiet (fail)
      go_wp2_with fail
      refine ⟨⟨k + 1, _, by omega, by go_num, rfl⟩, ?_⟩
      simp [intOf]; omega
    · obtain rfl : k = n := by omega
      go_wp2_with fail
      go_ret
      exact ⟨rfl, q, rfl⟩
end Go.Proofs.Ytikfenimgjeplaa.Sym
