/-
  A format that is handed in.
-/
import Derived.Test.YtbdlmcpdplmdnaaFmtRefP
import Derived.Laws.MakeOwn
import Derived.Lib.SmallJoins
import Derived.Deep.Slices
namespace Go.Proofs.Ytbdlmcpdplmdnaa.Fmt
open Go.ChangeShapes Go.WideShapes Go.ChangeAt Go.RowKit
set_option linter.unusedVariables false
set_option maxRecDepth 100000

theorem list10 {α : Type} {xs : List α} (h : xs.length = 10) : ∃ z0 z1 z2 z3 z4 z5 z6 z7 z8 z9, xs = [z0, z1, z2, z3, z4, z5, z6, z7, z8, z9] := by
  match xs, h with
  | [z0, z1, z2, z3, z4, z5, z6, z7, z8, z9], _ => exact ⟨z0, z1, z2, z3, z4, z5, z6, z7, z8, z9, rfl⟩
theorem fmt_see {H : Type} {enc : TypeId × Value → H} {W : World} {r : Reach} {b0 : Nat} {v : Value} {d : DataW H} {p : List MemPlace} (hv : Value.okWide Try.prog W r b0 23 v)
    (h : DataW.Trod enc Try.prog W 0 (fun _ => true) true 23 v d p) : ∃ f : Fm, v = f.v ∧ f.Wf := by
  obtain ⟨cs, rfl, hsz⟩ := okWide_struct Try.underlying23 hv
  have h10 : Try.prog.cellsOf 23 = 10 := by kernel_rfl
  obtain ⟨c0, c1, c2, c3, c4, c5, c6, c7, c8, c9, rfl⟩ := arr10 (hsz.trans h10)
  obtain ⟨fuel, hf⟩ := h
  obtain ⟨xs, n, _, _, _, hlen, hg⟩ := DataW.trod_struct Try.underlying23 hf
  obtain ⟨y0, y1, y2, y3, y4, y5, y6, y7, y8, y9, rfl⟩ := list10 hlen
  have ci : Try.prog.cellsOf 3 = 1 := by kernel_rfl
  have cb : Try.prog.cellsOf 4 = 1 := by kernel_rfl
  have g0 := hg 0 _ rfl
  have g1 := hg 1 _ rfl
  have g2 := hg 2 _ rfl
  have g3 := hg 3 _ rfl
  have g4 := hg 4 _ rfl
  have g5 := hg 5 _ rfl
  have g6 := hg 6 _ rfl
  have g7 := hg 7 _ rfl
  have g8 := hg 8 _ rfl
  have g9 := hg 9 _ rfl
  simp [Value.cells, ci, cb] at g0 g1 g2 g3 g4 g5 g6 g7 g8 g9
  obtain ⟨k0, e0, _, w0⟩ := DataW.trod_int Try.underlying3 g0
  obtain ⟨k1, e1, _, w1⟩ := DataW.trod_int Try.underlying3 g1
  obtain ⟨k2, e2, _⟩ := DataW.trod_bool Try.underlying4 g2
  obtain ⟨k3, e3, _⟩ := DataW.trod_bool Try.underlying4 g3
  obtain ⟨k4, e4, _, w4⟩ := DataW.trod_int Try.underlying3 g4
  obtain ⟨k5, e5, _, w5⟩ := DataW.trod_int Try.underlying3 g5
  obtain ⟨k6, e6, _, w6⟩ := DataW.trod_int Try.underlying3 g6
  obtain ⟨k7, e7, _, w7⟩ := DataW.trod_int Try.underlying3 g7
  obtain ⟨k8, e8, _, w8⟩ := DataW.trod_int Try.underlying3 g8
  obtain ⟨k9, e9, _, w9⟩ := DataW.trod_int Try.underlying3 g9
  simp at e0 e1 e2 e3 e4 e5 e6 e7 e8 e9
  subst e0 e1 e2 e3 e4 e5 e6 e7 e8 e9
  exact ⟨⟨k0, k1, k2, k3, k4, k5, k6, k7, k8, k9⟩, rfl, w0, w1, w4, w5, w6, w7, w8, w9⟩
end Go.Proofs.Ytbdlmcpdplmdnaa.Fmt
