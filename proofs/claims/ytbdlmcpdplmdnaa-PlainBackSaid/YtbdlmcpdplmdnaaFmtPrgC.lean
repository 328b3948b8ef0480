/-
  Contracts of the program's layer 13 (format): how many bytes a value has; values and colours.
-/
import Derived.Test.YtbdlmcpdplmdnaaFmtPrgB
namespace Go.Proofs.Ytbdlmcpdplmdnaa.Fmt
open Go.ChangeShapes Go.WideShapes Go.ChangeAt Go.RowKit RegVal Oct
set_option linter.unusedVariables false
set_option maxRecDepth 100000

theorem standard_any (w : World) :
    Calls Try.prog 25 #[] w fun e w' => e = .returned Fm.std.v ∧ Below w.heap.size w w' := by
  have bel := (Below.refl w.heap.size w).alloc (Nat.le_refl _) (.cells #[.int .i64 32, .int .i64 24, .bool false, .bool true, .int .i64 255, .int .i64 255, .int .i64 255, .int .i64 16, .int .i64 8, .int .i64 0] 23)
  go_enter Try.func25, Try.ntmps25
  go_wp2_with fail
  refine bodyPost_ret (Ret.ret_cell rfl _ _ w.heap.size 23 _ (0, 0) _ rfl (heap_alloc_new _ _) Try.underlying23 rfl (by kernel_rfl)) rfl ⟨rfl, bel⟩

theorem size_any (f : Fm) (hf : f.Wf) (w : World) :
    Calls Try.prog 22 #[f.v] w fun e w' => e = .returned (.int .i64 (f.size : Nat)) ∧ Below w.heap.size w w' := by
  have AT := FmAt.box f w 23
  have bel := (Below.refl w.heap.size w).alloc (Nat.le_refl _) (.cells #[.int .i64 f.B, .int .i64 f.D, .bool f.big, .bool f.tr, .int .i64 f.rm, .int .i64 f.gm, .int .i64 f.bm, .int .i64 f.rs, .int .i64 f.gs, .int .i64 f.bs] 23)
  have hsz : (w.alloc (.cells #[.int .i64 f.B, .int .i64 f.D, .bool f.big, .bool f.tr, .int .i64 f.rm, .int .i64 f.gm, .int .i64 f.bm, .int .i64 f.rs, .int .i64 f.gs, .int .i64 f.bs] 23)).heap.size = w.heap.size + 1 := alloc_size _ _
  obtain ⟨w1, hw1⟩ : ∃ w1, w.alloc (.cells #[.int .i64 f.B, .int .i64 f.D, .bool f.big, .bool f.tr, .int .i64 f.rm, .int .i64 f.gm, .int .i64 f.bm, .int .i64 f.rs, .int .i64 f.gs, .int .i64 f.bs] 23) = w1 := ⟨_, rfl⟩
  rw [hw1] at AT bel hsz
  have HA := Lib.hid (fun W (hW : Below w1.heap.size w1 W) => AT.below hW (by omega))
  have V := Lib.hid (fun w => valid_any f hf w)
  have HS : RowKit.Hid (f.size = if f.ok then (f.B / 8).toNat else 0) := Lib.hid rfl
  have HBD : RowKit.Hid (f.ok = true → 8 ≤ f.B ∧ f.B ≤ 32) := Lib.hid (fun h => by
    obtain ⟨k, j, l, s, t, u, n, H⟩ := f.is h
    have := H.B
    have := H.hn
    omega)
  have HV : f.v = .agg #[.int .i64 f.B, .int .i64 f.D, .bool f.big, .bool f.tr, .int .i64 f.rm, .int .i64 f.gm, .int .i64 f.bm, .int .i64 f.rs, .int .i64 f.gs, .int .i64 f.bs] := rfl
  rw [HV] at V ⊢
  generalize f.ok = OK at *
  generalize f.size = Z at *
  obtain ⟨c0, c1, c2, c3, c4, c5, c6, c7, c8, c9⟩ := AT
  obtain ⟨B, D, big, tr, rm, gm, bm, rs, gs, bs⟩ := f
  simp only at *
  have BEL := Lib.hid bel
  clear hf HV
  go_enter Try.func22, Try.ntmps22
  go_wp2_with fail
  refine (V.out _).mono ?_
  rintro r w2 ⟨rfl, b2⟩
  have B2 := Lib.hid (BEL.out.trans (b2.mono BEL.out.size))
  obtain ⟨e0, _⟩ := HA.out _ b2
  clear b2 V c0 c1 c2 c3 c4 c5 c6 c7 c8 c9 HA
  cases OK with
  | false =>
    have hs := HS.out
    simp only [Bool.false_eq_true, if_false] at hs
    have HZ := Lib.hid hs
    clear hs HS
    go_wp2_with fail
    go_ret
    exact ⟨retI (by rw [HZ.out]; rfl), B2.out⟩
  | true =>
    have hb := HBD.out rfl
    have hs := HS.out
    simp only [if_true] at hs
    have HZ := Lib.hid hs
    have HB := Lib.hid hb
    have q1 : IntKind.i64.wrap (B.tdiv 8) = B / 8 := IntWalk.i64_quo _ _ (by omega)
    clear hs HS
    go_wp2_with fail
    go_ret
    exact ⟨retI (by rw [HZ.out]; have := HB.out; omega), B2.out⟩
end Go.Proofs.Ytbdlmcpdplmdnaa.Fmt
