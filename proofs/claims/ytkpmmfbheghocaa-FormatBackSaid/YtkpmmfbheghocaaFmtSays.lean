/-
  What is asked of the program's calls of layer 13 (format), and the document's examples.
-/
import Derived.Test.YtkpmmfbheghocaaFmtBack
import Derived.Test.YtkpmmfbheghocaaFmtView
namespace Go.Proofs.Ytkpmmfbheghocaa.Fmt
open Go.ChangeShapes Go.WideShapes Go.ChangeAt Go.RowKit RegVal Oct
set_option linter.unusedVariables false
set_option maxRecDepth 100000

def Fm.valI (f : Fm) (c : Int) : Int := if f.ok then (f.val c : Nat) else 0
def Fm.colI (f : Fm) (c : Int) : Int := if f.ok then (f.col c : Nat) else 0
def Fm.leftI (f : Fm) (c : Int) : Int := if f.ok then (f.left c : Nat) else 0
/-- What the calls of format answer. -/
structure Says : Prop where
  valid : ∀ f : Fm, f.Wf → ∀ w, Calls Try.prog 11 #[f.v] w fun e w' => e = .returned (.bool f.ok) ∧ Below w.heap.size w w'
  bytes : ∀ f : Fm, f.Wf → ∀ w, Calls Try.prog 13 #[f.v] w fun e w' => e = .returned (.string f.bytes) ∧ Below w.heap.size w w'
  parse : ∀ t : ByteArray, t.size ≤ 1000 → ∀ w, Calls Try.prog 9 #[.string t] w fun e w' => e = .returned (.tuple #[(parF t).v, .int .i64 (parE t)]) ∧ Below w.heap.size w w'
  standard : ∀ w, Calls Try.prog 15 #[] w fun e w' => e = .returned Fm.std.v ∧ Below w.heap.size w w'
  value : ∀ f : Fm, f.Wf → ∀ c : Int, (Lit.int .i64 c).wf = true → ∀ w, Calls Try.prog 17 #[f.v, .int .i64 c] w fun e w' => e = .returned (.int .i64 (f.valI c)) ∧ Below w.heap.size w w'
  colour : ∀ f : Fm, f.Wf → ∀ c : Int, (Lit.int .i64 c).wf = true → ∀ w, Calls Try.prog 18 #[f.v, .int .i64 c] w fun e w' => e = .returned (.int .i64 (f.colI c)) ∧ Below w.heap.size w w'
  quant : ∀ f : Fm, f.Wf → ∀ c : Int, (Lit.int .i64 c).wf = true → ∀ w, Calls Try.prog 19 #[f.v, .int .i64 c] w fun e w' => e = .returned (.int .i64 (f.leftI c)) ∧ Below w.heap.size w w'
  size : ∀ f : Fm, f.Wf → ∀ w, Calls Try.prog 20 #[f.v] w fun e w' => e = .returned (.int .i64 (f.size : Nat)) ∧ Below w.heap.size w w'
  put : ∀ f : Fm, f.Wf → ∀ v : Int, (Lit.int .i64 v).wf = true → ∀ w, Calls Try.prog 25 #[f.v, .int .i64 v] w fun e w' => e = .returned (.string (f.put v)) ∧ Below w.heap.size w w'
  get : ∀ f : Fm, f.Wf → ∀ t : ByteArray, t.size ≤ 1000 → ∀ w, Calls Try.prog 24 #[f.v, .string t] w fun e w' => e = .returned (.tuple #[.int .i64 (f.get t), .int .i64 (f.getE t)]) ∧ Below w.heap.size w w'
  compact : ∀ f : Fm, f.Wf → ∀ w, Calls Try.prog 28 #[f.v] w fun e w' => e = .returned (.tuple #[.int .i64 (f.few.1 : Nat), .int .i64 (f.few.2 : Nat)]) ∧ Below w.heap.size w w'
  cput : ∀ f : Fm, f.Wf → ∀ v : Int, (Lit.int .i64 v).wf = true → ∀ w, Calls Try.prog 27 #[f.v, .int .i64 v] w fun e w' => e = .returned (.string (f.cput v)) ∧ Below w.heap.size w w'
  cget : ∀ f : Fm, f.Wf → ∀ t : ByteArray, t.size ≤ 1000 → ∀ w, Calls Try.prog 26 #[f.v, .string t] w fun e w' => e = .returned (.tuple #[.int .i64 (f.cget t), .int .i64 (f.cgetE t)]) ∧ Below w.heap.size w w'

def high : Fm := ⟨16, 16, false, true, 31, 63, 31, 11, 5, 0⟩
theorem high_wf : high.Wf := ⟨by decide, by decide, by decide, by decide, by decide, by decide, by decide, by decide⟩
theorem std_wf : Fm.std.Wf := ⟨by decide, by decide, by decide, by decide, by decide, by decide, by decide, by decide⟩
theorem high_ok : high.ok = true := by decide +kernel
theorem std_ok : Fm.std.ok = true := by decide +kernel
theorem high_val : high.valI 16744448 = 64512 := by decide +kernel
theorem high_left : high.leftI 16744448 = 16744960 := by decide +kernel
theorem std_left : Fm.std.leftI 1193046 = 1193046 := by decide +kernel
theorem high_back : parF high.bytes = high ∧ parE high.bytes = 0 ∧ high.bytes.size = 16 := by
  have := parse_bytes high_ok ⟨#[]⟩
  rwa [show high.bytes ++ (⟨#[]⟩ : ByteArray) = high.bytes from by apply ByteArray.ext; simp] at this
theorem high_any (w : World) :
    Calls Try.prog 30 #[] w fun e w' => e = .returned high.v ∧ Below w.heap.size w w' := by
  have bel := (Below.refl w.heap.size w).alloc (Nat.le_refl _) (.cells #[.int .i64 16, .int .i64 16, .bool false, .bool true, .int .i64 31, .int .i64 63, .int .i64 31, .int .i64 11, .int .i64 5, .int .i64 0] 23)
  go_enter Try.func30, Try.ntmps30
  go_wp2_with fail
  refine bodyPost_ret (Ret.ret_cell rfl _ _ w.heap.size 23 _ (0, 0) _ rfl (heap_alloc_new _ _) Try.underlying23 rfl (by kernel_rfl)) rfl ⟨rfl, bel⟩
theorem below_n {w a b : World} (h : Below w.heap.size w a) (k : Below a.heap.size a b) : Below w.heap.size w b := h.trans (k.mono h.size)
set_option maxHeartbeats 2000000 in
theorem works_any (D : Says) (w : World) :
    Calls Try.prog 8 #[] w fun e w' => e = .returned (.bool true) ∧ Below w.heap.size w w' := by
  have V1 := Lib.hid (fun w => D.valid high high_wf w)
  have V2 := Lib.hid (fun w => D.bytes high high_wf w)
  have V3 := Lib.hid (fun w => D.parse high.bytes (by rw [high_back.2.2]; decide) w)
  have V4 := Lib.hid (fun w => D.value high high_wf 16744448 (by decide) w)
  have V5 := Lib.hid (fun w => D.quant high high_wf 16744448 (by decide) w)
  have V6 := Lib.hid (fun w => D.quant Fm.std std_wf 1193046 (by decide) w)
  have V7 := Lib.hid (fun w => D.standard w)
  have V8 := Lib.hid high_any
  rw [high_ok] at V1
  rw [high_back.1, high_back.2.1] at V3
  rw [high_val] at V4
  rw [high_left] at V5
  rw [std_left] at V6
  generalize high.bytes = hb at *
  have hv : high.v = .agg #[.int .i64 16, .int .i64 16, .bool false, .bool true, .int .i64 31, .int .i64 63, .int .i64 31, .int .i64 11, .int .i64 5, .int .i64 0] := rfl
  rw [hv] at V1 V2 V3 V4 V5 V8
  clear D hv
  go_enter Try.func8, Try.ntmps8
  go_wp2_with fail
  refine (V8.out _).mono ?_
  rintro r w1 ⟨rfl, b1⟩
  go_wp2_with fail
  have a1 := FmAt.box high w1 23
  have z1 := alloc_size w1 (.cells #[.int .i64 16, .int .i64 16, .bool false, .bool true, .int .i64 31, .int .i64 63, .int .i64 31, .int .i64 11, .int .i64 5, .int .i64 0] 23)
  have b2 := b1.alloc b1.size (.cells #[.int .i64 16, .int .i64 16, .bool false, .bool true, .int .i64 31, .int .i64 63, .int .i64 31, .int .i64 11, .int .i64 5, .int .i64 0] 23)
  clear b1
  have K1 := Lib.hid (fun W' (h : Below (w1.alloc (.cells #[.int .i64 16, .int .i64 16, .bool false, .bool true, .int .i64 31, .int .i64 63, .int .i64 31, .int .i64 11, .int .i64 5, .int .i64 0] 23)).heap.size (w1.alloc (.cells #[.int .i64 16, .int .i64 16, .bool false, .bool true, .int .i64 31, .int .i64 63, .int .i64 31, .int .i64 11, .int .i64 5, .int .i64 0] 23)) W') => a1.below h (by rw [z1]; omega))
  have BB := Lib.hid b2
  have q0 := Below.refl (w1.alloc (.cells #[.int .i64 16, .int .i64 16, .bool false, .bool true, .int .i64 31, .int .i64 63, .int .i64 31, .int .i64 11, .int .i64 5, .int .i64 0] 23)).heap.size (w1.alloc (.cells #[.int .i64 16, .int .i64 16, .bool false, .bool true, .int .i64 31, .int .i64 63, .int .i64 31, .int .i64 11, .int .i64 5, .int .i64 0] 23))
  clear a1 z1 b2
  generalize w1.heap.size = g1 at *
  generalize w1.alloc (.cells #[.int .i64 16, .int .i64 16, .bool false, .bool true, .int .i64 31, .int .i64 63, .int .i64 31, .int .i64 11, .int .i64 5, .int .i64 0] 23) = A1 at *
  refine (V2.out _).mono ?_
  rintro r w2 ⟨rfl, b2⟩
  have q2 := q0.trans (b2.mono q0.size)
  clear b2 q0
  go_wp2_with fail
  refine (V3.out _).mono ?_
  rintro r w3 ⟨rfl, b3⟩
  have q3 := q2.trans (b3.mono q2.size)
  clear b3 q2
  have a2 := FmAt.box high w3 23
  have z2 := alloc_size w3 (.cells #[.int .i64 16, .int .i64 16, .bool false, .bool true, .int .i64 31, .int .i64 63, .int .i64 31, .int .i64 11, .int .i64 5, .int .i64 0] 23)
  have q4 := q3.alloc q3.size (.cells #[.int .i64 16, .int .i64 16, .bool false, .bool true, .int .i64 31, .int .i64 63, .int .i64 31, .int .i64 11, .int .i64 5, .int .i64 0] 23)
  have K2 := Lib.hid (fun W' (h : Below (w3.alloc (.cells #[.int .i64 16, .int .i64 16, .bool false, .bool true, .int .i64 31, .int .i64 63, .int .i64 31, .int .i64 11, .int .i64 5, .int .i64 0] 23)).heap.size (w3.alloc (.cells #[.int .i64 16, .int .i64 16, .bool false, .bool true, .int .i64 31, .int .i64 63, .int .i64 31, .int .i64 11, .int .i64 5, .int .i64 0] 23)) W') => a2.below h (by rw [z2]; omega))
  have K3 := Lib.hid (fun W' (h : Below (w3.alloc (.cells #[.int .i64 16, .int .i64 16, .bool false, .bool true, .int .i64 31, .int .i64 63, .int .i64 31, .int .i64 11, .int .i64 5, .int .i64 0] 23)).heap.size (w3.alloc (.cells #[.int .i64 16, .int .i64 16, .bool false, .bool true, .int .i64 31, .int .i64 63, .int .i64 31, .int .i64 11, .int .i64 5, .int .i64 0] 23)) W') => q4.trans (h.mono q4.size))
  obtain ⟨c0, c1, c2, c3, c4, c5, c6, c7, c8, c9⟩ := K1.out _ q4
  dsimp only [high] at c0 c1 c2 c3 c4 c5 c6 c7 c8 c9
  clear a2 z2 q3 q4
  go_wp2_with fail
  generalize w3.alloc (.cells #[.int .i64 16, .int .i64 16, .bool false, .bool true, .int .i64 31, .int .i64 63, .int .i64 31, .int .i64 11, .int .i64 5, .int .i64 0] 23) = A2 at *
  have r0 := Below.refl A2.heap.size A2
  refine (V1.out _).mono ?_
  rintro r w5 ⟨rfl, b5⟩
  have r5 := r0.trans (b5.mono r0.size)
  clear b5 r0 c0 c1 c2 c3 c4 c5 c6 c7 c8 c9
  obtain ⟨c0, c1, c2, c3, c4, c5, c6, c7, c8, c9⟩ := K1.out _ (K3.out _ r5)
  dsimp only [high] at c0 c1 c2 c3 c4 c5 c6 c7 c8 c9
  go_wp2_with fail
  refine (V4.out _).mono ?_
  rintro r w6 ⟨rfl, b6⟩
  have r6 := r5.trans (b6.mono r5.size)
  clear b6 r5 c0 c1 c2 c3 c4 c5 c6 c7 c8 c9
  obtain ⟨c0, c1, c2, c3, c4, c5, c6, c7, c8, c9⟩ := K1.out _ (K3.out _ r6)
  dsimp only [high] at c0 c1 c2 c3 c4 c5 c6 c7 c8 c9
  go_wp2_with fail
  refine (V5.out _).mono ?_
  rintro r w7 ⟨rfl, b7⟩
  have r7 := r6.trans (b7.mono r6.size)
  clear b7 r6 c0 c1 c2 c3 c4 c5 c6 c7 c8 c9
  obtain ⟨c0, c1, c2, c3, c4, c5, c6, c7, c8, c9⟩ := K1.out _ (K3.out _ r7)
  dsimp only [high] at c0 c1 c2 c3 c4 c5 c6 c7 c8 c9
  obtain ⟨d0, d1, d2, d3, d4, d5, d6, d7, d8, d9⟩ := K2.out _ r7
  dsimp only [high] at d0 d1 d2 d3 d4 d5 d6 d7 d8 d9
  go_wp2_with fail
  refine (V7.out _).mono ?_
  rintro r w8 ⟨rfl, b8⟩
  have r8 := r7.trans (b8.mono r7.size)
  clear b8 r7 c0 c1 c2 c3 c4 c5 c6 c7 c8 c9 d0 d1 d2 d3 d4 d5 d6 d7 d8 d9
  go_wp2_with fail
  refine (V6.out _).mono ?_
  rintro r w9 ⟨rfl, b9⟩
  have r9 := r8.trans (b9.mono r8.size)
  go_wp2_with fail
  go_ret
  exact ⟨rfl, BB.out.trans ((K3.out _ r9).mono BB.out.size)⟩
end Go.Proofs.Ytkpmmfbheghocaa.Fmt
