/-
  Proved: bytes of nought leave the first Adler sum, and add it to the second one, each (statement AdlerZeros). Conditions: none.
-/
import Derived.Test.YthfehckdlogbaaaRows
import Derived.Test.YthfehckdlogbaaaAdlSum
import Derived.Test.YthfehckdlogbaaaOctMath
import Derived.Laws.MakeOwn
import Derived.WalkKit
import Derived.ProofKit
import Derived.OpenShut
import Derived.ShutString
import Derived.ChangeOld
import Derived.Below
import Derived.Lib.SmallJoins
import Derived.Deep.Slices
namespace Go.Proofs.Ythfehckdlogbaaa.adlerZeros
open Go.Proofs.Ythfehckdlogbaaa.Adl
open Go.Proofs.Ythfehckdlogbaaa.Oct
open Go.ChangeShapes Go.WideShapes Go.ChangeAt Go.RowKit
open Go.ChangeMaps (open_string shut_string)
set_option linter.unusedVariables false

theorem own : ownKnob Try.prog.godebug = none := by kernel_rfl
theorem laidOut : laidOutB Try.prog = true := by kernel_rfl

theorem sumV_one (t : ByteArray) : sumV [t] = moreV 1 t.data.toList := rfl

theorem early (s : ByteArray) (n : Int) (w : World) (ws : s.size ≤ maxLen) (hg : 3000 < s.size ∨ n < 0 ∨ 1000 < n) :
    Calls Try.prog 6 #[.string s, .int .i64 n] w fun e w' => e = .returned (.bool true) ∧ Below w.heap.size w w' := by
  unfold maxLen at ws
  by_cases h1 : 3000 < s.size
  · clear hg
    go_enter Try.func6, Try.ntmps6
    go_wp2_with fail
    refine (works_any _).mono ?_
    rintro r w1 ⟨rfl, b1⟩
    go_wp2_with fail
    all_goals (go_ret; exact ⟨rfl, b1⟩)
  by_cases h2 : n < 0
  · clear hg
    go_enter Try.func6, Try.ntmps6
    go_wp2_with fail
    refine (works_any _).mono ?_
    rintro r w1 ⟨rfl, b1⟩
    go_wp2_with fail
    all_goals (go_ret; exact ⟨rfl, b1⟩)
  have h3 : 1000 < n := by omega
  clear hg
  go_enter Try.func6, Try.ntmps6
  go_wp2_with fail
  refine (works_any _).mono ?_
  rintro r w1 ⟨rfl, b1⟩
  go_wp2_with fail
  all_goals (go_ret; exact ⟨rfl, b1⟩)

theorem info_u8 : (Try.prog.info? 5).map (fun i => (i.zero, i.size, i.bytes)) = some (some (.int .u8 0), 1, 1) := by kernel_rfl

theorem makeZ (m : Nat) (w : World) (hm : m ≤ 1000) :
    (Instr.makeSlice 28 (.int .i64 m) (.int .i64 m)).run Try.prog w = .ok (.slice (some ⟨w.heap.size, 0, none⟩) m m) (w.alloc (.cells (madeCells #[.int .u8 0] m) 5)) := by
  cases hi : Try.prog.info? 5 with
  | none => have h := info_u8; rw [hi] at h; simp at h
  | some i =>
    have h := info_u8
    rw [hi] at h
    simp only [Option.map_some, Option.some.injEq, Prod.mk.injEq] at h
    have := run_make (P := Try.prog) w 28 5 i (.int .u8 0) (by kernel_rfl) hi h.1 .i64 .i64 m m (by omega) (by omega) (by rw [h.2.2]; omega) (by omega)
    rw [this, h.2.1]
    simp [Value.cells]

theorem facts (s : ByteArray) (m : Nat) (A : Int) (hA : moreV 1 s.data.toList = A) : ∃ L H : Int, bits .and .i64 A 65535 = L ∧ A / 65536 = H ∧ 0 ≤ L ∧ L < 65536 ∧ 0 ≤ H ∧ H < 65536 ∧
    sumV [s, ⟨(List.replicate m (0 : UInt8)).toArray⟩] = (H + m * L) % 65521 * 65536 + L := by
  have b := moreV_bd 1 s.data.toList
  have l := lo_bd A
  refine ⟨lo A, A / 65536, mask16 A, rfl, l.1, l.2, by omega, by omega, ?_⟩
  show moreV (moreV 1 s.data.toList) (List.replicate m 0) = _
  rw [← moreV_append, more_zeros, hA]
  have : hi A = A / 65536 := by unfold hi; omega
  rw [this]

set_option maxHeartbeats 1000000 in
theorem walk (s : ByteArray) (n : Int) (ws : s.size ≤ maxLen) (w : World) :
    Calls Try.prog 6 #[.string s, .int .i64 n] w fun e w' => e = .returned (.bool true) ∧ Below w.heap.size w w' := by
  by_cases hg : 3000 < s.size ∨ n < 0 ∨ 1000 < n
  · exact early s n w ws hg
  have hs : s.size ≤ 3000 := by omega
  obtain ⟨m, rfl⟩ : ∃ m : Nat, n = m := ⟨n.toNat, by omega⟩
  have hm : m ≤ 1000 := by omega
  clear hg ws
  have d2 : decide (3000 < s.size) = false := decide_eq_false (by omega)
  have d3 : decide (3000 < (s.size : Int)) = false := decide_eq_false (by omega)
  have d4 : decide (1000 < (m : Int)) = false := decide_eq_false (by omega)
  have d5 : decide ((m : Int) < 0) = false := decide_eq_false (by omega)
  obtain ⟨A, hA⟩ : ∃ A, moreV 1 s.data.toList = A := ⟨_, rfl⟩
  have bA : 0 ≤ A ∧ A < 4294967296 := by rw [← hA]; exact moreV_bd _ _
  obtain ⟨L, H, f1, f2, f3, f4, f5, f6, f7⟩ := facts s m A hA
  have pL : 0 ≤ (m : Int) * L := Int.mul_nonneg (by omega) f3
  have pH : (m : Int) * L ≤ 65535000 := Int.le_trans (Int.mul_le_mul (show (m : Int) ≤ 1000 by omega) (show L ≤ 65535 by omega) f3 (by decide)) (by decide)
  have g1 : (H + m * L).tmod 65521 = (H + m * L) % 65521 := Int.tmod_eq_emod_of_nonneg (by omega)
  have g2 : 0 ≤ (H + m * L) % 65521 := by omega
  have g3 : (H + m * L) % 65521 < 65521 := by omega
  have g4 := or16 L ((H + m * L) % 65521) f3 f4 g2 (by omega)
  have rs : sumV [s] = A := hA
  have RS := Lib.hid rs
  have F7 := Lib.hid f7
  have G4 := Lib.hid g4
  clear f7 g4 rs hA
  obtain ⟨zs, hzs⟩ : ∃ zs : ByteArray, ⟨(List.replicate m (0 : UInt8)).toArray⟩ = zs := ⟨_, rfl⟩
  have hzz : zs.size ≤ 1000 := by rw [← hzs]; show (List.replicate m (0 : UInt8)).toArray.size ≤ _; simp; omega
  rw [hzs] at F7
  go_enter Try.func6, Try.ntmps6
  go_wp2_with fail
  refine (works_any _).mono ?_
  rintro r w1 ⟨rfl, b1⟩
  have z1 := b1.size
  have hmk := makeZ m w1 hm
  go_wp2_with fail
  clear hmk
  have sz : w1.heap.size + 1 = (w1.alloc (.cells (madeCells #[.int .u8 0] m) 5)).heap.size := by simp
  rw [sz]
  have hb2 : (w1.alloc (.cells (madeCells #[.int .u8 0] m) 5)).heap[w1.heap.size]? = some (.cells (madeCells #[.int .u8 0] m) 5 (0, 0)) := heap_alloc_new _ _
  have b2 := b1.alloc z1 (.cells (madeCells #[.int .u8 0] m) 5)
  clear b1
  generalize w1.alloc (.cells (madeCells #[.int .u8 0] m) 5) = w2 at *
  generalize w1.heap.size = B at *
  refine (sum_new [s] 1 _ _ rfl (by decide) (by simp only [List.mem_singleton]; rintro t rfl; omega) _ (by rfl)).mono ?_
  rintro r w3 ⟨rfl, rfl⟩
  rw [RS.out]
  have b3 := b2.alloc b2.size (Obj.cells #[.string s] 9)
  have hb3 : (w2.alloc (Obj.cells #[.string s] 9)).heap[B]? = some (.cells (madeCells #[.int .u8 0] m) 5 (0, 0)) := by
    rw [Below.heap_alloc _ _ _ (by omega)]; exact hb2
  clear b2 hb2
  generalize w2.alloc (Obj.cells #[.string s] 9) = w3 at *
  have hcv : (convert 28 9 (.slice (some ⟨B, 0, none⟩) m m)).run Try.prog w3 = .ok (.string zs) w3 := by
    rw [← hzs]
    refine Oct.run_string_of _ _ _ 5 _ _ (List.replicate m 0) m (by simp) (by kernel_rfl) (by kernel_rfl) (by kernel_rfl) (fun j hj => ?_)
    rw [Oct.addr_add]
    unfold World.cell?
    rw [hb3]
    simp [madeCells, hj, Nat.mod_one]
  clear hb3
  go_wp2_with fail
  refine (sum_new [s, zs] 2 _ _ rfl (by decide) (by simp; omega) _ (by rfl)).mono ?_
  rintro r w4 ⟨rfl, rfl⟩
  rw [F7.out]
  have b4 := b3.alloc b3.size (Obj.cells #[.string s, .string zs] 9)
  clear b3 hcv
  generalize w3.alloc (Obj.cells #[.string s, .string zs] 9) = w4 at *
  have g4 := G4.out
  generalize (H + m * L) % 65521 = HH at *
  go_wp2_with fail
  go_ret
  exact ⟨rfl, b4⟩

set_option maxRecDepth 100000 in
theorem lifted (os : Os) (started : os.Started) (H : Type) (enc : TypeId × Value → H) :
    ReturnsInHanded {} Try.checked os 6 .any (Rows.adlerZerosSpec.pre6 enc Try.prog Try.f6 Rows.adlerZerosRow.domain false) (Rows.adlerZerosSpec.post enc Try.prog Try.f6 false true false false) := by
  refine returnsInHanded_of_change (C := Try.checked) own started (by kernel_rfl) Try.func6
    (ChangeSpec.witness6 (enc := enc) (C := Try.checked) false ⟨#[], #[.string ByteArray.empty, .int .i64 0], []⟩ 8 (by kernel_rfl) (by kernel_rfl) (by kernel_rfl) (by kernel_rfl)) ?_
  intro W base args ds gs before hval0 hW hcnd _
  have hval : ∀ (j : Nat) t v, Try.f6.params[j]? = some t → args[j]? = some v → Value.okWide Try.prog W .any base t v := hval0
  have hW' := hW
  obtain ⟨p, q, hA0, hV, rfl, hfz, hnd⟩ := hW
  have hA : DataW.TrodAll enc Try.prog W 0 (fun _ => true) true Try.f6.params.toList args.toList ds p := hA0
  rw [Try.params6] at hA hval
  obtain ⟨v0, vs0, d0, ds0, p0, q0, hargs, rfl, rfl, h0, r0⟩ := trodAll_cons hA
  obtain ⟨v1, vs1, d1, ds1, p1, q1, rfl, rfl, rfl, h1, r1⟩ := trodAll_cons r0
  obtain ⟨rfl, rfl, rfl⟩ := trodAll_nil r1
  obtain rfl : args = #[v0, v1] := by cases args; simp_all
  obtain ⟨rfl, rfl⟩ := trodVars_none hV
  have k0 := h0
  have lt0 : ∀ x ∈ p0, x.block < W.heap.size := by obtain ⟨m, hm⟩ := k0; exact DataW.trod_lt m _ _ _ hm
  obtain ⟨a0, rfl, rfl, rfl, w0⟩ := open_string Try.underlying9 (hval 0 9 v0 rfl rfl) h0
  have k1 := h1
  have lt1 : ∀ x ∈ p1, x.block < W.heap.size := by obtain ⟨m, hm⟩ := k1; exact DataW.trod_lt m _ _ _ hm
  obtain ⟨a1, rfl, rfl, rfl, w1⟩ := open_int Try.underlying3 (hval 1 3 v1 rfl rfl) h1
  clear hA0 hval0
  refine (walk a0 a1 w0 W).mono fun e W' ⟨he, bel⟩ => ?_
  subst he
  exact ⟨_, rfl, _, _, _, [], _, [], hW', trodAll_mk1 (shut_bool Try.underlying4 _), (trodAll_cons_mk (Below.trod laidOut (by kernel_rfl) (of_decide_eq_true (by kernel_rfl)) k0 bel lt0) (trodAll_cons_mk (Below.trod laidOut (by kernel_rfl) (of_decide_eq_true (by kernel_rfl)) k1 bel lt1) trodAll_mk0)), rfl, bel.frame _, fun h => by cases h⟩

theorem over : Rows.adlerZerosRow.holds Try.pinned (OpenSpec.ofChange Rows.adlerZerosSpec) :=
  OpenClaim.holds_of_wide 6 Try.f6 rfl rfl rfl rfl rfl rfl rfl ⟨rfl, rfl, rfl, rfl, rfl⟩ rfl rfl rfl rfl rfl (by kernel_rfl) Try.func6 (by kernel_rfl)
    (of_decide_eq_true (by kernel_rfl)) (by unfold Func.isWrapper; first | (rw [if_pos (by decide +kernel)]; kernel_rfl) | (rw [if_neg (by decide +kernel)]; exact ⟨rfl, rfl⟩))
    (fun os started H enc _ => lifted os started H enc)

theorem proved : Rows.AdlerZerosSaid := over
end Go.Proofs.Ythfehckdlogbaaa.adlerZeros
