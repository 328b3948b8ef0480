/-
  The program of layer 16 (plain): a row that is handed in; the document's example.
-/
import Derived.Test.YtbdlmcpdplmdnaaPlnPrgD
import Derived.Test.YtbdlmcpdplmdnaaPlnPrgG
import Derived.Test.YtbdlmcpdplmdnaaPlnPrgH
import Derived.Test.YtbdlmcpdplmdnaaFmtView
import Derived.Test.YtbdlmcpdplmdnaaFmtSays
namespace Go.Proofs.Ytbdlmcpdplmdnaa.Pln
open Go.ChangeShapes Go.WideShapes Go.ChangeAt Go.RowKit Lz RowG RegVal Fmt Oct
set_option linter.unusedVariables false
set_option linter.unusedSimpArgs false
set_option maxRecDepth 100000

theorem ints_si {H : Type} {enc : TypeId × Value → H} {W : World} {a : Option Addr} {len cap : Nat} {d : DataW H} {p : List MemPlace} (h : DataW.Trod enc Try.prog W 0 (fun _ => true) true 24 (.slice a len cap) d p) :
    ∃ L : List Int, SW W (.slice a len cap) L ∧ L.length ≤ maxLen ∧ L.length = len ∧ (∀ x ∈ L, (Lit.int .i64 x).wf = true) ∧ Room (.slice a len cap) := by
  obtain ⟨fuel, hf⟩ := h
  rcases Go.Deep.open_slice Try.underlying24 hf with ⟨hcs, _⟩ | ⟨x, l, c, m, n, D, Pl, hcs, _, hl, hm, hmm, _, hx⟩
  · simp [Value.cells] at hcs
    obtain ⟨rfl, rfl, rfl⟩ := hcs
    exact ⟨[], (SI.nil W).sw, by simp, rfl, fun x h => by simp at h, room_of (Nat.le_refl _)⟩
  · simp [Value.cells] at hcs
    obtain ⟨rfl, rfl, rfl⟩ := hcs
    have h1 : Try.prog.cellsOf 3 = 1 := by kernel_rfl
    rw [h1] at hx
    have key : ∀ i, i < len → ∃ k : Int, W.cell? (x.add i) = some (.int .i64 k) ∧ (Lit.int .i64 k).wf = true := by
      intro i hi
      have him : i < m := by rw [hmm]; simp; omega
      obtain ⟨cs', h1, h2⟩ := hx i him
      obtain ⟨_, hlen, hcell⟩ := World.cells?_some h1
      obtain ⟨k0, e0, _, w0⟩ := DataW.trod_int Try.underlying3 h2
      have h3 := hcell 0 (by decide)
      subst e0
      have e : (x.add (i * 1)).add 0 = x.add i := by
        rw [Nat.mul_one]
        obtain ⟨b, off, spot⟩ := x
        cases spot <;> simp [Addr.add]
      rw [e] at h3
      exact ⟨k0, by simpa using h3, w0⟩
    obtain ⟨A, hA⟩ := Go.Deep.choose_lt (α := Int) (p := fun i k => W.cell? (x.add i) = some (.int .i64 k) ∧ (Lit.int .i64 k).wf = true) key
    refine ⟨(List.range len).map A, ⟨some x, cap, by simp, fun e => by simp at e, fun h0 => ?_⟩, by simp; omega, by simp, fun y hy => ?_, room_of hl⟩
    · have h0' : 0 < len := by simpa using h0
      obtain ⟨b, off, spot⟩ := x
      have hspot : spot = none := by
        have := (hA 0 h0').1
        simpa [Addr.add] using World.cell?_spot this
      subst hspot
      have hc : ∀ i, i < len → W.cell? ⟨b, off + i, none⟩ = some (.int .i64 (A i)) := fun i hi => by
        have := (hA i hi).1
        rwa [Go.WideShapes.add_plain] at this
      refine ⟨b, off, rfl, World.block_lt_of_cell? W _ (hc 0 h0'), fun i hi => ?_⟩
      have hi' : i < len := by simpa using hi
      rw [hc i hi', px_get hi]
      simp
    · obtain ⟨i, hi, rfl⟩ := List.mem_map.1 hy
      exact (hA i (List.mem_range.1 hi)).2
def exT : ByteArray := ⟨#[3, 2, 1, 0, 120]⟩
theorem ex_raw : rawE Fm.std 1 1 exT = 0 ∧ rawN Fm.std 1 1 exT = 4 ∧ rawP Fm.std 1 1 exT = [66051] := by decide +kernel
theorem ex_bytes : rawB Fm.std [66051] = [3, 2, 1, 0] := by decide +kernel
theorem lit_sw (w : World) (x : Int) (T : TypeId) : SW (w.alloc (.cells #[.int .i64 x] T)) (.slice (some ⟨w.heap.size, 0, none⟩) 1 1) [x] := by
  refine ⟨_, _, rfl, fun e => by simp at e, fun _ => ⟨w.heap.size, 0, rfl, by simp, fun i hi => ?_⟩⟩
  obtain rfl : i = 0 := by simp at hi; omega
  exact (box1 w #[.int .i64 x] T).2 0 _ rfl
set_option maxHeartbeats 4000000 in
theorem works_any (w : World) :
    Calls Try.prog 7 #[] w fun e w' => e = .returned (.bool true) ∧ Below w.heap.size w w' := by
  have V1 := Lib.hid (fun w => standard_any w)
  have V2 := Lib.hid (fun w => rawOf_any Fm.std std_wf 1 1 (by decide) (by decide) exT (by decide) w)
  have V3 := Lib.hid (fun u v w hL hM => refRow_any u v [66051] [66051] w hL hM (by decide) (by decide))
  have V4 := Lib.hid (fun v w h => raw_any Fm.std std_wf v [66051] w h (by intro c hc; simp at hc; subst hc; decide) (by decide))
  obtain ⟨e1, e2, e3⟩ := ex_raw
  rw [e1, e2, e3] at V2
  rw [ex_bytes] at V4
  rw [show decide (([66051] : List Int) = [66051]) = true from rfl] at V3
  rw [show exT = ⟨#[3, 2, 1, 0, 120]⟩ from rfl] at V2
  have hv : Fm.std.v = .agg #[.int .i64 32, .int .i64 24, .bool false, .bool true, .int .i64 255, .int .i64 255, .int .i64 255, .int .i64 16, .int .i64 8, .int .i64 0] := rfl
  rw [hv] at V1 V2 V4
  clear e1 e2 e3 hv
  go_enter Try.func7, Try.ntmps7
  go_wp2_with fail
  refine (V1.out _).mono ?_
  rintro r w1 ⟨rfl, b1⟩
  have B1 := Lib.hid b1
  have B2 := Lib.hid (b1.alloc b1.size (.cells #[.int .i64 32, .int .i64 24, .bool false, .bool true, .int .i64 255, .int .i64 255, .int .i64 255, .int .i64 16, .int .i64 8, .int .i64 0] 23))
  have z1 := alloc_size w1 (.cells #[.int .i64 32, .int .i64 24, .bool false, .bool true, .int .i64 255, .int .i64 255, .int .i64 255, .int .i64 16, .int .i64 8, .int .i64 0] 23)
  have AT := Lib.hid (FmAt.box Fm.std w1 23)
  clear b1 V1 B1
  go_wp2_with fail
  obtain ⟨n1, hn1⟩ : ∃ n1, w1.heap.size = n1 := ⟨_, rfl⟩
  rw [hn1] at z1 AT
  have hAT : FmAt (w1.alloc (.cells #[.int .i64 32, .int .i64 24, .bool false, .bool true, .int .i64 255, .int .i64 255, .int .i64 255, .int .i64 16, .int .i64 8, .int .i64 0] 23)) n1 Fm.std := AT.out
  have hB2 := B2.out
  clear AT B2
  generalize w1.alloc (.cells #[.int .i64 32, .int .i64 24, .bool false, .bool true, .int .i64 255, .int .i64 255, .int .i64 255, .int .i64 16, .int .i64 8, .int .i64 0] 23) = A1 at *
  refine (V2.out _).mono ?_
  rintro r w2 ⟨u, rfl, h1, b2⟩
  obtain ⟨pu, cu, hpu⟩ := RowAt.shape h1
  subst hpu
  have hAT2 := hAT.below b2 (by omega)
  have hB3 := hB2.trans (b2.mono hB2.size)
  have hAB := b2.size
  have S1 := Lib.hid (IntsAt.si h1).sw
  have L1 := Lib.hid (lit_sw w2 66051 3)
  have bb := box1 w2 #[.int .i64 66051] 3
  have S2 := Lib.hid (S1.out.below bb.1)
  have HA3 := Lib.hid (hAT2.below bb.1 (by omega))
  have HB3 := Lib.hid (hB3.trans (bb.1.mono hB3.size))
  clear V2 b2 h1 hAT hAT2 hB2 hB3 bb
  simp only [List.length_cons, List.length_nil, Nat.zero_add] at S2
  go_wp2_with fail
  generalize w2.alloc (.cells #[.int .i64 66051] 3) = A2 at *
  refine (V3.out _ _ _ S2.out L1.out).mono ?_
  rintro r w3 ⟨rfl, q, rfl⟩
  have HA4 := Lib.hid (show FmAt (A2.drewN q) n1 Fm.std from HA3.out)
  have HB4 := Lib.hid (below_q HB3.out q)
  clear HA3 HB3 S2 L1 V3
  generalize A2.drewN q = A3 at *
  have L2 := Lib.hid (lit_sw A3 66051 3)
  have bb := box1 A3 #[.int .i64 66051] 3
  have HB5 := Lib.hid (HB4.out.trans (bb.1.mono HB4.out.size))
  obtain ⟨a0, a1, a2, a3, a4, a5, a6, a7, a8, a9⟩ := HA4.out
  dsimp only [Fm.std] at a0 a1 a2 a3 a4 a5 a6 a7 a8 a9
  clear bb HB4
  go_wp2_with fail
  generalize A3.alloc (.cells #[.int .i64 66051] 3) = A4 at *
  refine (V4.out _ _ L2.out).mono ?_
  rintro r w5 ⟨rfl, b5⟩
  have HB6 := Lib.hid (HB5.out.trans (b5.mono HB5.out.size))
  clear b5 a0 a1 a2 a3 a4 a5 a6 a7 a8 a9
  go_wp2_with fail
  go_ret
  exact ⟨rfl, HB6.out⟩
end Go.Proofs.Ytbdlmcpdplmdnaa.Pln
