/-
  The program of layer 17 (rre): the document's example.
-/
import Derived.Test.YtmjjbapahgejmaaRreSays
import Derived.Test.YtmjjbapahgejmaaPlnRefG
import Derived.Test.YtmjjbapahgejmaaAllRow17
import Derived.Deep.Slices
namespace Go.Proofs.Ytmjjbapahgejmaa.Rre
open Go.ChangeShapes Go.WideShapes Go.ChangeAt Go.RowKit Lz RowG RegVal Pln
open Go.Proofs.Ytmjjbapahgejmaa.Fmt (Fm FmAt standard_any std_wf)
set_option linter.unusedVariables false
set_option linter.unusedSimpArgs false
set_option maxRecDepth 100000

theorem ints_si {H : Type} {enc : TypeId × Value → H} {W : World} {a : Option Addr} {len cap : Nat} {d : DataW H} {p : List MemPlace} (h : DataW.Trod enc Try.prog W 0 (fun _ => true) true 22 (.slice a len cap) d p) :
    ∃ L : List Int, SW W (.slice a len cap) L ∧ L.length ≤ maxLen ∧ L.length = len ∧ (∀ x ∈ L, (Lit.int .i64 x).wf = true) ∧ Room (.slice a len cap) := by
  obtain ⟨fuel, hf⟩ := h
  rcases Go.Deep.open_slice Try.underlying22 hf with ⟨hcs, _⟩ | ⟨x, l, c, m, n, D, Pl, hcs, _, hl, hm, hmm, _, hx⟩
  · simp [Value.cells] at hcs
    obtain ⟨rfl, rfl, rfl⟩ := hcs
    exact ⟨[], (SI.nil W).sw, by simp, rfl, fun x h => by simp at h, room_of (Nat.le_refl _)⟩
  · simp [Value.cells] at hcs
    obtain ⟨rfl, rfl, rfl⟩ := hcs
    have h1 : Try.prog.cellsOf 3 = 1 := by kernel_rfl
    rw [h1] at hx
    have key : ∀ i, i < len → ∃ k : Int, W.cell? (x.add i) = some (.int .i64 k) ∧ (Lit.int .i64 k).wf = true := by
      intro i hi
      have him : i < m := by rw [hmm]; simp; omega
      obtain ⟨cs', h1, h2⟩ := hx i him
      obtain ⟨_, hlen, hcell⟩ := World.cells?_some h1
      obtain ⟨k0, e0, _, w0⟩ := DataW.trod_int Try.underlying3 h2
      have h3 := hcell 0 (by decide)
      subst e0
      have e : (x.add (i * 1)).add 0 = x.add i := by
        rw [Nat.mul_one]
        obtain ⟨b, off, spot⟩ := x
        cases spot <;> simp [Addr.add]
      rw [e] at h3
      exact ⟨k0, by simpa using h3, w0⟩
    obtain ⟨A, hA⟩ := Go.Deep.choose_lt (α := Int) (p := fun i k => W.cell? (x.add i) = some (.int .i64 k) ∧ (Lit.int .i64 k).wf = true) key
    refine ⟨(List.range len).map A, ⟨some x, cap, by simp, fun e => by simp at e, fun h0 => ?_⟩, by simp; omega, by simp, fun y hy => ?_, room_of hl⟩
    · have h0' : 0 < len := by simpa using h0
      obtain ⟨b, off, spot⟩ := x
      have hspot : spot = none := by
        have := (hA 0 h0').1
        simpa [Addr.add] using World.cell?_spot this
      subst hspot
      have hc : ∀ i, i < len → W.cell? ⟨b, off + i, none⟩ = some (.int .i64 (A i)) := fun i hi => by
        have := (hA i hi).1
        rwa [Go.WideShapes.add_plain] at this
      refine ⟨b, off, rfl, World.block_lt_of_cell? W _ (hc 0 h0'), fun i hi => ?_⟩
      have hi' : i < len := by simpa using hi
      rw [hc i hi', px_get hi]
      simp
    · obtain ⟨i, hi, rfl⟩ := List.mem_map.1 hy
      exact (hA i (List.mem_range.1 hi)).2
theorem wfs_small {l : List Int} (h : ∀ c ∈ l, 0 ≤ c ∧ c ≤ 100) : Wfs l := fun c hc => WalkArith.wf_i64 (by have := h c hc; omega)
set_option maxHeartbeats 4000000 in
theorem works_any (S : Says) (w : World) :
    Calls Try.prog 9 #[] w fun e w' => e = .returned (.bool true) ∧ Below w.heap.size w w' := by
  have V1 := Lib.hid (fun v w h => S.pieces 2 2 exL v 2 (by unfold Side; omega) (by unfold Side; omega) (by unfold Side; omega) (wfs_small (by decide)) (by decide) w h)
  have V2 := Lib.hid (fun w => standard_any w)
  have V3 := Lib.hid (fun v w h => S.encode Fm.std std_wf 2 2 exL v (by unfold Side; omega) (by unfold Side; omega) (wfs_small (by decide)) (by decide) w h)
  have V4 := Lib.hid (fun w => S.decode Fm.std std_wf 2 2 exT (by unfold Side; omega) (by unfold Side; omega) (fun _ => by decide) (by decide) w)
  have V5 := Lib.hid (fun u v w hL hM => refRow_any u v [1, 2, 2, 2] [1, 2, 2, 2] w hL hM (by decide) (by decide))
  have V6 := Lib.hid (fun v w h => S.ground [3, 2, 2] v (wfs_small (by decide)) (by decide) w h)
  rw [ex_pieces] at V1
  rw [ex_enc.1, ex_enc.2] at V3
  rw [ex_dec] at V4
  rw [ex_ground] at V6
  rw [show decide (([1, 2, 2, 2] : List Int) = [1, 2, 2, 2]) = true from rfl] at V5
  obtain ⟨hTl, hSz⟩ := ex_tail
  obtain ⟨ST, hST⟩ : ∃ ST, exS = ST := ⟨_, rfl⟩
  obtain ⟨TT, hTT⟩ : ∃ TT, exT = TT := ⟨_, rfl⟩
  rw [hST] at V3 hTl hSz
  rw [hTT] at V4 hTl
  have hv : Fm.std.v = .agg #[.int .i64 32, .int .i64 24, .bool false, .bool true, .int .i64 255, .int .i64 255, .int .i64 255, .int .i64 16, .int .i64 8, .int .i64 0] := rfl
  rw [hv] at V2 V3 V4
  have hxl : exL = [1, 2, 2, 2] := rfl
  rw [hxl] at V1 V3 V4
  have L1 := Lib.hid (lit4 w 1 2 2 2 3)
  have bb := (Pln.box1 w #[.int .i64 1, .int .i64 2, .int .i64 2, .int .i64 2] 3).1
  have HB1 := Lib.hid bb
  clear hv hxl hST hTT bb
  go_enter Try.func9, Try.ntmps9
  go_wp2_with fail
  generalize w.alloc (.cells #[.int .i64 1, .int .i64 2, .int .i64 2, .int .i64 2] 3) = A1 at *
  refine (V1.out _ _ L1.out).mono ?_
  rintro r w1 ⟨u, rfl, hu, b1⟩
  have HB2 := Lib.hid (HB1.out.trans (b1.mono HB1.out.size))
  have HU := Lib.hid hu
  clear b1 hu V1 L1 HB1
  go_wp2_with fail
  refine (V2.out _).mono ?_
  rintro r w2 ⟨rfl, b2⟩
  have HB3 := Lib.hid (HB2.out.trans (b2.mono HB2.out.size))
  have HU2 := Lib.hid (SP.below HU.out b2)
  have HB4 := Lib.hid (HB3.out.alloc HB3.out.size (.cells #[.int .i64 32, .int .i64 24, .bool false, .bool true, .int .i64 255, .int .i64 255, .int .i64 255, .int .i64 16, .int .i64 8, .int .i64 0] 37))
  have z1 := Pln.alloc_size w2 (.cells #[.int .i64 32, .int .i64 24, .bool false, .bool true, .int .i64 255, .int .i64 255, .int .i64 255, .int .i64 16, .int .i64 8, .int .i64 0] 37)
  have AT := Lib.hid (FmAt.box Fm.std w2 37)
  have HU3 := Lib.hid (SP.below HU2.out ((Below.refl _ _).alloc (Nat.le_refl _) (.cells #[.int .i64 32, .int .i64 24, .bool false, .bool true, .int .i64 255, .int .i64 255, .int .i64 255, .int .i64 16, .int .i64 8, .int .i64 0] 37)))
  clear b2 V2 HB2 HU HB3 HU2
  go_upto_region 3 with fail
  obtain ⟨n1, hn1⟩ : ∃ n1, w2.heap.size = n1 := ⟨_, rfl⟩
  rw [hn1] at z1 AT
  have hAT : FmAt (w2.alloc (.cells #[.int .i64 32, .int .i64 24, .bool false, .bool true, .int .i64 255, .int .i64 255, .int .i64 255, .int .i64 16, .int .i64 8, .int .i64 0] 37)) n1 Fm.std := AT.out
  have hB4 := HB4.out
  have hU3 := HU3.out
  clear AT HB4 HU3
  generalize w2.alloc (.cells #[.int .i64 32, .int .i64 24, .bool false, .bool true, .int .i64 255, .int .i64 255, .int .i64 255, .int .i64 16, .int .i64 8, .int .i64 0] 37) = A2 at *
  rw [hn1]
  have L2 := Lib.hid (lit4 A2 1 2 2 2 3)
  have bb := Pln.box1 A2 #[.int .i64 1, .int .i64 2, .int .i64 2, .int .i64 2] 3
  have HAT := Lib.hid (hAT.below bb.1 (by omega))
  have HB5 := Lib.hid (hB4.trans (bb.1.mono hB4.size))
  have HU4 := Lib.hid (SP.below hU3 bb.1)
  obtain ⟨a0, a1, a2, a3, a4, a5, a6, a7, a8, a9⟩ := hAT
  dsimp only [Fm.std] at a0 a1 a2 a3 a4 a5 a6 a7 a8 a9
  have hz2 : n1 < (A2.alloc (.cells #[.int .i64 1, .int .i64 2, .int .i64 2, .int .i64 2] 3)).heap.size := by
    have := Pln.alloc_size A2 (.cells #[.int .i64 1, .int .i64 2, .int .i64 2, .int .i64 2] 3)
    omega
  have HZ2 := Lib.hid hz2
  clear hB4 hU3 bb hz2 z1
  go_wp2_with fail
  generalize A2.alloc (.cells #[.int .i64 1, .int .i64 2, .int .i64 2, .int .i64 2] 3) = A3 at *
  refine (V3.out _ _ L2.out).mono ?_
  rintro r w3 ⟨rfl, b3⟩
  have hAT := HAT.out.below b3 HZ2.out
  have HB6 := Lib.hid (HB5.out.trans (b3.mono HB5.out.size))
  have HU5 := Lib.hid (SP.below HU4.out b3)
  have HAT3 := Lib.hid hAT
  have HZ3 := Lib.hid (Nat.lt_of_lt_of_le HZ2.out b3.size)
  clear b3 V3 L2 HAT HB5 HU4 HZ2 a0 a1 a2 a3 a4 a5 a6 a7 a8 a9
  go_upto_region 4 with fail
  obtain ⟨a0, a1, a2, a3, a4, a5, a6, a7, a8, a9⟩ := hAT
  dsimp only [Fm.std] at a0 a1 a2 a3 a4 a5 a6 a7 a8 a9
  go_wp2_with fail
  refine (V4.out _).mono ?_
  rintro r w4 ⟨u4, rfl, hu4, b4⟩
  have hS4 : SI w4 u4 [1, 2, 2, 2] := hu4
  obtain ⟨p4, c4, rfl⟩ := SI.form hS4
  have HS4 := Lib.hid hS4.sw
  have HB7 := Lib.hid (HB6.out.trans (b4.mono HB6.out.size))
  have HU6 := Lib.hid (SP.below HU5.out b4)
  clear b4 hu4 hS4 V4 HB6 HU5 HAT3 HZ3 a0 a1 a2 a3 a4 a5 a6 a7 a8 a9
  have L3 := Lib.hid (lit4 w4 1 2 2 2 3)
  have bb := (Pln.box1 w4 #[.int .i64 1, .int .i64 2, .int .i64 2, .int .i64 2] 3).1
  have HS5 := Lib.hid (HS4.out.below bb)
  have HB8 := Lib.hid (HB7.out.trans (bb.mono HB7.out.size))
  have HU7 := Lib.hid (SP.below HU6.out bb)
  have hl4 : ([1, 2, 2, 2] : List Int).length = 4 := rfl
  rw [hl4] at HS5
  clear bb HS4 HB7 HU6 hl4
  dsimp only [List.length_cons, List.length_nil]
  go_wp2_with fail
  generalize w4.alloc (.cells #[.int .i64 1, .int .i64 2, .int .i64 2, .int .i64 2] 3) = A4 at *
  refine (V5.out _ _ _ HS5.out L3.out).mono ?_
  rintro r w5 ⟨rfl, q, rfl⟩
  have HU8 := Lib.hid (show SP (A4.drewN q) u [⟨1, 0, 0, 1, 1⟩] from HU7.out)
  have HB9 := Lib.hid (below_q HB8.out q)
  clear HS5 L3 V5 HU7 HB8
  generalize A4.drewN q = A5 at *
  obtain ⟨ua, uc, rfl, huc⟩ := SP.cells HU8.out
  obtain ⟨g, off, rfl, _, hc⟩ := huc (by decide)
  obtain ⟨c0, c1, c2, c3, c4'⟩ := hc 0 (by decide)
  have k0 : A5.cell? ⟨g, off, none⟩ = some (.int .i64 1) := c0
  have k1 : A5.cell? ⟨g, off + 1, none⟩ = some (.int .i64 0) := c1
  have k2 : A5.cell? ⟨g, off + 2, none⟩ = some (.int .i64 0) := c2
  have k3 : A5.cell? ⟨g, off + 3, none⟩ = some (.int .i64 1) := c3
  have k4 : A5.cell? ⟨g, off + 4, none⟩ = some (.int .i64 1) := c4'
  have L4 := Lib.hid (lit3 A5 3 2 2 3)
  have bb := (Pln.box1 A5 #[.int .i64 3, .int .i64 2, .int .i64 2] 3).1
  have HB10 := Lib.hid (HB9.out.trans (bb.mono HB9.out.size))
  clear c0 c1 c2 c3 c4' hc huc HB9 HU8 bb
  dsimp only [List.length_cons, List.length_nil]
  go_wp2_with fail
  generalize A5.alloc (.cells #[.int .i64 3, .int .i64 2, .int .i64 2] 3) = A6 at *
  refine (V6.out _ _ L4.out).mono ?_
  rintro r w7 ⟨rfl, b7⟩
  have HB11 := Lib.hid (HB10.out.trans (b7.mono HB10.out.size))
  clear b7 L4 V6 HB10 k0 k1 k2 k3 k4
  go_wp2_with fail
  go_ret
  exact ⟨rfl, HB11.out⟩
end Go.Proofs.Ytmjjbapahgejmaa.Rre
