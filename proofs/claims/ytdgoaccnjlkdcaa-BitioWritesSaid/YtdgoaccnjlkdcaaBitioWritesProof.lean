/-
  Proved: whatever is put into bitio.Writer, in whatever order, the bytes and how many bits there are, are just what the document's reference says, all the time (statement BitioWrites). Conditions: none.
-/
import Derived.Test.YtdgoaccnjlkdcaaRows
import Derived.Test.YtdgoaccnjlkdcaaBitApp
import Derived.WalkKit
import Derived.ProofKit
import Derived.OpenShut
import Derived.ShutString
import Derived.ChangeOld
import Derived.Below
import Derived.Lib.SmallJoins
import Derived.Deep.Slices
namespace Go.Proofs.Ytdgoaccnjlkdcaa.bitioWrites
open Go.Proofs.Ytdgoaccnjlkdcaa.Bit
open Go.ChangeShapes Go.WideShapes Go.ChangeAt Go.RowKit
open Go.ChangeMaps (open_string shut_string)
set_option linter.unusedVariables false

theorem own : ownKnob Try.prog.godebug = none := by kernel_rfl
theorem laidOut : laidOutB Try.prog = true := by kernel_rfl

/-- What one act writes behind l (statement BitioWrites's acts). -/
def wAct2 (l : List Bool) (c : Act4) : List Bool :=
  if c.K.tmod 4 = 0 then l ++ bitsOf (cnt c.N) c.V
  else if c.K.tmod 4 = 1 then l ++ codeBits c.V c.N
  else if c.K.tmod 4 = 2 then pad l
  else if c.K.tmod 4 = 3 then pad l ++ tbits c.S.data.toList
  else l

def wl2 (A : Nat → Act4) : Nat → List Bool
  | 0 => []
  | k + 1 => wAct2 (wl2 A k) (A k)

theorem wAct2_len (l : List Bool) (c : Act4) (h : c.S.size ≤ 60) : (wAct2 l c).length ≤ l.length + 500 := by
  have hc := cnt_le c.N
  have hf : fre l ≤ 7 := by unfold fre; omega
  unfold wAct2
  split
  · rw [List.length_append, bitsOf_length]; omega
  split
  · rw [List.length_append, codeBits_length]; omega
  split
  · rw [pad_length]; omega
  split
  · rw [List.length_append, pad_length, tbits_length]; simp; omega
  · omega

theorem wl2_len (A : Nat → Act4) (n : Nat) (h : ∀ i, i < n → (A i).S.size ≤ 60) : ∀ k, k ≤ n → (wl2 A k).length ≤ 500 * k
  | 0, _ => by simp [wl2]
  | k + 1, hk => by
    have h1 := wl2_len A n h k (by omega)
    have h2 := wAct2_len (wl2 A k) (A k) (h k (by omega))
    show (wAct2 (wl2 A k) (A k)).length ≤ _
    omega

theorem early (a : Option Addr) (len cap : Nat) (A : Nat → Act4) (w : World) (hA : IsActs w a len A) (ho : overB len A = true) :
    Calls Try.prog 3 #[.slice a len cap] w fun e w' => e = .returned (.bool true) ∧ Below w.heap.size w w' := by
  have HA := Lib.hid hA
  have HO := Lib.hid ho
  clear hA ho
  go_enter Try.func3, Try.ntmps3
  go_wp2_with fail
  refine (works_any _).mono ?_
  rintro r w1 ⟨rfl, b1⟩
  go_wp2_with fail
  refine (over_any _ _ _ A _ (HA.out.below b1)).mono ?_
  rintro r w2 ⟨rfl, rfl⟩
  rw [HO.out]
  go_wp2_with fail
  go_ret
  exact ⟨rfl, b1⟩

set_option maxRecDepth 100000 in
set_option maxHeartbeats 8000000 in
theorem main (a : Option Addr) (len cap : Nat) (A : Nat → Act4) (w : World) (hA : IsActs w a len A) (ho : overB len A = false) :
    Calls Try.prog 3 #[.slice a len cap] w fun e w' => e = .returned (.bool true) ∧ Below w.heap.size w w' := by
  have hB := Nat.le_refl w.heap.size
  obtain ⟨hlen, hS⟩ := overB_yes ho
  have hW := wl2_len A len hS
  have HS := Lib.hid hS
  have HW := Lib.hid hW
  have HO := Lib.hid ho
  have HA := Lib.hid hA
  clear hS hW ho hA
  go_enter Try.func3, Try.ntmps3
  go_wp2_with fail
  refine (works_any _).mono ?_
  rintro r w1 ⟨rfl, b1⟩
  go_wp2_with fail
  refine (over_any _ _ _ A _ (HA.out.below b1)).mono ?_
  rintro r w2 ⟨rfl, rfl⟩
  rw [HO.out]
  have h1 := WrAt.new w1
  have bl1 := below_alloc b1 hB (.cells #[.slice none 0 0, .int .i64 0] 28)
  have z1 := b1.size
  clear b1
  go_wp2_with fail
  generalize w1.alloc (.cells #[.slice none 0 0, .int .i64 0] 28) = w2 at *
  generalize w1.heap.size = B at *
  go_loopw [6, 7] (fun mv i wr => ∃ (k : Nat) (u : Value), k ≤ len ∧ i = .int .i64 k ∧ WrAt wr B u (wl2 A k) ∧ BlAt wr mv (wl2 A k) ∧ Below w.heap.size w wr ∧ From w.heap.size u ∧ From w.heap.size mv) (fun _ i _ => len - (intOf i).toNat)
  case atStart => exact ⟨0, _, Nat.zero_le _, rfl, h1, BlAt.nil _, bl1, From.nil _, From.nil _⟩
  case round =>
    clear h1 bl1
    obtain ⟨k, u, hk, rfl, h3, m3, bl3, f3, q3⟩ := hrel
    by_cases hlt : k < len
    · obtain ⟨b, off, rfl, hb, hcc⟩ := HA.out.2.1 (by omega)
      obtain ⟨c0, c1, c2, c3⟩ := hcc k hlt
      have d0 := (bl3.cell (p := ⟨b, off + k * 4, none⟩) hb).trans c0
      have d1 := (bl3.cell (p := ⟨b, off + k * 4 + 1, none⟩) hb).trans c1
      have d2 := (bl3.cell (p := ⟨b, off + k * 4 + 2, none⟩) hb).trans c2
      have d3 := (bl3.cell (p := ⟨b, off + k * 4 + 3, none⟩) hb).trans c3
      clear hcc c0 c1 c2 c3
      have hs60 := HS.out k hlt
      have hstep : wl2 A (k + 1) = wAct2 (wl2 A k) (A k) := rfl
      have hl3 := HW.out k hk
      have hl4 := HW.out (k + 1) (by omega)
      obtain ⟨c, hcA⟩ : ∃ c, A k = c := ⟨_, rfl⟩
      rw [hcA] at d0 d1 d2 d3 hs60 hstep
      clear hcA
      obtain ⟨K, N, V, S⟩ := c
      simp only at d0 d1 d2 d3 hs60
      have i0 : (0 : Int) ≤ k := by omega
      have i1 : (k : Int) < len := by omega
      obtain ⟨L, hL⟩ : ∃ L, wl2 A (k + 1) = L := ⟨_, rfl⟩
      rw [hL] at hstep hl4
      have HL := Lib.hid hL
      have ST := Lib.hid hstep
      have hz3 := bl3.size
      have h4 := WrRaw.alloc h3 (.cells #[.int .i64 K, .int .i64 N, .int .i64 V, .string S] 31)
      have m4 := m3.alloc (.cells #[.int .i64 K, .int .i64 N, .int .i64 V, .string S] 31)
      have bl4 := below_alloc bl3 hB (.cells #[.int .i64 K, .int .i64 N, .int .i64 V, .string S] 31)
      have a4 : (wr.alloc (.cells #[.int .i64 K, .int .i64 N, .int .i64 V, .string S] 31)).heap[wr.heap.size]? = some (.cells #[.int .i64 K, .int .i64 N, .int .i64 V, .string S] 31 (0, 0)) := heap_alloc_new _ _
      have e0 : wr.heap.size < (wr.alloc (.cells #[.int .i64 K, .int .i64 N, .int .i64 V, .string S] 31)).heap.size := by simp
      have uB : ∀ i, u.ownBlock = some i → i < wr.heap.size := fun i hi => (h3.own.lt i hi).2
      have vB : ∀ i, u6.ownBlock = some i → i < wr.heap.size := fun i hi => (World.ownsRow.lt m3 i hi).2
      have lB : B < wr.heap.size := WrRaw.lt h3
      clear hstep hL h3 m3 bl3
      by_cases t0 : K.tmod 4 = 0
      · skip
        have T0 : (K.tmod 4 == 0) = true := by simp [t0]
        have S1 : Hid (L = wl2 A k ++ bitsOf (cnt N) V) := by rw [Hid, ST.out]; unfold wAct2; rw [if_pos t0]
        clear t0
        go_wp2_with fail
        clear d0 d1 d2 d3
        generalize wr.alloc (.cells #[.int .i64 K, .int .i64 N, .int .i64 V, .string S] 31) = w4 at *
        generalize wr.heap.size = Bl at *
        refine (wbits_any B u (wl2 A k) _ _ _ h4 (by omega)).mono ?_
        rintro r w5 ⟨rfl, u9, h5, b5, n5⟩
        rw [← S1.out] at h5
        have m5 := m4.underBut h4 b5
        have bl5 := below_but bl4 hB b5 z1 f3
        have f9 := f3.near n5 bl4.size
        have a5 : w5.heap[Bl]? = some (.cells #[.int .i64 K, .int .i64 N, .int .i64 V, .string S] 31 (0, 0)) := by
          rw [b5.block Bl e0 (by omega) (fun e => by have := uB Bl e.symm; omega)]; exact a4
        have p1 : w5.cell? ⟨Bl, 1, none⟩ = some (.int .i64 N) := by rw [cell_of_row w5 _ 1 _ _ _ a5]; rfl
        have p2 : w5.cell? ⟨Bl, 2, none⟩ = some (.int .i64 V) := by rw [cell_of_row w5 _ 2 _ _ _ a5]; rfl
        clear h4 m4 bl4 a4 b5 n5 f3 a5
        go_wp2_with fail
        refine (of_any _ _ _).mono ?_
        rintro r w6 ⟨x6, rfl, x6h, b6, _⟩
        have h6 := WrRaw.below h5 b6
        have m6 := m5.below b6
        have bl6 := below_more bl5 hB b6
        have M6 := Lib.hid m6
        have X6 := Lib.hid x6h.seesV
        have C6 := cnt_le N
        clear h5 m5 bl5 b6 x6h p1 p2
        go_wp2_with (at_builtin; refine wpList_append_sees _ rfl _ _ rfl u6 x6 (wl2 A k) (bitsOf (cnt N) V) rfl rfl M6.out X6.out (by rw [bitsOf_length]; omega) ?_; intro v9v w9 m9 g9 n9; rw [← S1.out] at m9; have h9 : WrAt w9 B u9 L := WrRaw.underRow h6 M6.out g9; have bl9 := below_row bl6 hB g9 q3; have v9 := q3.near n9 bl6.size; clear h6 m6 M6 X6 bl6 g9 n9 q3)
        obtain ⟨a9, cap9, rfl, _⟩ := m9.shape
        obtain ⟨n9, hn9⟩ : ∃ n9, L.length = n9 := ⟨_, rfl⟩
        have N9 := Lib.hid hn9
        have m9' : BlAt w9 (.slice a9 n9 cap9) L := by rw [← hn9]; exact m9
        have v9' : From w.heap.size (.slice a9 n9 cap9) := by rw [← hn9]; exact v9
        rw [hn9]
        have wl := wlen_any B u9 L w9 h9 (by omega)
        rw [hn9] at wl
        have WL := Lib.hid wl
        clear hn9 m9 v9 wl
        obtain ⟨s9, hs9⟩ : ∃ s9 : ByteArray, (⟨(pack L).toArray⟩ : ByteArray) = s9 := ⟨_, rfl⟩
        have S9 := Lib.hid hs9
        clear hs9
        go_wp2_with fail
        refine WL.out.mono ?_
        rintro r w10 ⟨rfl, nd, rfl⟩
        have h10 := WrRaw.draws h9 nd
        have m10 := m9'.draws nd
        have bl10 := below_draws bl9 nd
        clear h9 m9' bl9 WL
        generalize w9.drewN nd = w10 at *
        go_wp2_with fail
        refine (wstring_any B u9 L _ h10).mono ?_
        rintro r w11 ⟨rfl, rfl⟩
        rw [S9.out]
        go_wp2_with fail
        refine (text_any _ L _ (by omega) m10.seesV).mono ?_
        rintro r w11 ⟨rfl, b11⟩
        rw [S9.out]
        have HH := Lib.hid (And.intro (show WrAt w11 B u9 L from WrRaw.below h10 b11) (And.intro (m10.below b11) (And.intro (below_more bl10 hB b11) (And.intro f9 v9'))))
        clear h10 m10 bl10 b11 f9 v9'
        go_wp2_with fail
        refine ⟨⟨k + 1, u9, by omega, by go_num, ?_⟩, ?_⟩
        · rw [HL.out]; exact HH.out
        · simp [intOf]; omega
      by_cases t1 : K.tmod 4 = 1
      · skip
        have T0 : (K.tmod 4 == 0) = false := by simp [t0]
        have T1 : (K.tmod 4 == 1) = true := by simp [t1]
        have S1 : Hid (L = wl2 A k ++ codeBits V N) := by rw [Hid, ST.out]; unfold wAct2; rw [if_neg t0, if_pos t1]
        clear t0 t1
        have h5 := WrRaw.alloc h4 (.cells #[.int .i64 V, .int .i64 N] 35)
        have m5 := m4.alloc (.cells #[.int .i64 V, .int .i64 N] 35)
        have bl5 := below_alloc bl4 hB (.cells #[.int .i64 V, .int .i64 N] 35)
        have ac5 : ((wr.alloc (.cells #[.int .i64 K, .int .i64 N, .int .i64 V, .string S] 31)).alloc (.cells #[.int .i64 V, .int .i64 N] 35)).heap[(wr.alloc (.cells #[.int .i64 K, .int .i64 N, .int .i64 V, .string S] 31)).heap.size]? = some (.cells #[.int .i64 V, .int .i64 N] 35 (0, 0)) := heap_alloc_new _ _
        have a5 : ((wr.alloc (.cells #[.int .i64 K, .int .i64 N, .int .i64 V, .string S] 31)).alloc (.cells #[.int .i64 V, .int .i64 N] 35)).heap[wr.heap.size]? = some (.cells #[.int .i64 K, .int .i64 N, .int .i64 V, .string S] 31 (0, 0)) := by rw [Below.heap_alloc _ _ _ e0]; exact a4
        have ez : (wr.alloc (.cells #[.int .i64 K, .int .i64 N, .int .i64 V, .string S] 31)).heap.size = wr.heap.size + 1 := by simp
        rw [ez] at ac5
        have e1 : wr.heap.size + 1 < ((wr.alloc (.cells #[.int .i64 K, .int .i64 N, .int .i64 V, .string S] 31)).alloc (.cells #[.int .i64 V, .int .i64 N] 35)).heap.size := by simp
        clear h4 m4 bl4 a4 e0
        go_wp2_with fail
        clear d0 d1 d2 d3
        generalize (wr.alloc (.cells #[.int .i64 K, .int .i64 N, .int .i64 V, .string S] 31)).alloc (.cells #[.int .i64 V, .int .i64 N] 35) = w5 at *
        generalize wr.heap.size = Bl at *
        refine (wcode_any B u (wl2 A k) _ _ _ h5 (by omega)).mono ?_
        rintro r w6 ⟨rfl, u9, h6, b6, n6⟩
        rw [← S1.out] at h6
        have m6 := m5.underBut h5 b6
        have bl6 := below_but bl5 hB b6 z1 f3
        have f9 := f3.near n6 bl5.size
        have a6 : w6.heap[Bl]? = some (.cells #[.int .i64 K, .int .i64 N, .int .i64 V, .string S] 31 (0, 0)) := by
          rw [b6.block Bl (by omega) (by omega) (fun e => by have := uB Bl e.symm; omega)]; exact a5
        have ac6 : w6.heap[Bl + 1]? = some (.cells #[.int .i64 V, .int .i64 N] 35 (0, 0)) := by
          rw [b6.block (Bl + 1) e1 (by omega) (fun e => by have := uB (Bl + 1) e.symm; omega)]; exact ac5
        have z6 : Bl + 1 < w6.heap.size := (Array.getElem?_eq_some_iff.1 ac6).1
        have p1 : w6.cell? ⟨Bl, 1, none⟩ = some (.int .i64 N) := by rw [cell_of_row w6 _ 1 _ _ _ a6]; rfl
        have p2 : w6.cell? ⟨Bl + 1, 0, none⟩ = some (.int .i64 V) := by rw [cell_of_row w6 _ 0 _ _ _ ac6]; rfl
        have p3 : w6.cell? ⟨Bl + 1, 1, none⟩ = some (.int .i64 N) := by rw [cell_of_row w6 _ 1 _ _ _ ac6]; rfl
        have C6 := cnt_le N
        clear h5 m5 bl5 b6 n6 f3 a5 ac5
        go_wp2_with fail
        go_region_held3 (fun w' => w'.cell? ⟨Bl, 1, none⟩ = some (.int .i64 N) ∧ w'.cell? ⟨Bl + 1, 0, none⟩ = some (.int .i64 V) ∧ w'.cell? ⟨Bl + 1, 1, none⟩ = some (.int .i64 N)) (first | exact ⟨p1, p2, p3⟩ | exact hk7 | exact hk8 | exact hk9)
          (first
            | (refine step_append_sees rfl (.tmp 57) (.tmp 62) rfl u6 x8 (wl2 A k) (codeBits V N) (by simp [Act.eval]) (by simp [Act.eval]) m8 X8.out (by rw [codeBits_length]; omega) ?_; intro v9v w9 m9 g9 n9; have bl9 := below_row bl8 hB g9 q3; have h9 : WrAt w9 B u9 L := WrRaw.underRow h8 m8 g9; have hk9 : w9.cell? ⟨Bl, 1, none⟩ = some (.int .i64 N) ∧ w9.cell? ⟨Bl + 1, 0, none⟩ = some (.int .i64 V) ∧ w9.cell? ⟨Bl + 1, 1, none⟩ = some (.int .i64 N) := ⟨(World.cell?_of_block (w := w8) (w' := w9) (a := ⟨Bl, 1, none⟩) (g9.block Bl (by omega) (fun e => by have := vB Bl e.symm; omega))).trans hk8.1, (World.cell?_of_block (w := w8) (w' := w9) (a := ⟨Bl + 1, 0, none⟩) (g9.block (Bl + 1) (by omega) (fun e => by have := vB (Bl + 1) e.symm; omega))).trans hk8.2.1, (World.cell?_of_block (w := w8) (w' := w9) (a := ⟨Bl + 1, 1, none⟩) (g9.block (Bl + 1) (by omega) (fun e => by have := vB (Bl + 1) e.symm; omega))).trans hk8.2.2⟩)
            | (go_at_call 13; refine (refReverse_any _ _ _).mono ?_; rintro r w7 ⟨rfl, b7⟩; have b7' : Below w6.heap.size w6 w7 := ⟨b7.os, b7.tape, b7.output, b7.size, b7.block⟩; have h7 : WrAt w7 B u9 L := WrRaw.below h6 b7'; have m7 := m6.below b7'; have bl7 := below_more bl6 hB b7'; have z7 : w6.heap.size ≤ w7.heap.size := b7'.size; have hk7 : w7.cell? ⟨Bl, 1, none⟩ = some (.int .i64 N) ∧ w7.cell? ⟨Bl + 1, 0, none⟩ = some (.int .i64 V) ∧ w7.cell? ⟨Bl + 1, 1, none⟩ = some (.int .i64 N) := ⟨(b7'.cell (p := ⟨Bl, 1, none⟩) (show Bl < _ by omega)).trans p1, (b7'.cell (p := ⟨Bl + 1, 0, none⟩) z6).trans p2, (b7'.cell (p := ⟨Bl + 1, 1, none⟩) z6).trans p3⟩)
            | (go_at_call 11; refine (of_any _ _ _).mono ?_; rintro r w8 ⟨x8, rfl, x8h, b8, _⟩; have h8 : WrAt w8 B u9 L := WrRaw.below h7 b8; have m8 := m7.below b8; have bl8 := below_more bl7 hB b8; rw [bits_rev] at x8h; have X8 := Lib.hid x8h.seesV; have z8 : w7.heap.size ≤ w8.heap.size := b8.size; have hk8 : w8.cell? ⟨Bl, 1, none⟩ = some (.int .i64 N) ∧ w8.cell? ⟨Bl + 1, 0, none⟩ = some (.int .i64 V) ∧ w8.cell? ⟨Bl + 1, 1, none⟩ = some (.int .i64 N) := ⟨(b8.cell (p := ⟨Bl, 1, none⟩) (show Bl < _ by omega)).trans hk7.1, (b8.cell (p := ⟨Bl + 1, 0, none⟩) (show Bl + 1 < _ by omega)).trans hk7.2.1, (b8.cell (p := ⟨Bl + 1, 1, none⟩) (show Bl + 1 < _ by omega)).trans hk7.2.2⟩))
        rw [← S1.out] at m9
        have v9 := q3.near n9 bl8.size
        have z9 : Bl + 1 < w9.heap.size := by have := g9.size; omega
        obtain ⟨p4, p5, p6⟩ := hk9
        clear hk7 hk8 g9 n9 m8 h8 bl8 m7 h7 bl7 m6 h6 bl6 p1 p2 p3 X8 a6 ac6 q3
        have h9a := h9
        have m9a := m9
        have bl9a := bl9
        clear h9 m9 bl9
        go_wp2_with fail
        go_region_held3 (fun w' => w'.cell? ⟨Bl + 1, 0, none⟩ = some (.int .i64 V) ∧ w'.cell? ⟨Bl + 1, 1, none⟩ = some (.int .i64 N)) (first | exact ⟨p5, p6⟩ | exact hka | exact hkb)
          (first
            | (go_at_call 14; refine (reverse_any _ _ _).mono ?_; rintro r wa ⟨rfl, ba⟩; have ba' : Below w9.heap.size w9 wa := ⟨ba.os, ba.tape, ba.output, ba.size, ba.block⟩; have za : w9.heap.size ≤ wa.heap.size := ba'.size; have hka : wa.cell? ⟨Bl + 1, 0, none⟩ = some (.int .i64 V) ∧ wa.cell? ⟨Bl + 1, 1, none⟩ = some (.int .i64 N) := ⟨(ba'.cell (p := ⟨Bl + 1, 0, none⟩) z9).trans p5, (ba'.cell (p := ⟨Bl + 1, 1, none⟩) z9).trans p6⟩)
            | (go_at_call 13; refine (refReverse_any _ _ _).mono ?_; rintro r wb ⟨rfl, bb⟩; have hkb : wb.cell? ⟨Bl + 1, 0, none⟩ = some (.int .i64 V) ∧ wb.cell? ⟨Bl + 1, 1, none⟩ = some (.int .i64 N) := ⟨(bb.cell (p := ⟨Bl + 1, 0, none⟩) (show Bl + 1 < _ by omega)).trans hka.1, (bb.cell (p := ⟨Bl + 1, 1, none⟩) (show Bl + 1 < _ by omega)).trans hka.2⟩))
        have bc : Below w9.heap.size w9 wb := below_more ba' (Nat.le_refl _) bb
        have h9 : WrAt wb B u9 L := WrRaw.below h9a bc
        have m9 := m9a.below bc
        have bl9 := below_more bl9a hB bc
        clear hka hkb ba ba' bb bc h9a m9a bl9a p4 p5 p6
        clear z9 za
        generalize wb = w9 at *
        obtain ⟨a9, cap9, rfl, _⟩ := m9.shape
        obtain ⟨n9, hn9⟩ : ∃ n9, L.length = n9 := ⟨_, rfl⟩
        have N9 := Lib.hid hn9
        have m9' : BlAt w9 (.slice a9 n9 cap9) L := by rw [← hn9]; exact m9
        have v9' : From w.heap.size (.slice a9 n9 cap9) := by rw [← hn9]; exact v9
        rw [hn9]
        have wl := wlen_any B u9 L w9 h9 (by omega)
        rw [hn9] at wl
        have WL := Lib.hid wl
        clear hn9 m9 v9 wl
        obtain ⟨s9, hs9⟩ : ∃ s9 : ByteArray, (⟨(pack L).toArray⟩ : ByteArray) = s9 := ⟨_, rfl⟩
        have S9 := Lib.hid hs9
        clear hs9
        go_wp2_with fail
        refine WL.out.mono ?_
        rintro r w10 ⟨rfl, nd, rfl⟩
        have h10 := WrRaw.draws h9 nd
        have m10 := m9'.draws nd
        have bl10 := below_draws bl9 nd
        clear h9 m9' bl9 WL
        generalize w9.drewN nd = w10 at *
        go_wp2_with fail
        refine (wstring_any B u9 L _ h10).mono ?_
        rintro r w11 ⟨rfl, rfl⟩
        rw [S9.out]
        go_wp2_with fail
        refine (text_any _ L _ (by omega) m10.seesV).mono ?_
        rintro r w11 ⟨rfl, b11⟩
        rw [S9.out]
        have HH := Lib.hid (And.intro (show WrAt w11 B u9 L from WrRaw.below h10 b11) (And.intro (m10.below b11) (And.intro (below_more bl10 hB b11) (And.intro f9 v9'))))
        clear h10 m10 bl10 b11 f9 v9'
        go_wp2_with fail
        refine ⟨⟨k + 1, u9, by omega, by go_num, ?_⟩, ?_⟩
        · rw [HL.out]; exact HH.out
        · simp [intOf]; omega
      by_cases t2 : K.tmod 4 = 2
      · skip
        have T0 : (K.tmod 4 == 0) = false := by simp [t0]
        have T1 : (K.tmod 4 == 1) = false := by simp [t1]
        have T2 : (K.tmod 4 == 2) = true := by simp [t2]
        have S1 : Hid (L = pad (wl2 A k)) := by rw [Hid, ST.out]; unfold wAct2; rw [if_neg t0, if_neg t1, if_pos t2]
        clear t0 t1 t2
        go_wp2_with fail
        clear d0 d1 d2 d3
        generalize wr.alloc (.cells #[.int .i64 K, .int .i64 N, .int .i64 V, .string S] 31) = w4 at *
        generalize wr.heap.size = Bl at *
        refine (align_any B u (wl2 A k) _ h4).mono ?_
        rintro r w5 ⟨rfl, h5, b5⟩
        rw [← S1.out] at h5
        have m5 := m4.underBut h4 b5
        have bl5 := below_but bl4 hB b5 z1 f3
        clear h4 m4 bl4 a4 b5
        go_wp2_with fail
        refine (refAlign_any _ (wl2 A k) _ m5 (by omega)).mono ?_
        rintro r w9 ⟨v9v, rfl, m9, g9, n9⟩
        rw [← S1.out] at m9
        have h9 : WrAt w9 B u L := WrRaw.underRow h5 m5 g9
        have bl9 := below_row bl5 hB g9 q3
        have v9 := q3.near n9 bl5.size
        clear h5 m5 bl5 g9 n9 q3
        obtain ⟨a9, cap9, rfl, _⟩ := m9.shape
        obtain ⟨n9, hn9⟩ : ∃ n9, L.length = n9 := ⟨_, rfl⟩
        have N9 := Lib.hid hn9
        have m9' : BlAt w9 (.slice a9 n9 cap9) L := by rw [← hn9]; exact m9
        have v9' : From w.heap.size (.slice a9 n9 cap9) := by rw [← hn9]; exact v9
        rw [hn9]
        have wl := wlen_any B u L w9 h9 (by omega)
        rw [hn9] at wl
        have WL := Lib.hid wl
        clear hn9 m9 v9 wl
        obtain ⟨s9, hs9⟩ : ∃ s9 : ByteArray, (⟨(pack L).toArray⟩ : ByteArray) = s9 := ⟨_, rfl⟩
        have S9 := Lib.hid hs9
        clear hs9
        go_wp2_with fail
        refine WL.out.mono ?_
        rintro r w10 ⟨rfl, nd, rfl⟩
        have h10 := WrRaw.draws h9 nd
        have m10 := m9'.draws nd
        have bl10 := below_draws bl9 nd
        clear h9 m9' bl9 WL
        generalize w9.drewN nd = w10 at *
        go_wp2_with fail
        refine (wstring_any B u L _ h10).mono ?_
        rintro r w11 ⟨rfl, rfl⟩
        rw [S9.out]
        go_wp2_with fail
        refine (text_any _ L _ (by omega) m10.seesV).mono ?_
        rintro r w11 ⟨rfl, b11⟩
        rw [S9.out]
        have HH := Lib.hid (And.intro (show WrAt w11 B u L from WrRaw.below h10 b11) (And.intro (m10.below b11) (And.intro (below_more bl10 hB b11) (And.intro f3 v9'))))
        clear h10 m10 bl10 b11 f3 v9'
        go_wp2_with fail
        refine ⟨⟨k + 1, u, by omega, by go_num, ?_⟩, ?_⟩
        · rw [HL.out]; exact HH.out
        · simp [intOf]; omega
      by_cases t3 : K.tmod 4 = 3
      · skip
        have T0 : (K.tmod 4 == 0) = false := by simp [t0]
        have T1 : (K.tmod 4 == 1) = false := by simp [t1]
        have T2 : (K.tmod 4 == 2) = false := by simp [t2]
        have T3 : (K.tmod 4 == 3) = true := by simp [t3]
        have S1 : Hid (L = pad (wl2 A k) ++ tbits S.data.toList) := by rw [Hid, ST.out]; unfold wAct2; rw [if_neg t0, if_neg t1, if_neg t2, if_pos t3]
        clear t0 t1 t2 t3
        go_wp2_with fail
        clear d0 d1 d2 d3
        generalize wr.alloc (.cells #[.int .i64 K, .int .i64 N, .int .i64 V, .string S] 31) = w4 at *
        generalize wr.heap.size = Bl at *
        refine (wbytes_any B u (wl2 A k) S _ h4 (by omega) (by omega)).mono ?_
        rintro r w5 ⟨rfl, u9, h5, b5, n5⟩
        rw [← S1.out] at h5
        have m5 := m4.underBut h4 b5
        have bl5 := below_but bl4 hB b5 z1 f3
        have f9 := f3.near n5 bl4.size
        have a5 : w5.heap[Bl]? = some (.cells #[.int .i64 K, .int .i64 N, .int .i64 V, .string S] 31 (0, 0)) := by
          rw [b5.block Bl e0 (by omega) (fun e => by have := uB Bl e.symm; omega)]; exact a4
        have z5 : Bl < w5.heap.size := (Array.getElem?_eq_some_iff.1 a5).1
        have p1 : w5.cell? ⟨Bl, 3, none⟩ = some (.string S) := by rw [cell_of_row w5 _ 3 _ _ _ a5]; rfl
        have hpl : (pad (wl2 A k)).length ≤ 40000 := by rw [pad_length]; unfold fre; omega
        have htl : (tbits S.data.toList).length ≤ 480 := by rw [tbits_length]; simp; omega
        clear h4 m4 bl4 a4 b5 n5 f3 a5
        go_wp2_with fail
        go_region_held3 (fun w' => w'.cell? ⟨Bl, 3, none⟩ = some (.string S)) (first | exact p1 | exact hk7 | exact hk8 | exact hk9)
          (first
            | (refine step_append_sees rfl (.tmp 82) (.tmp 85) rfl v7 x8 (pad (wl2 A k)) (tbits S.data.toList) (by simp [Act.eval]) (by simp [Act.eval]) m8 X8.out (by omega) ?_; intro v9v w9 m9 g9 n9; have bl9 := below_row bl8 hB g9 q7; have h9 : WrAt w9 B u9 L := WrRaw.underRow h8 m8 g9; have hk9 : w9.cell? ⟨Bl, 3, none⟩ = some (.string S) := (World.cell?_of_block (w := w8) (w' := w9) (a := ⟨Bl, 3, none⟩) (g9.block Bl (by omega) (fun e => v7B e.symm))).trans hk8)
            | (go_at_call 16; refine (refAlign_any _ (wl2 A k) _ (show BlAt w5.drew _ _ from m5) (by omega)).mono ?_; rintro r w7 ⟨v7, rfl, m7, g7, n7⟩; have g7' : w5.grownBy w7 u6.ownBlock := ⟨g7.os, g7.tape, g7.output, g7.size, g7.block⟩; have h7 : WrAt w7 B u9 L := WrRaw.underRow h5 m5 g7'; have bl7 := below_row bl5 hB g7' q3; have q7 := q3.near (show Near w5 u6 v7 from n7) bl5.size; have v7B : v7.ownBlock ≠ some Bl := fun e => (by rcases n7 Bl e with h | h; (have := vB Bl h; omega); (have e5 : w5.drew.heap.size = w5.heap.size := rfl; omega)); have z7 : w5.heap.size ≤ w7.heap.size := g7'.size; have hk7 : w7.cell? ⟨Bl, 3, none⟩ = some (.string S) := (World.cell?_of_block (w := w5) (w' := w7) (a := ⟨Bl, 3, none⟩) (g7'.block Bl z5 (fun e => by have := vB Bl e.symm; omega))).trans p1)
            | (go_at_call 18; refine (all_any _ _ (by omega)).mono ?_; rintro r w8 ⟨x8, rfl, x8h, b8, _⟩; have h8 : WrAt w8 B u9 L := WrRaw.below h7 b8; have m8 := m7.below b8; have bl8 := below_more bl7 hB b8; have X8 : Hid (SeesV w8 x8 (tbits S.data.toList)) := x8h.seesV; have z8 : w7.heap.size ≤ w8.heap.size := b8.size; have hk8 : w8.cell? ⟨Bl, 3, none⟩ = some (.string S) := (b8.cell (p := ⟨Bl, 3, none⟩) (show Bl < _ by omega)).trans hk7))
        rw [← S1.out] at m9
        have v9 := q7.near n9 bl8.size
        clear hk7 hk8 hk9 g9 n9 m8 h8 bl8 m7 h7 bl7 m5 h5 bl5 p1 X8 q3 q7 g7 g7' n7 b8 x8h
        obtain ⟨a9, cap9, rfl, _⟩ := m9.shape
        obtain ⟨n9, hn9⟩ : ∃ n9, L.length = n9 := ⟨_, rfl⟩
        have N9 := Lib.hid hn9
        have m9' : BlAt w9 (.slice a9 n9 cap9) L := by rw [← hn9]; exact m9
        have v9' : From w.heap.size (.slice a9 n9 cap9) := by rw [← hn9]; exact v9
        rw [hn9]
        have wl := wlen_any B u9 L w9 h9 (by omega)
        rw [hn9] at wl
        have WL := Lib.hid wl
        clear hn9 m9 v9 wl
        obtain ⟨s9, hs9⟩ : ∃ s9 : ByteArray, (⟨(pack L).toArray⟩ : ByteArray) = s9 := ⟨_, rfl⟩
        have S9 := Lib.hid hs9
        clear hs9
        go_wp2_with fail
        refine WL.out.mono ?_
        rintro r w10 ⟨rfl, nd, rfl⟩
        have h10 := WrRaw.draws h9 nd
        have m10 := m9'.draws nd
        have bl10 := below_draws bl9 nd
        clear h9 m9' bl9 WL
        generalize w9.drewN nd = w10 at *
        go_wp2_with fail
        refine (wstring_any B u9 L _ h10).mono ?_
        rintro r w11 ⟨rfl, rfl⟩
        rw [S9.out]
        go_wp2_with fail
        refine (text_any _ L _ (by omega) m10.seesV).mono ?_
        rintro r w11 ⟨rfl, b11⟩
        rw [S9.out]
        have HH := Lib.hid (And.intro (show WrAt w11 B u9 L from WrRaw.below h10 b11) (And.intro (m10.below b11) (And.intro (below_more bl10 hB b11) (And.intro f9 v9'))))
        clear h10 m10 bl10 b11 f9 v9'
        go_wp2_with fail
        refine ⟨⟨k + 1, u9, by omega, by go_num, ?_⟩, ?_⟩
        · rw [HL.out]; exact HH.out
        · simp [intOf]; omega
      · skip
        have T0 : (K.tmod 4 == 0) = false := by simp [t0]
        have T1 : (K.tmod 4 == 1) = false := by simp [t1]
        have T2 : (K.tmod 4 == 2) = false := by simp [t2]
        have T3 : (K.tmod 4 == 3) = false := by simp [t3]
        have S1 : Hid (L = wl2 A k) := by rw [Hid, ST.out]; unfold wAct2; rw [if_neg t0, if_neg t1, if_neg t2, if_neg t3]
        clear t0 t1 t2 t3
        have h9 : WrAt (wr.alloc (.cells #[.int .i64 K, .int .i64 N, .int .i64 V, .string S] 31)) B u L := by rw [S1.out]; exact h4
        have m9 : BlAt (wr.alloc (.cells #[.int .i64 K, .int .i64 N, .int .i64 V, .string S] 31)) u6 L := by rw [S1.out]; exact m4
        have bl9 := bl4
        clear h4 m4 bl4 a4 e0
        have f9 := f3
        have v9 := q3
        clear f3 q3
        obtain ⟨a9, cap9, rfl, _⟩ := m9.shape
        obtain ⟨n9, hn9⟩ : ∃ n9, L.length = n9 := ⟨_, rfl⟩
        have N9 := Lib.hid hn9
        have m9' : BlAt (wr.alloc (.cells #[.int .i64 K, .int .i64 N, .int .i64 V, .string S] 31)) (.slice a9 n9 cap9) L := by rw [← hn9]; exact m9
        have v9' : From w.heap.size (.slice a9 n9 cap9) := by rw [← hn9]; exact v9
        rw [hn9]
        have wl := wlen_any B u L (wr.alloc (.cells #[.int .i64 K, .int .i64 N, .int .i64 V, .string S] 31)) h9 (by omega)
        rw [hn9] at wl
        have WL := Lib.hid wl
        clear hn9 m9 v9 wl uB vB
        obtain ⟨s9, hs9⟩ : ∃ s9 : ByteArray, (⟨(pack L).toArray⟩ : ByteArray) = s9 := ⟨_, rfl⟩
        have S9 := Lib.hid hs9
        clear hs9
        go_wp2_with fail
        clear d0 d1 d2 d3
        generalize wr.alloc (.cells #[.int .i64 K, .int .i64 N, .int .i64 V, .string S] 31) = w9 at *
        refine WL.out.mono ?_
        rintro r w10 ⟨rfl, nd, rfl⟩
        have h10 := WrRaw.draws h9 nd
        have m10 := m9'.draws nd
        have bl10 := below_draws bl9 nd
        clear h9 m9' bl9 WL
        generalize w9.drewN nd = w10 at *
        go_wp2_with fail
        refine (wstring_any B u L _ h10).mono ?_
        rintro r w11 ⟨rfl, rfl⟩
        rw [S9.out]
        go_wp2_with fail
        refine (text_any _ L _ (by omega) m10.seesV).mono ?_
        rintro r w11 ⟨rfl, b11⟩
        rw [S9.out]
        have HH := Lib.hid (And.intro (show WrAt w11 B u L from WrRaw.below h10 b11) (And.intro (m10.below b11) (And.intro (below_more bl10 hB b11) (And.intro f9 v9'))))
        clear h10 m10 bl10 b11 f9 v9'
        go_wp2_with fail
        refine ⟨⟨k + 1, u, by omega, by go_num, ?_⟩, ?_⟩
        · rw [HL.out]; exact HH.out
        · simp [intOf]; omega
    · obtain rfl : k = len := by omega
      have BL := Lib.hid bl3
      clear h3 m3 bl3 f3 q3
      go_wp2_with fail
      go_ret
      exact ⟨rfl, BL.out⟩

theorem walk (a : Option Addr) (len cap : Nat) (A : Nat → Act4) (w : World) (hA : IsActs w a len A) :
    Calls Try.prog 3 #[.slice a len cap] w fun e w' => e = .returned (.bool true) ∧ Below w.heap.size w w' := by
  cases ho : overB len A with
  | true => exact early a len cap A w hA ho
  | false => exact main a len cap A w hA ho

set_option maxRecDepth 100000 in
theorem lifted (os : Os) (started : os.Started) (H : Type) (enc : TypeId × Value → H) :
    ReturnsInHanded {} Try.checked os 3 .any (Rows.bitioWritesSpec.pre6 enc Try.prog Try.f3 Rows.bitioWritesRow.domain false) (Rows.bitioWritesSpec.post enc Try.prog Try.f3 false true false false) := by
  refine returnsInHanded_of_change (C := Try.checked) own started (by kernel_rfl) Try.func3
    (ChangeSpec.witness6 (enc := enc) (C := Try.checked) false ⟨#[], #[.slice none 0 0], []⟩ 8 (by kernel_rfl) (by kernel_rfl) (by kernel_rfl) (by kernel_rfl)) ?_
  intro W base args ds gs before hval0 hW hcnd _
  have hval : ∀ (j : Nat) t v, Try.f3.params[j]? = some t → args[j]? = some v → Value.okWide Try.prog W .any base t v := hval0
  have hW' := hW
  obtain ⟨p, q, hA0, hV, rfl, hfz, hnd⟩ := hW
  have hA : DataW.TrodAll enc Try.prog W 0 (fun _ => true) true Try.f3.params.toList args.toList ds p := hA0
  rw [Try.params3] at hA hval
  obtain ⟨v0, vs0, d0, ds0, p0, q0, hargs, rfl, rfl, h0, r0⟩ := trodAll_cons hA
  obtain ⟨rfl, rfl, rfl⟩ := trodAll_nil r0
  obtain rfl : args = #[v0] := by cases args; simp_all
  obtain ⟨rfl, rfl⟩ := trodVars_none hV
  have k0 := h0
  have lt0 : ∀ x ∈ p0, x.block < W.heap.size := by obtain ⟨m, hm⟩ := k0; exact DataW.trod_lt m _ _ _ hm
  obtain ⟨a0, len0, cap0, rfl⟩ := okWide_slice Try.underlying22 (hval 0 22 v0 rfl rfl)
  obtain ⟨A0, w0⟩ := acts_view h0
  clear hA0 hval0
  refine (walk a0 len0 cap0 A0 W w0).mono fun e W' ⟨he, bel⟩ => ?_
  subst he
  exact ⟨_, rfl, _, _, _, [], _, [], hW', trodAll_mk1 (shut_bool Try.underlying4 _), (trodAll_cons_mk (Below.trod laidOut (by kernel_rfl) (of_decide_eq_true (by kernel_rfl)) k0 bel lt0) trodAll_mk0), rfl, bel.frame _, fun h => by cases h⟩

theorem over : Rows.bitioWritesRow.holds Try.pinned (OpenSpec.ofChange Rows.bitioWritesSpec) :=
  OpenClaim.holds_of_wide 3 Try.f3 rfl rfl rfl rfl rfl rfl rfl ⟨rfl, rfl, rfl, rfl, rfl⟩ rfl rfl rfl rfl rfl (by kernel_rfl) Try.func3 (by kernel_rfl)
    (of_decide_eq_true (by kernel_rfl)) (by unfold Func.isWrapper; first | (rw [if_pos (by decide +kernel)]; kernel_rfl) | (rw [if_neg (by decide +kernel)]; exact ⟨rfl, rfl⟩))
    (fun os started H enc _ => lifted os started H enc)

theorem proved : Rows.BitioWritesSaid := over
end Go.Proofs.Ytdgoaccnjlkdcaa.bitioWrites
