/-
  Proved: whatever is asked of bitio.Reader over whatever bytes, in whatever order, each answer, and what is left, is just what the document's reference says (statement BitioReads). Conditions: none.
-/
import Derived.Test.YtdgoaccnjlkdcaaRows
import Derived.Test.YtdgoaccnjlkdcaaBitRfB
import Derived.WalkKit
import Derived.ProofKit
import Derived.OpenShut
import Derived.ShutString
import Derived.ChangeOld
import Derived.Below
import Derived.Lib.SmallJoins
import Derived.Deep.Slices
namespace Go.Proofs.Ytdgoaccnjlkdcaa.bitioReads
open Go.Proofs.Ytdgoaccnjlkdcaa.Bit
open Go.ChangeShapes Go.WideShapes Go.ChangeAt Go.RowKit
open Go.ChangeMaps (open_string shut_string)
set_option linter.unusedVariables false

theorem own : ownKnob Try.prog.godebug = none := by kernel_rfl
theorem laidOut : laidOutB Try.prog = true := by kernel_rfl

theorem grown_alloc (w : World) (o : Obj) : w.grownBy (w.alloc o) none := ⟨rfl, rfl, rfl, by simp, fun k hk _ => Below.heap_alloc w o k hk⟩

theorem early (a : Option Addr) (len cap : Nat) (A : Nat → Act4) (s : ByteArray) (w : World) (hA : IsActs w a len A) (ht : s.size ≤ maxLen) (hg : overB len A = true ∨ 60 < s.size) :
    Calls Try.prog 4 #[.string s, .slice a len cap] w fun e w' => e = .returned (.bool true) ∧ Below w.heap.size w w' := by
  unfold maxLen at ht
  have HA := Lib.hid hA
  cases ho : overB len A with
  | true =>
    have HO := Lib.hid ho
    clear hA ho hg
    go_enter Try.func4, Try.ntmps4
    go_wp2_with fail
    refine (works_any _).mono ?_
    rintro r w1 ⟨rfl, b1⟩
    go_wp2_with fail
    refine (over_any _ _ _ A _ (HA.out.below b1)).mono ?_
    rintro r w2 ⟨rfl, rfl⟩
    rw [HO.out]
    go_wp2_with fail
    go_ret
    exact ⟨rfl, b1⟩
  | false =>
    have h60 : 60 < s.size := by
      rcases hg with h | h
      · rw [ho] at h; cases h
      · exact h
    have HO := Lib.hid ho
    clear hA ho hg
    go_enter Try.func4, Try.ntmps4
    go_wp2_with fail
    refine (works_any _).mono ?_
    rintro r w1 ⟨rfl, b1⟩
    go_wp2_with fail
    refine (over_any _ _ _ A _ (HA.out.below b1)).mono ?_
    rintro r w2 ⟨rfl, rfl⟩
    rw [HO.out]
    go_wp2_with fail
    go_ret
    exact ⟨rfl, b1⟩

set_option maxRecDepth 100000 in
set_option maxHeartbeats 8000000 in
theorem main (a : Option Addr) (len cap : Nat) (A : Nat → Act4) (s : ByteArray) (w : World) (hA : IsActs w a len A) (ho : overB len A = false) (hs : s.size ≤ 60) :
    Calls Try.prog 4 #[.string s, .slice a len cap] w fun e w' => e = .returned (.bool true) ∧ Below w.heap.size w w' := by
  have hB := Nat.le_refl w.heap.size
  obtain ⟨hlen, _⟩ := overB_yes ho
  have HO := Lib.hid ho
  have HA := Lib.hid hA
  have htl := tb_length s
  obtain ⟨q, hq⟩ : ∃ q, (tb s).length = q := ⟨_, rfl⟩
  rw [hq] at htl
  have HQ := Lib.hid hq
  have hq480 : q ≤ 480 := by omega
  have TL := Lib.hid htl
  clear ho hA htl hq
  go_enter Try.func4, Try.ntmps4
  go_wp2_with fail
  refine (works_any _).mono ?_
  rintro r w1 ⟨rfl, b1⟩
  go_wp2_with fail
  refine (over_any _ _ _ A _ (HA.out.below b1)).mono ?_
  rintro r w2 ⟨rfl, rfl⟩
  rw [HO.out]
  go_wp2_with fail
  refine (rnew_any _ _).mono ?_
  rintro r w2 ⟨rfl, r2, b2⟩
  have bl2 := below_more b1 hB b2
  have z1 := b1.size
  clear b1 b2
  generalize w1.heap.size = B1 at *
  go_wp2_with fail
  refine (all_any _ _ (by omega)).mono ?_
  rintro r w3 ⟨u, rfl, m3, b3, f3⟩
  have r3 := r2.below b3
  have bl3 := below_more bl2 hB b3
  have l2 : B1 < w2.heap.size := r2.lt
  have z2 : w2.heap.size ≤ w3.heap.size := b3.size
  obtain ⟨au, cu, rfl, hsh⟩ := m3.shape
  have uB : ∀ i, (Value.slice au (tb s).length cu).ownBlock = some i → i < w3.heap.size ∧ w2.heap.size ≤ i := fun i hi => ⟨(World.ownsRow.lt m3 i hi).2, f3 i hi⟩
  have m3' : BlAt w3 (.slice au q cu) (tb s) := by have := m3; rw [HQ.out] at this; exact this
  rw [HQ.out] at uB ⊢
  clear hsh r2 bl2 b3 f3 m3
  have r4 := r3.kept (grown_alloc w3 (.cells #[.slice au q cu, .int .i64 0, .int .i64 0] 49)) (by simp)
  have m4 := m3'.alloc (.cells #[.slice au q cu, .int .i64 0, .int .i64 0] 49)
  have bl4 := below_alloc bl3 hB (.cells #[.slice au q cu, .int .i64 0, .int .i64 0] 49)
  have f4 : RfAt (w3.alloc (.cells #[.slice au q cu, .int .i64 0, .int .i64 0] 49)) w3.heap.size (.slice au q cu) (tb s) 0 false := ⟨heap_alloc_new _ _, m4⟩
  clear r3 m3' bl3 m4
  go_wp2_with fail
  generalize w3.alloc (.cells #[.slice au q cu, .int .i64 0, .int .i64 0] 49) = w4 at *
  have hB12 : B1 < w3.heap.size := by omega
  have u1 : (Value.slice au q cu).ownBlock ≠ some B1 := fun e => by have := (uB B1 e).2; omega
  have u2 : (Value.slice au q cu).ownBlock ≠ some w3.heap.size := fun e => by have := (uB _ e).1; omega
  have z3 : w.heap.size ≤ w3.heap.size := by omega
  clear uB
  generalize w3.heap.size = B2 at *
  go_loopw [9] (fun i wr => ∃ (k p : Nat) (e : Bool), k ≤ len ∧ i = .int .i64 k ∧ p ≤ q ∧ RdAt 62 wr B1 s p e ∧ RfAt wr B2 (.slice au q cu) (tb s) p e ∧ Below w.heap.size w wr) (fun i _ => len - (intOf i).toNat)
  case atStart => exact ⟨0, 0, false, Nat.zero_le _, rfl, Nat.zero_le _, r4, f4, bl4⟩
  case round =>
    clear r4 f4 bl4
    obtain ⟨k, p, e, hk, rfl, hp, r5, f5, bl5⟩ := hrel
    by_cases hlt : k < len
    · obtain ⟨b, off, rfl, hb, hcc⟩ := HA.out.2.1 (by omega)
      obtain ⟨c0, c1, c2, c3⟩ := hcc k hlt
      have d0 := (bl5.cell (p := ⟨b, off + k * 4, none⟩) hb).trans c0
      have d1 := (bl5.cell (p := ⟨b, off + k * 4 + 1, none⟩) hb).trans c1
      have d2 := (bl5.cell (p := ⟨b, off + k * 4 + 2, none⟩) hb).trans c2
      have d3 := (bl5.cell (p := ⟨b, off + k * 4 + 3, none⟩) hb).trans c3
      clear hcc c0 c1 c2 c3
      obtain ⟨c, hcA⟩ : ∃ c, A k = c := ⟨_, rfl⟩
      rw [hcA] at d0 d1 d2 d3
      clear hcA
      obtain ⟨K, N, V, S⟩ := c
      simp only at d0 d1 d2 d3
      have i0 : (0 : Int) ≤ k := by omega
      have i1 : (k : Int) < len := by omega
      have r6 := r5.kept (grown_alloc wr (.cells #[.int .i64 K, .int .i64 N, .int .i64 V, .string S] 31)) (by simp)
      have f6 := f5.below ((Below.refl wr.heap.size wr).alloc (Nat.le_refl _) (.cells #[.int .i64 K, .int .i64 N, .int .i64 V, .string S] 31))
      have bl6 := below_alloc bl5 hB (.cells #[.int .i64 K, .int .i64 N, .int .i64 V, .string S] 31)
      have a6 : (wr.alloc (.cells #[.int .i64 K, .int .i64 N, .int .i64 V, .string S] 31)).heap[wr.heap.size]? = some (.cells #[.int .i64 K, .int .i64 N, .int .i64 V, .string S] 31 (0, 0)) := heap_alloc_new _ _
      have e0 : wr.heap.size < (wr.alloc (.cells #[.int .i64 K, .int .i64 N, .int .i64 V, .string S] 31)).heap.size := by simp
      have y1 : B1 < wr.heap.size := r5.lt
      have y2 : B2 < wr.heap.size := f5.lt
      have hpT : p ≤ (tb s).length := by rw [HQ.out]; exact hp
      clear r5 f5 bl5
      by_cases t01 : K.tmod 4 = 0 ∨ K.tmod 4 = 1
      · have key : ((K.tmod 4 == 0) = true) ∨ ((K.tmod 4 == 0) = false ∧ (K.tmod 4 == 1) = true) := by
          rcases t01 with h | h
          · left; simp [h]
          · right; simp [h]
        clear t01
        rcases key with T0 | ⟨T0, T1⟩
        all_goals
          go_wp2_with fail
          clear d0 d1 d2 d3
          generalize wr.alloc (.cells #[.int .i64 K, .int .i64 N, .int .i64 V, .string S] 31) = w6 at *
          have e1 : w6.cell? ⟨wr.heap.size, 1, none⟩ = some (.int .i64 N) := by rw [cell_of_row w6 _ 1 _ _ _ a6]; rfl
          generalize wr.heap.size = Bl at *
          clear a6
          go_region_held3 (fun w' => w'.cell? ⟨Bl, 1, none⟩ = some (.int .i64 N)) (first | exact e1 | exact hk7 | exact hk8)
            (first
              | (go_at_call 23; refine (rbits_any B1 s p e _ _ (show RdAt _ w6.drew _ _ _ _ from r6) hpT (by omega)).mono ?_; rintro r w7 ⟨rfl, r7, g7⟩; have g7' : w6.grownBy w7 (some B1) := ⟨g7.os, g7.tape, g7.output, g7.size, g7.block⟩; have f7 := f6.kept g7' (by omega) u1; have bl7 := below_grow bl6 hB g7' z1; have z7 : w6.heap.size ≤ w7.heap.size := g7'.size; have hk7 : w7.cell? ⟨Bl, 1, none⟩ = some (.int .i64 N) := (World.cell?_of_block (w := w6) (w' := w7) (a := ⟨Bl, 1, none⟩) (g7'.block Bl e0 (by simp; omega))).trans e1)
              | (go_at_call 24; refine (rfbits_any B2 _ (tb s) p e _ _ f7 hpT (by rw [HQ.out]; omega)).mono ?_; rintro r w8 ⟨rfl, f8, g8⟩; have r8 := r7.kept g8 (by simp; omega); have bl8 := below_grow bl7 hB g8 z3; have hk8 : w8.cell? ⟨Bl, 1, none⟩ = some (.int .i64 N) := (World.cell?_of_block (w := w7) (w' := w8) (a := ⟨Bl, 1, none⟩) (g8.block Bl (by omega) (by simp; omega))).trans hk7))
          obtain ⟨p9, hp9e⟩ : ∃ p9, rI (tb s) p e (cnt N) = p9 := ⟨_, rfl⟩
          obtain ⟨e9, he9⟩ : ∃ e9, (!rOk (tb s) p e (cnt N)) = e9 := ⟨_, rfl⟩
          have hp9 : p9 ≤ q := by rw [← hp9e, ← HQ.out]; exact rI_le hpT
          rw [hp9e, he9] at r8 f8
          clear hp9e he9 r6 f6 bl6 r7 f7 bl7 g7 g7' g8 hk7 hk8 e1 e0
          have r9 := r8
          have f9 := f8
          have bl9 := bl8
          clear r8 f8 bl8
          generalize w8 = w9 at *
          generalize rV (tb s) p e (cnt N) = vv at *
          have hp9q : p9 ≤ (tb s).length := by rw [HQ.out]; exact hp9
          obtain ⟨c0, c1, c2, _, _⟩ := f9.cells
          have k1 : IntKind.i64.wrap (8 * (s.size : Int)) = 8 * s.size := IntWalk.i64_in _ (by omega)
          have k2 : IntKind.i64.wrap (8 * (s.size : Int) - p9) = ((q - p9 : Nat) : Int) := by
            have := TL.out
            rw [show 8 * (s.size : Int) - p9 = ((q - p9 : Nat) : Int) by omega]; exact IntWalk.i64_in _ (by omega)
          have C1 : Hid (∀ n, Calls Try.prog 29 #[.pointer (some ⟨B1, 0, none⟩)] (w9.drewN n) fun r' w'' => r' = .returned (.int .i64 p9) ∧ ∃ m, w'' = w9.drewN m) := fun n => quiet_w (rat_any B1 s p9 e9 (w9.drewN n) r9)
          have C2 : Hid (∀ n, Calls Try.prog 30 #[.pointer (some ⟨B1, 0, none⟩)] (w9.drewN n) fun r' w'' => r' = .returned (.int .i64 (q - p9 : Nat)) ∧ ∃ m, w'' = w9.drewN m) := fun n => by
            have := rleft_any B1 s p9 e9 (w9.drewN n) r9 hp9q (by omega)
            rw [HQ.out] at this
            exact Calls.quiet_of this
          have C3 : Hid (∀ n, Calls Try.prog 31 #[.pointer (some ⟨B1, 0, none⟩)] (w9.drewN n) fun r' w'' => r' = .returned (.int .i64 (errI e9)) ∧ ∃ m, w'' = w9.drewN m) := fun n => quiet_w (rerr_any B1 s p9 e9 (w9.drewN n) r9)
          have R9 := Lib.hid r9
          have F9 := Lib.hid f9
          have B9 := Lib.hid bl9
          clear r9 f9 bl9 hp9q
          generalize errI e9 = er at *
          go_wp2_with fail
          go_quiet ((first | (go_at_call 29; with_reducible exact C1.out _) | (go_at_call 30; with_reducible exact C2.out _) | (go_at_call 31; with_reducible exact C3.out _)))
          have HH := Lib.hid (And.intro (show RdAt _ (w9.drewN nq) B1 s p9 e9 from R9.out) (And.intro (F9.out.draws nq) (below_draws B9.out nq)))
          generalize w9.drewN nq = w10 at *
          clear C1 C2 C3 R9 F9 B9 c0 c1 c2 k1 k2
          go_wp2_with fail
          refine ⟨⟨k + 1, p9, e9, by omega, by go_num, hp9, HH.out.1, HH.out.2.1, HH.out.2.2⟩, ?_⟩
          simp [intOf]; omega
      have t0 : ¬ K.tmod 4 = 0 := fun h => t01 (.inl h)
      have t1 : ¬ K.tmod 4 = 1 := fun h => t01 (.inr h)
      clear t01
      have T0 : (K.tmod 4 == 0) = false := by simp [t0]
      have T1 : (K.tmod 4 == 1) = false := by simp [t1]
      by_cases t2 : K.tmod 4 = 2
      · have T2 : (K.tmod 4 == 2) = true := by simp [t2]
        clear t0 t1 t2
        go_wp2_with fail
        clear d0 d1 d2 d3 a6
        generalize wr.alloc (.cells #[.int .i64 K, .int .i64 N, .int .i64 V, .string S] 31) = w6 at *
        refine (ralign_any B1 s p e _ r6 hpT (by omega)).mono ?_
        rintro r w7 ⟨rfl, r7, g7⟩
        have f7 := f6.kept g7 (by omega) u1
        have bl7 := below_grow bl6 hB g7 z1
        clear r6 f6 bl6 g7
        go_wp2_with fail
        refine (rfalign_any B2 _ (tb s) p e _ f7 hpT (by rw [HQ.out]; omega)).mono ?_
        rintro r w8 ⟨rfl, f8, g8⟩
        have r8 := r7.kept g8 (by simp; omega)
        have bl8 := below_grow bl7 hB g8 z3
        clear r7 f7 bl7 g8
        obtain ⟨p9, hp9e⟩ : ∃ p9, rI (tb s) p e (gap p) = p9 := ⟨_, rfl⟩
        obtain ⟨e9, he9⟩ : ∃ e9, (!rOk (tb s) p e (gap p)) = e9 := ⟨_, rfl⟩
        have hp9 : p9 ≤ q := by rw [← hp9e, ← HQ.out]; exact rI_le hpT
        rw [hp9e, he9] at r8 f8
        clear hp9e he9 e0
        have r9 := r8
        have f9 := f8
        have bl9 := bl8
        clear r8 f8 bl8
        generalize w8 = w9 at *
        generalize rV (tb s) p e (gap p) = vv at *
        have hp9q : p9 ≤ (tb s).length := by rw [HQ.out]; exact hp9
        obtain ⟨c0, c1, c2, _, _⟩ := f9.cells
        have k1 : IntKind.i64.wrap (8 * (s.size : Int)) = 8 * s.size := IntWalk.i64_in _ (by omega)
        have k2 : IntKind.i64.wrap (8 * (s.size : Int) - p9) = ((q - p9 : Nat) : Int) := by
          have := TL.out
          rw [show 8 * (s.size : Int) - p9 = ((q - p9 : Nat) : Int) by omega]; exact IntWalk.i64_in _ (by omega)
        have C1 : Hid (∀ n, Calls Try.prog 29 #[.pointer (some ⟨B1, 0, none⟩)] (w9.drewN n) fun r' w'' => r' = .returned (.int .i64 p9) ∧ ∃ m, w'' = w9.drewN m) := fun n => quiet_w (rat_any B1 s p9 e9 (w9.drewN n) r9)
        have C2 : Hid (∀ n, Calls Try.prog 30 #[.pointer (some ⟨B1, 0, none⟩)] (w9.drewN n) fun r' w'' => r' = .returned (.int .i64 (q - p9 : Nat)) ∧ ∃ m, w'' = w9.drewN m) := fun n => by
          have := rleft_any B1 s p9 e9 (w9.drewN n) r9 hp9q (by omega)
          rw [HQ.out] at this
          exact Calls.quiet_of this
        have C3 : Hid (∀ n, Calls Try.prog 31 #[.pointer (some ⟨B1, 0, none⟩)] (w9.drewN n) fun r' w'' => r' = .returned (.int .i64 (errI e9)) ∧ ∃ m, w'' = w9.drewN m) := fun n => quiet_w (rerr_any B1 s p9 e9 (w9.drewN n) r9)
        have R9 := Lib.hid r9
        have F9 := Lib.hid f9
        have B9 := Lib.hid bl9
        clear r9 f9 bl9 hp9q
        generalize errI e9 = er at *
        go_wp2_with fail
        go_quiet ((first | (go_at_call 29; with_reducible exact C1.out _) | (go_at_call 30; with_reducible exact C2.out _) | (go_at_call 31; with_reducible exact C3.out _)))
        have HH := Lib.hid (And.intro (show RdAt _ (w9.drewN nq) B1 s p9 e9 from R9.out) (And.intro (F9.out.draws nq) (below_draws B9.out nq)))
        generalize w9.drewN nq = w10 at *
        clear C1 C2 C3 R9 F9 B9 c0 c1 c2 k1 k2
        go_wp2_with fail
        refine ⟨⟨k + 1, p9, e9, by omega, by go_num, hp9, HH.out.1, HH.out.2.1, HH.out.2.2⟩, ?_⟩
        simp [intOf]; omega
      by_cases t3 : K.tmod 4 = 3
      · have T2 : (K.tmod 4 == 2) = false := by simp [t2]
        have T3 : (K.tmod 4 == 3) = true := by simp [t3]
        clear t0 t1 t2 t3
        go_wp2_with fail
        clear d0 d1 d2 d3
        generalize wr.alloc (.cells #[.int .i64 K, .int .i64 N, .int .i64 V, .string S] 31) = w6 at *
        have e1 : w6.cell? ⟨wr.heap.size, 1, none⟩ = some (.int .i64 N) := by rw [cell_of_row w6 _ 1 _ _ _ a6]; rfl
        generalize wr.heap.size = Bl at *
        clear a6
        go_region_held3 (fun w' => w'.cell? ⟨Bl, 1, none⟩ = some (.int .i64 N)) (first | exact e1 | exact hk7 | exact hk8)
          (first
            | (go_at_call 27; refine (rbytes_any B1 s p e _ _ (show RdAt _ w6.drew _ _ _ _ from r6) hpT (by omega)).mono ?_; rintro r w7 ⟨rfl, r7, g7⟩; have g7' : w6.grownBy w7 (some B1) := ⟨g7.os, g7.tape, g7.output, g7.size, g7.block⟩; have f7 := f6.kept g7' (by omega) u1; have bl7 := below_grow bl6 hB g7' z1; have z7 : w6.heap.size ≤ w7.heap.size := g7'.size; have hk7 : w7.cell? ⟨Bl, 1, none⟩ = some (.int .i64 N) := (World.cell?_of_block (w := w6) (w' := w7) (a := ⟨Bl, 1, none⟩) (g7'.block Bl e0 (by simp; omega))).trans e1)
            | (go_at_call 28; refine (rfbytes_any B2 _ s p e _ _ f7 hpT (by omega)).mono ?_; rintro r w8 ⟨rfl, f8, g8⟩; have r8 := r7.kept g8 (by simp; omega); have bl8 := below_grow bl7 hB g8 z3; have hk8 : w8.cell? ⟨Bl, 1, none⟩ = some (.int .i64 N) := (World.cell?_of_block (w := w7) (w' := w8) (a := ⟨Bl, 1, none⟩) (g8.block Bl (by omega) (by simp; omega))).trans hk7))
        obtain ⟨p9, hp9e⟩ : ∃ p9, yI (tb s) p e N = p9 := ⟨_, rfl⟩
        obtain ⟨e9, he9⟩ : ∃ e9, (!yOk (tb s) p e N) = e9 := ⟨_, rfl⟩
        have hp9 : p9 ≤ q := by rw [← hp9e, ← HQ.out]; exact yI_le hpT
        rw [hp9e, he9] at r8 f8
        clear hp9e he9 r6 f6 bl6 r7 f7 bl7 g7 g7' g8 hk7 hk8 e1 e0
        have r9 := r8
        have f9 := f8
        have bl9 := bl8
        clear r8 f8 bl8
        generalize w8 = w9 at *
        generalize yS s p e N = vv at *
        have hp9q : p9 ≤ (tb s).length := by rw [HQ.out]; exact hp9
        obtain ⟨c0, c1, c2, _, _⟩ := f9.cells
        have k1 : IntKind.i64.wrap (8 * (s.size : Int)) = 8 * s.size := IntWalk.i64_in _ (by omega)
        have k2 : IntKind.i64.wrap (8 * (s.size : Int) - p9) = ((q - p9 : Nat) : Int) := by
          have := TL.out
          rw [show 8 * (s.size : Int) - p9 = ((q - p9 : Nat) : Int) by omega]; exact IntWalk.i64_in _ (by omega)
        have C1 : Hid (∀ n, Calls Try.prog 29 #[.pointer (some ⟨B1, 0, none⟩)] (w9.drewN n) fun r' w'' => r' = .returned (.int .i64 p9) ∧ ∃ m, w'' = w9.drewN m) := fun n => quiet_w (rat_any B1 s p9 e9 (w9.drewN n) r9)
        have C2 : Hid (∀ n, Calls Try.prog 30 #[.pointer (some ⟨B1, 0, none⟩)] (w9.drewN n) fun r' w'' => r' = .returned (.int .i64 (q - p9 : Nat)) ∧ ∃ m, w'' = w9.drewN m) := fun n => by
          have := rleft_any B1 s p9 e9 (w9.drewN n) r9 hp9q (by omega)
          rw [HQ.out] at this
          exact Calls.quiet_of this
        have C3 : Hid (∀ n, Calls Try.prog 31 #[.pointer (some ⟨B1, 0, none⟩)] (w9.drewN n) fun r' w'' => r' = .returned (.int .i64 (errI e9)) ∧ ∃ m, w'' = w9.drewN m) := fun n => quiet_w (rerr_any B1 s p9 e9 (w9.drewN n) r9)
        have R9 := Lib.hid r9
        have F9 := Lib.hid f9
        have B9 := Lib.hid bl9
        clear r9 f9 bl9 hp9q
        generalize errI e9 = er at *
        go_wp2_with fail
        go_quiet ((first | (go_at_call 29; with_reducible exact C1.out _) | (go_at_call 30; with_reducible exact C2.out _) | (go_at_call 31; with_reducible exact C3.out _)))
        have HH := Lib.hid (And.intro (show RdAt _ (w9.drewN nq) B1 s p9 e9 from R9.out) (And.intro (F9.out.draws nq) (below_draws B9.out nq)))
        generalize w9.drewN nq = w10 at *
        clear C1 C2 C3 R9 F9 B9 c0 c1 c2 k1 k2
        go_wp2_with fail
        refine ⟨⟨k + 1, p9, e9, by omega, by go_num, hp9, HH.out.1, HH.out.2.1, HH.out.2.2⟩, ?_⟩
        simp [intOf]; omega
      · have T2 : (K.tmod 4 == 2) = false := by simp [t2]
        have T3 : (K.tmod 4 == 3) = false := by simp [t3]
        clear t0 t1 t2 t3
        have r9 := r6
        have f9 := f6
        have bl9 := bl6
        clear r6 f6 bl6 a6 e0
        go_wp2_with fail
        clear d0 d1 d2 d3
        generalize wr.alloc (.cells #[.int .i64 K, .int .i64 N, .int .i64 V, .string S] 31) = w9 at *
        have hpq : p ≤ (tb s).length := by rw [HQ.out]; exact hp
        obtain ⟨c0, c1, c2, _, _⟩ := f9.cells
        have k1 : IntKind.i64.wrap (8 * (s.size : Int)) = 8 * s.size := IntWalk.i64_in _ (by omega)
        have k2 : IntKind.i64.wrap (8 * (s.size : Int) - p) = ((q - p : Nat) : Int) := by
          have := TL.out
          rw [show 8 * (s.size : Int) - p = ((q - p : Nat) : Int) by omega]; exact IntWalk.i64_in _ (by omega)
        have C1 : Hid (∀ n, Calls Try.prog 29 #[.pointer (some ⟨B1, 0, none⟩)] (w9.drewN n) fun r' w'' => r' = .returned (.int .i64 p) ∧ ∃ m, w'' = w9.drewN m) := fun n => quiet_w (rat_any B1 s p e (w9.drewN n) r9)
        have C2 : Hid (∀ n, Calls Try.prog 30 #[.pointer (some ⟨B1, 0, none⟩)] (w9.drewN n) fun r' w'' => r' = .returned (.int .i64 (q - p : Nat)) ∧ ∃ m, w'' = w9.drewN m) := fun n => by
          have := rleft_any B1 s p e (w9.drewN n) r9 hpq (by omega)
          rw [HQ.out] at this
          exact Calls.quiet_of this
        have C3 : Hid (∀ n, Calls Try.prog 31 #[.pointer (some ⟨B1, 0, none⟩)] (w9.drewN n) fun r' w'' => r' = .returned (.int .i64 (errI e)) ∧ ∃ m, w'' = w9.drewN m) := fun n => quiet_w (rerr_any B1 s p e (w9.drewN n) r9)
        have R9 := Lib.hid r9
        have F9 := Lib.hid f9
        have B9 := Lib.hid bl9
        clear r9 f9 bl9 hpq
        generalize errI e = er at *
        go_quiet ((first | (go_at_call 29; with_reducible exact C1.out _) | (go_at_call 30; with_reducible exact C2.out _) | (go_at_call 31; with_reducible exact C3.out _)))
        have HH := Lib.hid (And.intro (show RdAt _ (w9.drewN nq) B1 s p e from R9.out) (And.intro (F9.out.draws nq) (below_draws B9.out nq)))
        generalize w9.drewN nq = w10 at *
        clear C1 C2 C3 R9 F9 B9 c0 c1 c2 k1 k2
        go_wp2_with fail
        refine ⟨⟨k + 1, p, e, by omega, by go_num, hp, HH.out.1, HH.out.2.1, HH.out.2.2⟩, ?_⟩
        simp [intOf]; omega
    · obtain rfl : k = len := by omega
      have BL := Lib.hid bl5
      clear r5 f5 bl5
      go_wp2_with fail
      go_ret
      exact ⟨rfl, BL.out⟩

theorem walk (s : ByteArray) (a : Option Addr) (len cap : Nat) (A : Nat → Act4) (w : World) (hs : s.size ≤ maxLen) (hA : IsActs w a len A) :
    Calls Try.prog 4 #[.string s, .slice a len cap] w fun e w' => e = .returned (.bool true) ∧ Below w.heap.size w w' := by
  by_cases hg : overB len A = true ∨ 60 < s.size
  · exact early a len cap A s w hA hs hg
  · exact main a len cap A s w hA (by cases ho : overB len A with | true => exact absurd (.inl ho) hg | false => rfl) (by omega)

set_option maxRecDepth 100000 in
theorem lifted (os : Os) (started : os.Started) (H : Type) (enc : TypeId × Value → H) :
    ReturnsInHanded {} Try.checked os 4 .any (Rows.bitioReadsSpec.pre6 enc Try.prog Try.f4 Rows.bitioReadsRow.domain false) (Rows.bitioReadsSpec.post enc Try.prog Try.f4 false true false false) := by
  refine returnsInHanded_of_change (C := Try.checked) own started (by kernel_rfl) Try.func4
    (ChangeSpec.witness6 (enc := enc) (C := Try.checked) false ⟨#[], #[.string ByteArray.empty, .slice none 0 0], []⟩ 8 (by kernel_rfl) (by kernel_rfl) (by kernel_rfl) (by kernel_rfl)) ?_
  intro W base args ds gs before hval0 hW hcnd _
  have hval : ∀ (j : Nat) t v, Try.f4.params[j]? = some t → args[j]? = some v → Value.okWide Try.prog W .any base t v := hval0
  have hW' := hW
  obtain ⟨p, q, hA0, hV, rfl, hfz, hnd⟩ := hW
  have hA : DataW.TrodAll enc Try.prog W 0 (fun _ => true) true Try.f4.params.toList args.toList ds p := hA0
  rw [Try.params4] at hA hval
  obtain ⟨v0, vs0, d0, ds0, p0, q0, hargs, rfl, rfl, h0, r0⟩ := trodAll_cons hA
  obtain ⟨v1, vs1, d1, ds1, p1, q1, rfl, rfl, rfl, h1, r1⟩ := trodAll_cons r0
  obtain ⟨rfl, rfl, rfl⟩ := trodAll_nil r1
  obtain rfl : args = #[v0, v1] := by cases args; simp_all
  obtain ⟨rfl, rfl⟩ := trodVars_none hV
  have k0 := h0
  have lt0 : ∀ x ∈ p0, x.block < W.heap.size := by obtain ⟨m, hm⟩ := k0; exact DataW.trod_lt m _ _ _ hm
  obtain ⟨a0, rfl, rfl, rfl, w0⟩ := open_string Try.underlying9 (hval 0 9 v0 rfl rfl) h0
  have k1 := h1
  have lt1 : ∀ x ∈ p1, x.block < W.heap.size := by obtain ⟨m, hm⟩ := k1; exact DataW.trod_lt m _ _ _ hm
  obtain ⟨a1, len1, cap1, rfl⟩ := okWide_slice Try.underlying22 (hval 1 22 v1 rfl rfl)
  obtain ⟨A1, w1⟩ := acts_view h1
  clear hA0 hval0
  refine (walk a0 a1 len1 cap1 A1 W w0 w1).mono fun e W' ⟨he, bel⟩ => ?_
  subst he
  exact ⟨_, rfl, _, _, _, [], _, [], hW', trodAll_mk1 (shut_bool Try.underlying4 _), (trodAll_cons_mk (Below.trod laidOut (by kernel_rfl) (of_decide_eq_true (by kernel_rfl)) k0 bel lt0) (trodAll_cons_mk (Below.trod laidOut (by kernel_rfl) (of_decide_eq_true (by kernel_rfl)) k1 bel lt1) trodAll_mk0)), rfl, bel.frame _, fun h => by cases h⟩

theorem over : Rows.bitioReadsRow.holds Try.pinned (OpenSpec.ofChange Rows.bitioReadsSpec) :=
  OpenClaim.holds_of_wide 4 Try.f4 rfl rfl rfl rfl rfl rfl rfl ⟨rfl, rfl, rfl, rfl, rfl⟩ rfl rfl rfl rfl rfl (by kernel_rfl) Try.func4 (by kernel_rfl)
    (of_decide_eq_true (by kernel_rfl)) (by unfold Func.isWrapper; first | (rw [if_pos (by decide +kernel)]; kernel_rfl) | (rw [if_neg (by decide +kernel)]; exact ⟨rfl, rfl⟩))
    (fun os started H enc _ => lifted os started H enc)

theorem proved : Rows.BitioReadsSaid := over
end Go.Proofs.Ytdgoaccnjlkdcaa.bitioReads
