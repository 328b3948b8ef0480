/-
  Contracts of the reference of layer 16 (plain): colours as bytes.
-/
import Derived.Test.YtbdlmcpdplmdnaaPlnRefC
namespace Go.Proofs.Ytbdlmcpdplmdnaa.Pln
open Go.ChangeShapes Go.WideShapes Go.ChangeAt Go.RowKit Lz RowG RegVal Fmt Oct
set_option linter.unusedVariables false
set_option maxRecDepth 100000

theorem val_lt {f : Fm} (h : f.ok = true) (c : Int) : f.val c < 4294967296 := by
  obtain ⟨k, j, l, s, t, u, n, H⟩ := f.is h
  rw [H.val_eq]
  have h1 := sum_lt H.three (a := downN (colZ c / 65536 % 256) (top k)) (b := downN (colZ c / 256 % 256) (top j)) (c := downN (colZ c % 256) (top l)) (down_le (by omega)) (down_le (by omega)) (down_le (by omega))
  have h2 : (2 : Nat) ^ n ≤ 2 ^ 32 := Nat.pow_le_pow_right (by decide) H.three.hn
  exact Nat.lt_of_lt_of_le h1 h2
/-- The bytes of colours. -/
def pixL (f : Fm) (c : Int) : List UInt8 := ordL f.big (Fm.sz f) ((f.val c : Nat) : Int)
def rawL (f : Fm) (l : List Int) : List UInt8 := l.flatMap (pixL f)
theorem ordL_length (b : Bool) (s : Nat) (n : Int) : (ordL b s n).length = s := by
  unfold ordL
  split
  · exact beL_length s n
  · exact leL_length s n
theorem pixL_length (f : Fm) (c : Int) : (pixL f c).length = Fm.sz f := ordL_length _ _ _
theorem rawL_length (f : Fm) (l : List Int) : (rawL f l).length = l.length * Fm.sz f := by
  unfold rawL
  induction l with
  | nil => simp
  | cons c l ih => rw [List.flatMap_cons, List.length_append, ih, pixL_length, List.length_cons, Nat.succ_mul]; omega
theorem rawL_snoc (f : Fm) (l : List Int) (c : Int) : rawL f (l ++ [c]) = rawL f l ++ pixL f c := by
  unfold rawL
  simp
def rwV (F vp p so sn st : Value) (k c z : Int) : Nat → Option Value
  | 0 => some so
  | 1 => some F
  | 2 => some F
  | 3 => some vp
  | 4 => some (.int .i64 k)
  | 5 => some p
  | 6 => some (.int .i64 c)
  | 7 => some (.int .i64 z)
  | 8 => some sn
  | _ => some st
set_option maxHeartbeats 1000000 in
theorem refRaw_any (f : Fm) (hf : f.ok = true) (vp : Value) (L : List Int) (w : World) (hL : SW w vp L) (hn : L.length ≤ 1000000) :
    Calls Try.prog 17 #[f.v, vp] w fun e w' => e = .returned (.string ⟨(rawL f L).toArray⟩) ∧ Below w.heap.size w w' := by
  have V := Lib.hid (fun (c : Int) w => refValue_f f hf c w)
  have PU := Lib.hid (fun (c : Int) w => refPutV_any f hf ((f.val c : Nat) : Int) (by omega) (by have := val_lt hf c; omega) w)
  obtain ⟨PX, hPX⟩ : ∃ PX : Int → List UInt8, pixL f = PX := ⟨_, rfl⟩
  obtain ⟨RW, hRW⟩ : ∃ RW : List Int → List UInt8, rawL f = RW := ⟨_, rfl⟩
  obtain ⟨G, hG⟩ : ∃ G : Int → Int, (fun c => ((f.val c : Nat) : Int)) = G := ⟨_, rfl⟩
  obtain ⟨sz, hsz0⟩ : ∃ sz, Fm.sz f = sz := ⟨_, rfl⟩
  have hs4 : sz ≤ 4 := by rw [← hsz0]; exact (fm_sz hf).2.1
  have LEN : RowKit.Hid (∀ l, (RW l).length = l.length * sz) := Lib.hid (fun l => by rw [← hRW, ← hsz0]; exact rawL_length f l)
  have LEN1 : RowKit.Hid (∀ c, (PX c).length = sz) := Lib.hid (fun c => by rw [← hPX, ← hsz0]; exact pixL_length f c)
  have SN : RowKit.Hid (∀ l c, RW (l ++ [c]) = RW l ++ PX c) := Lib.hid (fun l c => by rw [← hRW, ← hPX]; exact rawL_snoc f l c)
  have NIL : RowKit.Hid (RW [] = []) := Lib.hid (by rw [← hRW]; rfl)
  have V2 : RowKit.Hid (∀ (c : Int) w, Calls Try.prog 40 #[f.v, .int .i64 c] w fun e w' => e = .returned (.int .i64 (G c)) ∧ Below w.heap.size w w') := Lib.hid (fun c w => by have := V.out c w; rw [show ((f.val c : Nat) : Int) = G c from congrFun hG c] at this; exact this)
  have P2 : RowKit.Hid (∀ (c : Int) w, Calls Try.prog 41 #[f.v, .int .i64 (G c)] w fun e w' => e = .returned (.string ⟨(PX c).toArray⟩) ∧ Below w.heap.size w w') := Lib.hid (fun c w => by have := PU.out c w; rw [show ((f.val c : Nat) : Int) = G c from congrFun hG c] at this; rw [← hPX]; unfold pixL; rw [show ((f.val c : Nat) : Int) = G c from congrFun hG c]; exact this)
  rw [hRW]
  clear V PU hG hPX hRW hsz0
  have AT := FmAt.box f w 23
  have bel := (Below.refl w.heap.size w).alloc (Nat.le_refl _) (.cells #[.int .i64 f.B, .int .i64 f.D, .bool f.big, .bool f.tr, .int .i64 f.rm, .int .i64 f.gm, .int .i64 f.bm, .int .i64 f.rs, .int .i64 f.gs, .int .i64 f.bs] 23)
  have hsz : (w.alloc (.cells #[.int .i64 f.B, .int .i64 f.D, .bool f.big, .bool f.tr, .int .i64 f.rm, .int .i64 f.gm, .int .i64 f.bm, .int .i64 f.rs, .int .i64 f.gs, .int .i64 f.bs] 23)).heap.size = w.heap.size + 1 := alloc_size _ _
  obtain ⟨w1, hw1⟩ : ∃ w1, w.alloc (.cells #[.int .i64 f.B, .int .i64 f.D, .bool f.big, .bool f.tr, .int .i64 f.rm, .int .i64 f.gm, .int .i64 f.bm, .int .i64 f.rs, .int .i64 f.gs, .int .i64 f.bs] 23) = w1 := ⟨_, rfl⟩
  rw [hw1] at AT bel hsz
  have HA := Lib.hid (fun W (hW : Below w1.heap.size w1 W) => AT.below hW (by omega))
  have HF : f.v = .agg #[.int .i64 f.B, .int .i64 f.D, .bool f.big, .bool f.tr, .int .i64 f.rm, .int .i64 f.gm, .int .i64 f.bm, .int .i64 f.rs, .int .i64 f.gs, .int .i64 f.bs] := rfl
  rw [HF] at V2 P2 ⊢
  obtain ⟨a, n, cap, rfl, hLn, hcell⟩ := hL.read
  have HC := Lib.hid (fun W (hW : Below w1.heap.size w1 W) => hcell W (bel.trans (hW.mono bel.size)))
  have BEL := Lib.hid bel
  have HLn := Lib.hid hLn
  rw [hLn] at hn
  have hle : w.heap.size ≤ w1.heap.size := bel.size
  clear AT hf HF hsz hL hcell bel hLn
  obtain ⟨B, D, big, tr, rm, gm, bm, rs, gs, bs⟩ := f
  simp only at *
  go_enter Try.func17, Try.ntmps17
  go_wp2_with fail
  go_loopw [5, 6] (fun vo vi wz => ∃ k : Nat, k ≤ n ∧ vi = .int .i64 k ∧ vo = .string ⟨(RW (L.take k)).toArray⟩ ∧ Below w1.heap.size w1 wz) (fun _ vi _ => n - (intOf vi).toNat)
  case atStart => exact ⟨0, Nat.zero_le _, rfl, by rw [List.take_zero, NIL.out], Below.refl _ _⟩
  case round =>
    obtain ⟨k, hk, rfl, rfl, hbz⟩ := hrel
    by_cases hlt : k < n
    · have dk : decide ((k : Int) < n) = true := decide_eq_true (by omega)
      have dk2 : decide (k < n) = true := decide_eq_true hlt
      obtain ⟨c, hc⟩ : ∃ c, px L k = c := ⟨_, rfl⟩
      have HR1 : RW (L.take (k + 1)) = RW (L.take k) ++ PX c := by
        rw [List.take_succ_eq_append_getElem (by rw [HLn.out]; exact hlt), SN.out, ← hc, px_get (by rw [HLn.out]; exact hlt)]
      have hl1 : (RW (L.take k)).length ≤ 4000000 := by
        rw [LEN.out]
        have : (L.take k).length ≤ 1000000 := by simp; omega
        calc (L.take k).length * sz ≤ 1000000 * 4 := Nat.mul_le_mul this hs4
          _ = 4000000 := rfl
      have hl2 : (PX c).length ≤ 4 := by rw [LEN1.out]; exact hs4
      have hadd : ∀ W : World, (Op.stringOp .add ⟨(RW (L.take k)).toArray⟩ ⟨(PX c).toArray⟩).run Try.prog W = .ok (.string ⟨(RW (L.take (k + 1))).toArray⟩) W := fun W => by
        rw [run_string_add_sum W _ _ (by
          have h1 : (ByteArray.mk (RW (L.take k)).toArray).size = (RW (L.take k)).length := by show (RW (L.take k)).toArray.size = _; simp
          have h2 : (ByteArray.mk (PX c).toArray).size = (PX c).length := by show (PX c).toArray.size = _; simp
          rw [h1, h2]; omega), HR1, ByteArray.mk_append_mk]
      obtain ⟨b, off, rfl, hcc⟩ := HC.out _ hbz (by omega)
      have CELL : RowKit.Hid (∀ W', Below w1.heap.size w1 W' → W'.cell? ⟨b, off + k, none⟩ = some (.int .i64 c)) := Lib.hid (fun W' h => by
        obtain ⟨b', off', e, hcc'⟩ := HC.out W' h (by omega)
        simp only [Option.some.injEq, Addr.mk.injEq, and_true] at e
        obtain ⟨rfl, rfl⟩ := e
        rw [← hc]
        exact hcc' k hlt)
      have VC := Lib.hid (V2.out c)
      have PC := Lib.hid (P2.out c)
      clear hcc HR1 hc hl1 hl2
      generalize RW (L.take k) = R at *
      obtain ⟨R1, hR1⟩ : ∃ R1, RW (L.take (k + 1)) = R1 := ⟨_, rfl⟩
      have ER := Lib.hid hR1
      rw [hR1] at hadd
      clear hR1
      generalize G c = z at *
      generalize PX c = px at *
      have HZ := Lib.hid hbz.drew
      have hqs : w1.heap.size ≤ wr.drew.heap.size := hbz.size
      clear hbz
      go_wp2_with fail
      refine region_preds (by kernel_rfl) (rwV (.agg #[.int .i64 B, .int .i64 D, .bool big, .bool tr, .int .i64 rm, .int .i64 gm, .int .i64 bm, .int .i64 rs, .int .i64 gs, .int .i64 bs]) (.slice (some ⟨b, off, none⟩) n cap) (.pointer (some ⟨b, off + k, none⟩)) (.string ⟨R.toArray⟩) (.string ⟨px.toArray⟩) (.string ⟨R1.toArray⟩) (k : Nat) c z) (fun _ _ _ => True) (fun _ W => Below w1.heap.size w1 W) [2, 1, 6] [none, none, none, none, none, some 10, none, none, none, none, none, none, none, some 0, some 1, some 2, some 3, some 4, some 5, some 6, some 7, some 8, some 9, none] (by kernel_rfl) (by kernel_rfl) (by rfl) (by kernel_rfl) (by kernel_rfl) (by kernel_rfl) HZ.out ⟨?_, ?_, ?_, ?_, ?_, ?_, ?_, ?_, ?_, ?_, ?_, trivial⟩ ?_
      case refine_12 =>
        intro vs ℓ W3 hl hS hR
        have HZ3 := Lib.hid hS
        clear hR hS hl
        simp only [zipF, rwV, Option.getD_some]
        go_wp2_with fail
        exact ⟨⟨k + 1, by omega, by go_num, by rw [ER.out], HZ3.out⟩, by simp [intOf]; omega⟩
      case refine_1 =>
        intro ℓ act W9 hl hS hw hx hr hd
        have e5 : act.tmps[5]? = some (.string ⟨R.toArray⟩) := hx 5 10 (by rfl) (by kernel_rfl)
        clear hw hx hr hd
        refine ⟨wanted_none (by rfl), fun K hK => ?_⟩
        go_simp
        exact hK _ _ rfl hS (fun _ _ _ _ _ => trivial)
      case refine_8 =>
        intro ℓ act W9 hl hS hw hx hr hd
        clear hw hx
        simp [readFacts, depFactsP, dstOf, Region.binds, rwV] at hr hd
        refine ⟨wanted_none (by rfl), fun K hK => ?_⟩
        go_simp
        refine (VC.out _).mono ?_
        rintro r w' ⟨rfl, b⟩
        exact hK _ _ rfl (hS.trans (b.mono hS.size)) (fun _ _ _ _ _ => trivial)
      case refine_9 =>
        intro ℓ act W9 hl hS hw hx hr hd
        clear hw hx
        simp [readFacts, depFactsP, dstOf, Region.binds, rwV] at hr hd
        refine ⟨wanted_none (by rfl), fun K hK => ?_⟩
        go_simp
        refine (PC.out _).mono ?_
        rintro r w' ⟨rfl, b⟩
        exact hK _ _ rfl (hS.trans (b.mono hS.size)) (fun _ _ _ _ _ => trivial)
      all_goals
        intro ℓ act W9 hl hS hw hx hr hd
        clear hw hx
        simp [readFacts, depFactsP, dstOf, Region.binds, rwV] at hr hd
        refine ⟨wanted_none (by rfl), fun K hK => ?_⟩
        have hcW := CELL.out W9 hS
        obtain ⟨d0, d1, d2, d3, d4, d5, d6, d7, d8, d9⟩ := HA.out W9 hS
        dsimp only at d0 d1 d2 d3 d4 d5 d6 d7 d8 d9
        go_simp
        exact hK _ _ rfl hS (fun _ _ _ _ _ => trivial)
    · obtain rfl : k = n := by omega
      have e : L.take k = L := List.take_of_length_le (by rw [HLn.out]; exact Nat.le_refl _)
      rw [e]
      have dk : decide ((k : Int) < k) = false := decide_eq_false (by omega)
      have HQ := Lib.hid (BEL.out.trans (hbz.mono hle))
      clear hbz
      go_wp2_with fail
      go_ret
      exact ⟨rfl, HQ.out⟩
end Go.Proofs.Ytbdlmcpdplmdnaa.Pln
