/-
  Contracts of the reference of layer 14 (screen): parts.
-/
import Derived.Test.YtlamdgdegmjljaaScrRefD
namespace Go.Proofs.Ytlamdgdegmjljaa.Scr
open Go.ChangeShapes Go.WideShapes Go.ChangeAt Go.RowKit Lz RowG RegVal Reg
set_option linter.unusedVariables false
set_option maxRecDepth 100000

/-- What stands ready: the image, a rectangle. -/
structure RdyP (w W' : World) (W H : Int) (a : Option Addr) (n cap : Nat) (l : List Int) (r : Rc) : Prop where
  i : VarAt W' w.heap.size W H (.slice a n cap)
  r : RAt W' (w.heap.size + 1) r
  c : 0 < n → ∃ g off, a = some ⟨g, off, none⟩ ∧ ∀ i, i < n → W'.cell? ⟨g, off + i, none⟩ = some (.int .i64 (px l i))
  b : Below w.heap.size w W'
  s : w.heap.size + 2 ≤ W'.heap.size
theorem RdyP.new {w : World} {W H : Int} {a : Option Addr} {n cap : Nat} {l : List Int} {r : Rc} (hrd : ∀ W', Below w.heap.size w W' → 0 < n → ∃ g off, a = some ⟨g, off, none⟩ ∧ ∀ i, i < n → W'.cell? ⟨g, off + i, none⟩ = some (.int .i64 (px l i))) :
    RdyP w ((w.alloc (.cells #[.int .i64 W, .int .i64 H, .slice a n cap] 32)).alloc (.cells #[.int .i64 r.x, .int .i64 r.y, .int .i64 r.w, .int .i64 r.h] 35)) W H a n cap l r := by
  have z1 := alloc_size w (.cells #[.int .i64 W, .int .i64 H, .slice a n cap] 32)
  have i1 := VarAt.new w W H (.slice a n cap)
  have b1 := (Below.refl w.heap.size w).alloc (Nat.le_refl _) (.cells #[.int .i64 W, .int .i64 H, .slice a n cap] 32)
  generalize w.alloc (.cells #[.int .i64 W, .int .i64 H, .slice a n cap] 32) = w1 at *
  have z2 := alloc_size w1 (.cells #[.int .i64 r.x, .int .i64 r.y, .int .i64 r.w, .int .i64 r.h] 35)
  have r2 := RAt.box w1 r 35
  have k2 := (Below.refl w1.heap.size w1).alloc (Nat.le_refl _) (.cells #[.int .i64 r.x, .int .i64 r.y, .int .i64 r.w, .int .i64 r.h] 35)
  generalize w1.alloc (.cells #[.int .i64 r.x, .int .i64 r.y, .int .i64 r.w, .int .i64 r.h] 35) = w2 at *
  have b3 : Below w.heap.size w w2 := b1.trans (k2.mono (by omega))
  rw [z1] at r2
  exact ⟨i1.below k2 (by omega), r2, hrd _ b3, b3, by omega⟩
theorem RdyP.keep {w W1 W2 : World} {W H : Int} {a : Option Addr} {n cap : Nat} {l : List Int} {r : Rc} (h : RdyP w W1 W H a n cap l r) (hs : SI w (.slice a n cap) l) (k : Below (w.heap.size + 2) W1 W2) : RdyP w W2 W H a n cap l r := by
  have b := h.b.trans (k.mono (by omega))
  refine ⟨h.i.below k (by omega), h.r.below k (by omega), fun h0 => ?_, b, Nat.le_trans h.s k.size⟩
  obtain ⟨g, off, rfl, _⟩ := h.c h0
  refine ⟨g, off, rfl, fun i hi => ?_⟩
  obtain ⟨a', n', cap', e, hl, hrd⟩ := hs.read
  simp only [Value.slice.injEq] at e
  obtain ⟨rfl, rfl, rfl⟩ := e
  obtain ⟨g', off', e, hc⟩ := hrd _ b (by omega)
  simp only [Option.some.injEq, Addr.mk.injEq, and_true] at e
  obtain ⟨rfl, rfl⟩ := e
  exact hc i hi
set_option maxHeartbeats 4000000 in
theorem refPart_any (W H : Int) (l : List Int) (v : Value) (r : Rc) (w : World) (hm : ImOk W H l) (hs : SI w v l) :
    Calls Try.prog 22 #[imgV W H v, r.v] w fun e w' => ∃ v', e = .returned (.tuple #[v', .int .i64 (partE W H r)]) ∧ SI w' v' (partS W H r l) ∧ Below w.heap.size w w' ∧ Fresh w v' := by
  obtain ⟨a, n, cap, rfl, hln, hrd⟩ := hs.read
  have hw := hm.w
  have hh := hm.h
  have hn := hm.n
  have hb := hm.bound
  rw [hln] at hn hb
  have R0 := RdyP.new (W := W) (H := H) (cap := cap) (r := r) hrd
  have HSI := Lib.hid hs
  have z1 := alloc_size w (.cells #[.int .i64 W, .int .i64 H, .slice a n cap] 32)
  obtain ⟨w1, hw1⟩ : ∃ w1, w.alloc (.cells #[.int .i64 W, .int .i64 H, .slice a n cap] 32) = w1 := ⟨_, rfl⟩
  rw [hw1] at R0 z1
  obtain ⟨w3, hw2⟩ : ∃ w3, w1.alloc (.cells #[.int .i64 r.x, .int .i64 r.y, .int .i64 r.w, .int .i64 r.h] 35) = w3 := ⟨_, rfl⟩
  rw [hw2] at R0
  have RDY := Lib.hid (fun W' (k : Below (w.heap.size + 2) w3 W') => R0.keep hs k)
  have hs3 := R0.s
  have hs3' := R0.b
  have HI := Lib.hid (fun w => refInside_any r W H (by simp [Lit.wf, IntKind.min, IntKind.max, IntKind.signed, IntKind.bits]; omega) (by simp [Lit.wf, IntKind.min, IntKind.max, IntKind.signed, IntKind.bits]; omega) w)
  obtain ⟨⟨c0, c1, c2⟩, _⟩ := R0.i.cells
  obtain ⟨r0, r1, r2, r3⟩ := R0.r
  have hrv : r.v = .agg #[.int .i64 r.x, .int .i64 r.y, .int .i64 r.w, .int .i64 r.h] := rfl
  rw [hrv] at HI ⊢
  have HLN := Lib.hid hln
  have HB3 := Lib.hid hs3'
  clear R0 hrd hs hln hs3'
  unfold imgV
  cases hins : insB r W H with
  | false =>
    rw [hins] at HI
    have hE : partE W H r = 140 := by unfold partE; rw [hins]; rfl
    have hS : partS W H r l = [] := by unfold partS; rw [hins]; rfl
    rw [hE, hS]
    clear hE hS hins
    go_enter Try.func22, Try.ntmps22
    go_wp2_with fail
    refine (HI.out _).mono ?_
    rintro q w4 ⟨rfl, b4⟩
    have B4 := Lib.hid (HB3.out.trans (b4.mono HB3.out.size))
    clear c0 c1 c2 r0 r1 r2 r3 b4
    go_wp2_with fail
    go_ret2
    exact ⟨.slice none 0 0, rfl, SI.nil _, B4.out, fun k hk => by simp [Value.ownBlock] at hk⟩
  | true =>
  rw [hins] at HI
  have hE : partE W H r = 0 := by unfold partE; rw [hins]; rfl
  have hS : partS W H r l = partN W r l n := by unfold partS; rw [hins]; show partL W r l = _; unfold partL; rw [HLN.out]
  rw [hE, hS]
  have hbd := ins_iff.1 hins
  have HIN := Lib.hid (fun x y w => refIn_any r x y (by omega) (by omega) w)
  rw [hrv] at HIN
  have HF : RowKit.Hid (∀ i : Nat, partN W r l (i + 1) = if inB r (i % W) (i / W) then partN W r l i ++ [px l i] else partN W r l i) := Lib.hid (partN_succ W r l)
  have HG : RowKit.Hid (∀ i, (partN W r l i).length ≤ i) := Lib.hid (partN_length W r l)
  have HZ : RowKit.Hid (partN W r l 0 = []) := Lib.hid rfl
  clear hE hS hbd hins
  generalize partN W r l = F at *
  go_enter Try.func22, Try.ntmps22
  go_wp2_with fail
  refine (HI.out _).mono ?_
  rintro q w4 ⟨rfl, b4⟩
  clear c0 c1 c2 r0 r1 r2 r3
  have RD := RDY.out w4 (b4.mono hs3)
  have hs4 := RD.s
  have HB4 := Lib.hid b4
  have BB4 := Lib.hid RD.b
  clear RD b4 HI
  go_wp2_with fail
  go_loopw [6, 7] (fun v i wr => ∃ k : Nat, k ≤ n ∧ i = .int .i64 k ∧ IntsAt w4.heap.size wr v (F k) ∧ Below w4.heap.size w4 wr) (fun _ i _ => n - (intOf i).toNat)
  case atStart => exact ⟨0, Nat.zero_le _, rfl, by rw [HZ.out]; exact RowAt.nil _ _ _ _, Below.refl _ _⟩
  case round =>
    obtain ⟨k, hk, rfl, M, bM⟩ := hrel
    have RD := RDY.out wr ((HB4.out.mono hs3).trans (bM.mono hs4))
    have HM := Lib.hid M
    have HBM := Lib.hid bM
    by_cases hlt : k < n
    · have d1 : decide (k < n) = true := decide_eq_true hlt
      have d2 : decide ((k : Int) < n) = true := decide_eq_true (by omega)
      obtain ⟨⟨c0, c1, c2⟩, _⟩ := RD.i.cells
      obtain ⟨g, off, rfl, hcell⟩ := RD.c (by omega)
      have q0 := hcell k hlt
      have hpk : 0 ≤ (k : Int) / W := Int.ediv_nonneg (by omega) (by omega)
      have HQ : RowKit.Hid (∀ W', Below wr.heap.size wr W' → _) := Lib.hid (fun W' (k : Below wr.heap.size wr W') => (RDY.out W' (((HB4.out.mono hs3).trans (bM.mono hs4)).trans (k.mono RD.s))))
      have t1 : Int.tmod (k : Int) W = (k : Int) % W := IntWalk.rem_in _ _ (by omega)
      have t2 : IntKind.i64.wrap (Int.tdiv (k : Int) W) = (k : Int) / W := IntWalk.i64_quo _ _ (by omega)
      have hW0 : ¬ W = 0 := by omega
      have t3 : (W == 0) = false := by simpa using hW0
      have hkW : (k : Int) / W ≤ k := Int.ediv_le_self _ (by omega)
      have t4 : IntKind.i64.wrap ((k : Int) / W) = (k : Int) / W := IntWalk.i64_in _ (by omega)
      have HF1 := Lib.hid (HF.out k)
      have HIN1 := Lib.hid (fun w => HIN.out ((k : Int) % W) ((k : Int) / W) w)
      have HG1 := Lib.hid (HG.out k)
      clear RD M hcell
      generalize inB r ((k : Int) % W) ((k : Int) / W) = p at *
      go_wp2_with fail
      refine region_all (by kernel_rfl) (flV r W w.heap.size k p) (fun W' => Below wr.heap.size wr W') [2, 7, 3] [none, none, none, none, none, none, none, none, none, none, none, none, none, none, none, none, none, none, none, none, none, none, some 0, some 1, some 2, some 3, some 4, some 5, some 6, some 7, some 8, some 9, none, none, none, none, none, none, none, none, none] (by kernel_rfl) (by kernel_rfl) (by rfl) (by kernel_rfl) (by kernel_rfl) (by kernel_rfl) ((Below.refl _ _).drew) ⟨?_, ?_, ?_, ?_, ?_, ?_, ?_, ?_, ?_, ?_, trivial⟩ ?_
      case refine_11 =>
        intro W' hS
        have RD := HQ.out W' hS
        obtain ⟨⟨i0, i1, i2⟩, _⟩ := RD.i.cells
        obtain ⟨g', off', e', hcell⟩ := RD.c (by omega)
        simp only [Option.some.injEq, Addr.mk.injEq, and_true] at e'
        obtain ⟨rfl, rfl⟩ := e'
        have q1 := hcell k hlt
        have HR := Lib.hid (RowAt.below HM.out hS)
        have HBW := Lib.hid (HBM.out.trans (hS.mono HBM.out.size))
        have hBl := HBW.out.size
        clear RD HQ hS HIN1 HIN RDY hcell HM HBM
        simp only [zipF, flV]
        cases p with
        | true =>
          have hf : F (k + 1) = F k ++ [px l k] := by rw [HF1.out, if_pos rfl]
          have HFK := Lib.hid hf
          clear hf HF1 HF
          generalize px l k = c' at *
          go_wp2_with (at_builtin; refine wpl_int rfl _ _ rfl u6 w4.heap.size (F k) rfl HR.out hBl (by have := HG1.out; omega) c' _ rfl ?_; intro v' w6 h1 b1; have HN := Lib.hid (And.intro h1 (HBW.out.trans b1)); clear h1 b1)
          refine ⟨⟨k + 1, by omega, by go_num, ?_, HN.out.2⟩, by simp [intOf]; omega⟩
          rw [HFK.out]
          exact HN.out.1
        | false =>
          have hf : F (k + 1) = F k := by rw [HF1.out, if_neg (by simp)]
          have HFK := Lib.hid hf
          clear hf HF1 HF
          go_wp2_with fail
          refine ⟨⟨k + 1, by omega, by go_num, ?_, HBW.out⟩, by simp [intOf]; omega⟩
          rw [HFK.out]
          exact HR.out
      all_goals
        intro ℓ act Wd hl hS hw hr hd
        have RD := HQ.out Wd hS
        obtain ⟨⟨d0, d1, d2⟩, _⟩ := RD.i.cells
        obtain ⟨e0, e1, e2, e3⟩ := RD.r
        clear RD hw
        simp [readFacts, depFacts, dstOf, Region.binds, flV, hrv] at hr hd
        refine ⟨by first | exact wanted_none (by rfl) | exact wanted_guard (by rfl) (by rfl) (by assumption), fun K hK => ?_⟩
        go_simp
        first
          | exact hK _ hS
          | (with_reducible refine (HIN1.out _).mono ?_
             rintro r w' ⟨rfl, b⟩
             exact hK _ (hS.trans (b.mono hS.size)))
    · obtain rfl : k = n := by omega
      have d1 : decide (k < k) = false := decide_eq_false hlt
      have d2 : decide ((k : Int) < k) = false := decide_eq_false (by omega)
      obtain ⟨⟨i0, i1, i2⟩, _⟩ := RD.i.cells
      obtain ⟨a4, n4, cap4, rfl⟩ := shape4 M
      clear M RD RDY HIN HF HB4 bM
      go_wp2_with fail
      go_ret2
      exact ⟨.slice a4 n4 cap4, rfl, HM.out.si, BB4.out.trans (HBM.out.mono BB4.out.size), fresh_row HM.out BB4.out.size⟩
end Go.Proofs.Ytlamdgdegmjljaa.Scr
