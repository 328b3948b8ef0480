/-
  Contracts of the reference of layer 14 (screen): one colour.
-/
import Derived.Test.YtlamdgdegmjljaaScrRefC
namespace Go.Proofs.Ytlamdgdegmjljaa.Scr
open Go.ChangeShapes Go.WideShapes Go.ChangeAt Go.RowKit Lz RowG RegVal Reg
set_option linter.unusedVariables false
set_option maxRecDepth 100000

/-- A loop that makes an image in a variable that was made at w4. -/
structure Lp (w4 wr : World) (W H : Int) (v : Value) (l : List Int) : Prop where
  g : VarAt wr w4.heap.size W H v
  row : IntsAt (w4.heap.size + 1) wr v l
  bel : Below w4.heap.size w4 wr
  sz : w4.heap.size + 1 ≤ wr.heap.size
theorem Lp.new (w4 : World) (W H : Int) : Lp w4 (w4.alloc (.cells #[.int .i64 W, .int .i64 H, .slice none 0 0] 32)) W H (.slice none 0 0) [] :=
  ⟨VarAt.new _ _ _ _, RowAt.nil _ _ _ _, (Below.refl _ _).alloc (Nat.le_refl _) _, by rw [alloc_size]; exact Nat.le_refl _⟩
theorem Lp.keep {w4 wr w1 : World} {W H : Int} {v : Value} {l : List Int} (h : Lp w4 wr W H v l) (k : Below wr.heap.size wr w1) : Lp w4 w1 W H v l :=
  ⟨h.g.below k h.g.lt, RowAt.below h.row k, h.bel.trans (k.mono h.bel.size), Nat.le_trans h.sz k.size⟩
theorem Lp.step {w4 wr w1 : World} {W H : Int} {v v' : Value} {l l' : List Int} (h : Lp w4 wr W H v l) (k : Below (w4.heap.size + 1) wr w1) (hr : IntsAt (w4.heap.size + 1) w1 v' l') : Lp w4 (w1.setCell ⟨w4.heap.size, 2, none⟩ v') W H v' l' := by
  have := h.sz
  have := k.size
  exact ⟨(h.g.below k (by omega)).set v', row_other hr (by omega), below_set (h.bel.trans (k.mono (by omega))) (by omega) _ _, by simpa using (by omega : w4.heap.size + 1 ≤ w1.heap.size)⟩
/-- What stands ready: the image, a rectangle, the result's variable. -/
structure Rdy (w W' : World) (W H : Int) (a : Option Addr) (n cap : Nat) (l : List Int) (r : Rc) : Prop where
  i : VarAt W' w.heap.size W H (.slice a n cap)
  r : RAt W' (w.heap.size + 1) r
  o : VarAt W' (w.heap.size + 2) 0 0 (.slice none 0 0)
  c : 0 < n → ∃ g off, a = some ⟨g, off, none⟩ ∧ ∀ i, i < n → W'.cell? ⟨g, off + i, none⟩ = some (.int .i64 (px l i))
  b : Below w.heap.size w W'
  s : w.heap.size + 3 ≤ W'.heap.size
theorem Rdy.new {w : World} {W H : Int} {a : Option Addr} {n cap : Nat} {l : List Int} {r : Rc} (hrd : ∀ W', Below w.heap.size w W' → 0 < n → ∃ g off, a = some ⟨g, off, none⟩ ∧ ∀ i, i < n → W'.cell? ⟨g, off + i, none⟩ = some (.int .i64 (px l i))) :
    Rdy w (((w.alloc (.cells #[.int .i64 W, .int .i64 H, .slice a n cap] 32)).alloc (.cells #[.int .i64 r.x, .int .i64 r.y, .int .i64 r.w, .int .i64 r.h] 35)).alloc (.cells #[.int .i64 0, .int .i64 0, .slice none 0 0] 32)) W H a n cap l r := by
  have z1 := alloc_size w (.cells #[.int .i64 W, .int .i64 H, .slice a n cap] 32)
  have i1 := VarAt.new w W H (.slice a n cap)
  have b1 := (Below.refl w.heap.size w).alloc (Nat.le_refl _) (.cells #[.int .i64 W, .int .i64 H, .slice a n cap] 32)
  generalize w.alloc (.cells #[.int .i64 W, .int .i64 H, .slice a n cap] 32) = w1 at *
  have z2 := alloc_size w1 (.cells #[.int .i64 r.x, .int .i64 r.y, .int .i64 r.w, .int .i64 r.h] 35)
  have r2 := RAt.box w1 r 35
  have k2 := (Below.refl w1.heap.size w1).alloc (Nat.le_refl _) (.cells #[.int .i64 r.x, .int .i64 r.y, .int .i64 r.w, .int .i64 r.h] 35)
  generalize w1.alloc (.cells #[.int .i64 r.x, .int .i64 r.y, .int .i64 r.w, .int .i64 r.h] 35) = w2 at *
  have z3 := alloc_size w2 (.cells #[.int .i64 0, .int .i64 0, .slice none 0 0] 32)
  have o3 := VarAt.new w2 0 0 (.slice none 0 0)
  have k3 := (Below.refl w2.heap.size w2).alloc (Nat.le_refl _) (.cells #[.int .i64 0, .int .i64 0, .slice none 0 0] 32)
  generalize w2.alloc (.cells #[.int .i64 0, .int .i64 0, .slice none 0 0] 32) = w3 at *
  have b3 : Below w.heap.size w w3 := (b1.trans (k2.mono (by omega))).trans (k3.mono (by omega))
  rw [z1] at r2
  rw [z2, z1] at o3
  exact ⟨(i1.below k2 (by omega)).below k3 (by omega), r2.below k3 (by omega), o3, hrd _ b3, b3, by omega⟩
theorem Rdy.keep {w W1 W2 : World} {W H : Int} {a : Option Addr} {n cap : Nat} {l : List Int} {r : Rc} (h : Rdy w W1 W H a n cap l r) (hs : SI w (.slice a n cap) l) (k : Below (w.heap.size + 3) W1 W2) : Rdy w W2 W H a n cap l r := by
  have b := h.b.trans (k.mono (by omega))
  refine ⟨h.i.below k (by omega), h.r.below k (by omega), h.o.below k (by omega), fun h0 => ?_, b, Nat.le_trans h.s k.size⟩
  obtain ⟨g, off, rfl, _⟩ := h.c h0
  refine ⟨g, off, rfl, fun i hi => ?_⟩
  obtain ⟨a', n', cap', e, hl, hrd⟩ := hs.read
  simp only [Value.slice.injEq] at e
  obtain ⟨rfl, rfl, rfl⟩ := e
  obtain ⟨g', off', e, hc⟩ := hrd _ b (by omega)
  simp only [Option.some.injEq, Addr.mk.injEq, and_true] at e
  obtain ⟨rfl, rfl⟩ := e
  exact hc i hi
def flV (r : Rc) (W : Int) (b k : Nat) (p : Bool) : Nat → Value
  | 0 => r.v
  | 1 => .int .i64 k
  | 2 => .pointer (some ⟨b, 0, none⟩)
  | 3 => .int .i64 W
  | 4 => .int .i64 ((k : Int) % W)
  | 5 => .int .i64 k
  | 6 => .pointer (some ⟨b, 0, none⟩)
  | 7 => .int .i64 W
  | 8 => .int .i64 ((k : Int) / W)
  | 9 => .bool p
  | _ => undef

set_option maxHeartbeats 4000000 in
theorem refFill_any (W H : Int) (l : List Int) (v : Value) (r : Rc) (c : Int) (w : World) (hm : ImOk W H l) (hs : SI w v l) :
    Calls Try.prog 14 #[imgV W H v, r.v, .int .i64 c] w fun e w' => ∃ v', e = .returned (.tuple #[imgV W H v', .int .i64 (fillE W H r c)]) ∧ SI w' v' (fillS W H r c l) ∧ Below w.heap.size w w' ∧ Near w v v' := by
  obtain ⟨a, n, cap, rfl, hln, hrd⟩ := hs.read
  have hw := hm.w
  have hh := hm.h
  have hn := hm.n
  have hb := hm.bound
  rw [hln] at hn hb
  have R0 := Rdy.new (W := W) (H := H) (cap := cap) (r := r) hrd
  have HSI := Lib.hid hs
  have z1 := alloc_size w (.cells #[.int .i64 W, .int .i64 H, .slice a n cap] 32)
  have z2 := alloc_size (w.alloc (.cells #[.int .i64 W, .int .i64 H, .slice a n cap] 32)) (.cells #[.int .i64 r.x, .int .i64 r.y, .int .i64 r.w, .int .i64 r.h] 35)
  obtain ⟨w1, hw1⟩ : ∃ w1, w.alloc (.cells #[.int .i64 W, .int .i64 H, .slice a n cap] 32) = w1 := ⟨_, rfl⟩
  rw [hw1] at R0 z1 z2
  obtain ⟨w2, hw2⟩ : ∃ w2, w1.alloc (.cells #[.int .i64 r.x, .int .i64 r.y, .int .i64 r.w, .int .i64 r.h] 35) = w2 := ⟨_, rfl⟩
  rw [hw2] at R0 z2
  have z2 : w2.heap.size = w.heap.size + 2 := by omega
  obtain ⟨w3, hw3⟩ : ∃ w3, w2.alloc (.cells #[.int .i64 0, .int .i64 0, .slice none 0 0] 32) = w3 := ⟨_, rfl⟩
  rw [hw3] at R0
  have RDY := Lib.hid (fun W' (k : Below (w.heap.size + 3) w3 W') => R0.keep hs k)
  have hs3 := R0.s
  have HI := Lib.hid (fun w => refInside_any r W H (by simp [Lit.wf, IntKind.min, IntKind.max, IntKind.signed, IntKind.bits]; omega) (by simp [Lit.wf, IntKind.min, IntKind.max, IntKind.signed, IntKind.bits]; omega) w)
  have HC := Lib.hid (fun w => refColour_any c w)
  obtain ⟨⟨c0, c1, c2⟩, _⟩ := R0.i.cells
  obtain ⟨r0, r1, r2, r3⟩ := R0.r
  have hrv : r.v = .agg #[.int .i64 r.x, .int .i64 r.y, .int .i64 r.w, .int .i64 r.h] := rfl
  rw [hrv] at HI ⊢
  have HLN := Lib.hid hln
  clear R0 hrd hs hln
  unfold imgV
  cases hins : insB r W H with
  | false =>
    rw [hins] at HI
    have hE : fillE W H r c = 140 := by unfold fillE; rw [hins]; rfl
    have hS : fillS W H r c l = l := by unfold fillS; rw [hins]; rfl
    rw [hE, hS]
    clear hE hS
    go_enter Try.func14, Try.ntmps14
    go_wp2_with fail
    refine (HI.out _).mono ?_
    rintro q w4 ⟨rfl, b4⟩
    clear c0 c1 c2 r0 r1 r2 r3
    have RD := RDY.out w4 (b4.mono hs3)
    obtain ⟨⟨c0, c1, c2⟩, _⟩ := RD.i.cells
    obtain ⟨⟨o0, o1, o2⟩, fz⟩ := RD.o.cells
    have HO := Lib.hid RD.o
    have HB := Lib.hid RD.b
    clear RD RDY hins HI HC
    go_wp2_with fail
    refine bodyPost_ret (Ret.ret_cell_tmp rfl _ _ (w.heap.size + 2) 32 _ (0, 0) _ rfl (store3 HO.out _ _ _) Try.underlying32 rfl (by kernel_rfl)) rfl ⟨.slice a n cap, rfl, ?_, below_store3 HB.out (by omega) _ _ _, Near.refl _ _⟩
    exact SI.below HSI.out (below_store3 HB.out (by omega) _ _ _)
  | true =>
  cases hcol : colB c with
  | false =>
    rw [hins] at HI
    rw [hcol] at HC
    have hE : fillE W H r c = 1 := by unfold fillE; rw [hins, hcol]; rfl
    have hS : fillS W H r c l = l := by unfold fillS; rw [hins, hcol]; rfl
    rw [hE, hS]
    clear hE hS
    go_enter Try.func14, Try.ntmps14
    go_wp2_with fail
    refine (HI.out _).mono ?_
    rintro q w4 ⟨rfl, b4⟩
    clear c0 c1 c2 r0 r1 r2 r3
    go_wp2_with fail
    refine (HC.out _).mono ?_
    rintro q w5 ⟨rfl, rfl⟩
    have RD := RDY.out w4 (b4.mono hs3)
    obtain ⟨⟨c0, c1, c2⟩, _⟩ := RD.i.cells
    obtain ⟨⟨o0, o1, o2⟩, fz⟩ := RD.o.cells
    have HO := Lib.hid RD.o
    have HB := Lib.hid RD.b
    clear RD RDY hins hcol HI HC
    go_wp2_with fail
    refine bodyPost_ret (Ret.ret_cell_tmp rfl _ _ (w.heap.size + 2) 32 _ (0, 0) _ rfl (store3 HO.out _ _ _) Try.underlying32 rfl (by kernel_rfl)) rfl ⟨.slice a n cap, rfl, ?_, below_store3 HB.out (by omega) _ _ _, Near.refl _ _⟩
    exact SI.below HSI.out (below_store3 HB.out (by omega) _ _ _)
  | true =>
  rw [hins] at HI
  rw [hcol] at HC
  have hE : fillE W H r c = 0 := by unfold fillE; rw [hins, hcol]; rfl
  have hS : fillS W H r c l = gen n (fillF W r c l) := by unfold fillS; rw [hins, hcol]; show fillL W r c l = _; unfold fillL; rw [HLN.out]
  rw [hE, hS]
  have hbd := ins_iff.1 hins
  have HIN := Lib.hid (fun x y w => refIn_any r x y (by omega) (by omega) w)
  rw [hrv] at HIN
  have HF : RowKit.Hid (∀ i : Nat, fillF W r c l i = if inB r (i % W) (i / W) then c else px l i) := Lib.hid (fun _ => rfl)
  clear hE hS hbd hins hcol
  generalize fillF W r c l = F at *
  go_enter Try.func14, Try.ntmps14
  go_wp2_with fail
  refine (HI.out _).mono ?_
  rintro q w4 ⟨rfl, b4⟩
  clear c0 c1 c2 r0 r1 r2 r3
  go_wp2_with fail
  refine (HC.out _).mono ?_
  rintro q w5 ⟨rfl, rfl⟩
  have RD := RDY.out w4 (b4.mono hs3)
  have hs4 := RD.s
  obtain ⟨⟨c0, c1, c2⟩, _⟩ := RD.i.cells
  have HB4 := Lib.hid b4
  have L0 := Lib.hid (Lp.new w4 W H)
  clear RD b4 HI HC
  go_wp2_with fail
  clear c0 c1 c2
  go_loopw [9] (fun i wr => ∃ k : Nat, k ≤ n ∧ i = .int .i64 k ∧ ∃ v, Lp w4 wr W H v (gen k F)) (fun i _ => n - (intOf i).toNat)
  case atStart => exact ⟨0, Nat.zero_le _, rfl, _, L0.out⟩
  case round =>
    obtain ⟨k, hk, rfl, v, M⟩ := hrel
    have RD := RDY.out wr ((HB4.out.mono hs3).trans (M.bel.mono hs4))
    have HM := Lib.hid M
    by_cases hlt : k < n
    · have d1 : decide (k < n) = true := decide_eq_true hlt
      have d2 : decide ((k : Int) < n) = true := decide_eq_true (by omega)
      obtain ⟨⟨c0, c1, c2⟩, _⟩ := RD.i.cells
      obtain ⟨g, off, rfl, hcell⟩ := RD.c (by omega)
      have q0 := hcell k hlt
      have hpk : 0 ≤ (k : Int) / W := Int.ediv_nonneg (by omega) (by omega)
      have HQ : RowKit.Hid (∀ W', Below wr.heap.size wr W' → _) := Lib.hid (fun W' (k : Below wr.heap.size wr W') => (RDY.out W' (((HB4.out.mono hs3).trans (M.bel.mono hs4)).trans (k.mono RD.s))))
      have t1 : Int.tmod (k : Int) W = (k : Int) % W := IntWalk.rem_in _ _ (by omega)
      have t2 : IntKind.i64.wrap (Int.tdiv (k : Int) W) = (k : Int) / W := IntWalk.i64_quo _ _ (by omega)
      have hW0 : ¬ W = 0 := by omega
      have t3 : (W == 0) = false := by simpa using hW0
      have hkW : (k : Int) / W ≤ k := Int.ediv_le_self _ (by omega)
      have t4 : IntKind.i64.wrap ((k : Int) / W) = (k : Int) / W := IntWalk.i64_in _ (by omega)
      have HF1 := Lib.hid (HF.out k)
      have HIN1 := Lib.hid (fun w => HIN.out ((k : Int) % W) ((k : Int) / W) w)
      have HS := Lib.hid (gen_succ k F)
      have HG := Lib.hid (gen_length k F)
      clear RD M hcell L0
      generalize inB r ((k : Int) % W) ((k : Int) / W) = p at *
      go_wp2_with fail
      refine region_all (by kernel_rfl) (flV r W w.heap.size k p) (fun W' => Below wr.heap.size wr W') [4, 9, 3] [none, none, none, none, none, none, none, none, none, none, none, none, none, none, none, none, none, none, none, none, none, none, none, none, none, none, none, none, none, none, none, none, none, none, none, none, none, none, none, none, some 0, some 1, some 2, some 3, some 4, some 5, some 6, some 7, some 8, some 9, none, none, none, none, none, none, none, none] (by kernel_rfl) (by kernel_rfl) (by rfl) (by kernel_rfl) (by kernel_rfl) (by kernel_rfl) ((Below.refl _ _).drew) ⟨?_, ?_, ?_, ?_, ?_, ?_, ?_, ?_, ?_, ?_, trivial⟩ ?_
      case refine_11 =>
        intro W' hS
        have RD := HQ.out W' hS
        have M1 := HM.out.keep hS
        have HM1 := Lib.hid M1
        obtain ⟨⟨g0, g1, g2⟩, _⟩ := M1.g.cells
        have hBl := M1.sz
        have HR := Lib.hid M1.row
        clear RD M1 HQ hS HM HIN1 HIN RDY
        simp only [zipF, flV]
        cases p with
        | true =>
          have hf : F k = c := by rw [HF1.out, if_pos rfl]
          have HFK := Lib.hid hf
          clear hf HF1 HF
          go_wp2_with (at_builtin; refine wpl_int rfl _ _ rfl v (w4.heap.size + 1) (gen k F) rfl HR.out hBl (by rw [HG.out]; omega) c _ rfl ?_; intro v' w6 h1 b1; have hv := (HM1.out.g.below b1 (by omega)).cells; have c2' := hv.1.2.2; have fz := hv.2; have HN := Lib.hid (HM1.out.step b1 h1); obtain ⟨a4, n4, cap4, rfl⟩ := shape4 h1; clear h1 b1 hv)
          refine ⟨⟨k + 1, by omega, by go_num, .slice a4 n4 cap4, ?_⟩, by simp [intOf]; omega⟩
          rw [HS.out, HFK.out]
          exact HN.out
        | false =>
          have hf : F k = px l k := by rw [HF1.out, if_neg (by simp)]
          have HFK := Lib.hid hf
          clear hf HF1 HF
          generalize px l k = c' at *
          go_wp2_with (at_builtin; refine wpl_int rfl _ _ rfl v (w4.heap.size + 1) (gen k F) rfl HR.out hBl (by rw [HG.out]; omega) c' _ rfl ?_; intro v' w6 h1 b1; have hv := (HM1.out.g.below b1 (by omega)).cells; have c2' := hv.1.2.2; have fz := hv.2; have HN := Lib.hid (HM1.out.step b1 h1); obtain ⟨a4, n4, cap4, rfl⟩ := shape4 h1; clear h1 b1 hv)
          refine ⟨⟨k + 1, by omega, by go_num, .slice a4 n4 cap4, ?_⟩, by simp [intOf]; omega⟩
          rw [HS.out, HFK.out]
          exact HN.out
      all_goals
        intro ℓ act Wd hl hS hw hr hd
        have RD := HQ.out Wd hS
        obtain ⟨⟨d0, d1, d2⟩, _⟩ := RD.i.cells
        obtain ⟨e0, e1, e2, e3⟩ := RD.r
        clear RD hw
        simp [readFacts, depFacts, dstOf, Region.binds, flV, hrv] at hr hd
        refine ⟨by first | exact wanted_none (by rfl) | exact wanted_guard (by rfl) (by rfl) (by assumption), fun K hK => ?_⟩
        go_simp
        first
          | exact hK _ hS
          | (with_reducible refine (HIN1.out _).mono ?_
             rintro r w' ⟨rfl, b⟩
             exact hK _ (hS.trans (b.mono hS.size)))
    · obtain rfl : k = n := by omega
      have d1 : decide (k < k) = false := decide_eq_false hlt
      have d2 : decide ((k : Int) < k) = false := decide_eq_false (by omega)
      obtain ⟨⟨g0, g1, g2⟩, _⟩ := M.g.cells
      obtain ⟨⟨o0, o1, o2⟩, fz⟩ := RD.o.cells
      obtain ⟨⟨i0, i1, i2⟩, _⟩ := RD.i.cells
      obtain ⟨a4, n4, cap4, rfl⟩ := shape4 M.row
      have HO := Lib.hid RD.o
      have HB := Lib.hid RD.b
      have hs5 := RD.s
      clear M RD RDY HIN HF L0 HB4
      go_wp2_with fail
      refine bodyPost_ret (Ret.ret_cell_tmp rfl _ _ (w.heap.size + 2) 32 _ (0, 0) _ rfl (store3 HO.out _ _ _) Try.underlying32 rfl (by kernel_rfl)) rfl ⟨.slice a4 n4 cap4, rfl, ?_, below_store3 HB.out (by omega) _ _ _, Fresh.near (fresh_row HM.out.row (by omega)) _⟩
      exact (row_store3 HM.out.row (by omega) _ _ _).si
end Go.Proofs.Ytlamdgdegmjljaa.Scr
