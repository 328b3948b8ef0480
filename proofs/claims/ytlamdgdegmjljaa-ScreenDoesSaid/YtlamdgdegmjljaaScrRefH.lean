/-
  Contracts of the reference of layer 14 (screen): what is moved; what two rectangles have in common.
-/
import Derived.Test.YtlamdgdegmjljaaScrRefE
import Derived.Test.YtlamdgdegmjljaaScrRefG
namespace Go.Proofs.Ytlamdgdegmjljaa.Scr
open Go.ChangeShapes Go.WideShapes Go.ChangeAt Go.RowKit Lz RowG RegVal Reg
set_option linter.unusedVariables false
set_option maxRecDepth 100000

/-- What stands ready: the image, two rectangles, the result's variable. -/
structure Rdy4 (w W' : World) (W H : Int) (a : Option Addr) (n cap : Nat) (ra rb : Rc) : Prop where
  i : VarAt W' w.heap.size W H (.slice a n cap)
  ra : RAt W' (w.heap.size + 1) ra
  rb : RAt W' (w.heap.size + 2) rb
  o : VarAt W' (w.heap.size + 3) 0 0 (.slice none 0 0)
  b : Below w.heap.size w W'
  s : w.heap.size + 4 ≤ W'.heap.size
theorem Rdy4.new {w : World} {W H : Int} {a : Option Addr} {n cap : Nat} {ra rb : Rc} :
    Rdy4 w ((((w.alloc (.cells #[.int .i64 W, .int .i64 H, .slice a n cap] 32)).alloc (.cells #[.int .i64 ra.x, .int .i64 ra.y, .int .i64 ra.w, .int .i64 ra.h] 35)).alloc (.cells #[.int .i64 rb.x, .int .i64 rb.y, .int .i64 rb.w, .int .i64 rb.h] 35)).alloc (.cells #[.int .i64 0, .int .i64 0, .slice none 0 0] 32)) W H a n cap ra rb := by
  have z1 := alloc_size w (.cells #[.int .i64 W, .int .i64 H, .slice a n cap] 32)
  have i1 := VarAt.new w W H (.slice a n cap)
  have b1 := (Below.refl w.heap.size w).alloc (Nat.le_refl _) (.cells #[.int .i64 W, .int .i64 H, .slice a n cap] 32)
  generalize w.alloc (.cells #[.int .i64 W, .int .i64 H, .slice a n cap] 32) = w1 at *
  have z2 := alloc_size w1 (.cells #[.int .i64 ra.x, .int .i64 ra.y, .int .i64 ra.w, .int .i64 ra.h] 35)
  have r2 := RAt.box w1 ra 35
  have k2 := (Below.refl w1.heap.size w1).alloc (Nat.le_refl _) (.cells #[.int .i64 ra.x, .int .i64 ra.y, .int .i64 ra.w, .int .i64 ra.h] 35)
  generalize w1.alloc (.cells #[.int .i64 ra.x, .int .i64 ra.y, .int .i64 ra.w, .int .i64 ra.h] 35) = w2 at *
  have z3 := alloc_size w2 (.cells #[.int .i64 rb.x, .int .i64 rb.y, .int .i64 rb.w, .int .i64 rb.h] 35)
  have r3 := RAt.box w2 rb 35
  have k3 := (Below.refl w2.heap.size w2).alloc (Nat.le_refl _) (.cells #[.int .i64 rb.x, .int .i64 rb.y, .int .i64 rb.w, .int .i64 rb.h] 35)
  generalize w2.alloc (.cells #[.int .i64 rb.x, .int .i64 rb.y, .int .i64 rb.w, .int .i64 rb.h] 35) = w3 at *
  have z4 := alloc_size w3 (.cells #[.int .i64 0, .int .i64 0, .slice none 0 0] 32)
  have o4 := VarAt.new w3 0 0 (.slice none 0 0)
  have k4 := (Below.refl w3.heap.size w3).alloc (Nat.le_refl _) (.cells #[.int .i64 0, .int .i64 0, .slice none 0 0] 32)
  generalize w3.alloc (.cells #[.int .i64 0, .int .i64 0, .slice none 0 0] 32) = w4 at *
  rw [z1] at r2
  rw [z2, z1] at r3
  rw [z3, z2, z1] at o4
  exact ⟨((i1.below k2 (by omega)).below k3 (by omega)).below k4 (by omega), (r2.below k3 (by omega)).below k4 (by omega), r3.below k4 (by omega), o4, ((b1.trans (k2.mono (by omega))).trans (k3.mono (by omega))).trans (k4.mono (by omega)), by omega⟩
theorem Rdy4.keep {w W1 W2 : World} {W H : Int} {a : Option Addr} {n cap : Nat} {ra rb : Rc} (h : Rdy4 w W1 W H a n cap ra rb) (k : Below (w.heap.size + 4) W1 W2) : Rdy4 w W2 W H a n cap ra rb :=
  ⟨h.i.below k (by omega), h.ra.below k (by omega), h.rb.below k (by omega), h.o.below k (by omega), h.b.trans (k.mono (by omega)), Nat.le_trans h.s k.size⟩
set_option maxHeartbeats 4000000 in
theorem refMove_any (W H : Int) (l : List Int) (v : Value) (ra rb : Rc) (w : World) (hm : ImOk W H l) (hs : SI w v l) :
    Calls Try.prog 18 #[imgV W H v, ra.v, rb.v] w fun e w' => ∃ v', e = .returned (.tuple #[imgV W H v', .int .i64 (moveE W H ra rb)]) ∧ SI w' v' (moveS W H ra rb l) ∧ Below w.heap.size w w' ∧ Near w v v' := by
  obtain ⟨a, n, cap, rfl, hln, hrd⟩ := hs.read
  clear hrd
  have hw := hm.w
  have hh := hm.h
  have hb := hm.bound
  rw [hln] at hb
  have R0 := Rdy4.new (w := w) (W := W) (H := H) (a := a) (n := n) (cap := cap) (ra := ra) (rb := rb)
  have HSI := Lib.hid hs
  have z1 := alloc_size w (.cells #[.int .i64 W, .int .i64 H, .slice a n cap] 32)
  have z2 := alloc_size (w.alloc (.cells #[.int .i64 W, .int .i64 H, .slice a n cap] 32)) (.cells #[.int .i64 ra.x, .int .i64 ra.y, .int .i64 ra.w, .int .i64 ra.h] 35)
  have z3 := alloc_size ((w.alloc (.cells #[.int .i64 W, .int .i64 H, .slice a n cap] 32)).alloc (.cells #[.int .i64 ra.x, .int .i64 ra.y, .int .i64 ra.w, .int .i64 ra.h] 35)) (.cells #[.int .i64 rb.x, .int .i64 rb.y, .int .i64 rb.w, .int .i64 rb.h] 35)
  obtain ⟨w1, hw1⟩ : ∃ w1, w.alloc (.cells #[.int .i64 W, .int .i64 H, .slice a n cap] 32) = w1 := ⟨_, rfl⟩
  rw [hw1] at R0 z1 z2 z3
  obtain ⟨w2, hw2⟩ : ∃ w2, w1.alloc (.cells #[.int .i64 ra.x, .int .i64 ra.y, .int .i64 ra.w, .int .i64 ra.h] 35) = w2 := ⟨_, rfl⟩
  rw [hw2] at R0 z2 z3
  have z2 : w2.heap.size = w.heap.size + 2 := by omega
  obtain ⟨wb, hwb⟩ : ∃ wb, w2.alloc (.cells #[.int .i64 rb.x, .int .i64 rb.y, .int .i64 rb.w, .int .i64 rb.h] 35) = wb := ⟨_, rfl⟩
  rw [hwb] at R0 z3
  have z3 : wb.heap.size = w.heap.size + 3 := by omega
  obtain ⟨w3, hw3⟩ : ∃ w3, wb.alloc (.cells #[.int .i64 0, .int .i64 0, .slice none 0 0] 32) = w3 := ⟨_, rfl⟩
  rw [hw3] at R0
  have RDY := Lib.hid (fun W' (k : Below (w.heap.size + 4) w3 W') => R0.keep k)
  have hs3 := R0.s
  have HP := Lib.hid (refPart_any W H l (.slice a n cap) ra w3 hm (hs.below R0.b))
  have HI := Lib.hid (fun w => refInside_any rb W H (by simp [Lit.wf, IntKind.min, IntKind.max, IntKind.signed, IntKind.bits]; omega) (by simp [Lit.wf, IntKind.min, IntKind.max, IntKind.signed, IntKind.bits]; omega) w)
  obtain ⟨⟨c0, c1, c2⟩, _⟩ := R0.i.cells
  obtain ⟨ra0, ra1, ra2, ra3⟩ := R0.ra
  have hrva : ra.v = .agg #[.int .i64 ra.x, .int .i64 ra.y, .int .i64 ra.w, .int .i64 ra.h] := rfl
  have hrvb : rb.v = .agg #[.int .i64 rb.x, .int .i64 rb.y, .int .i64 rb.w, .int .i64 rb.h] := rfl
  rw [hrva] at HP
  rw [hrvb] at HI
  rw [hrva, hrvb]
  have HLN := Lib.hid hln
  have HB0 := Lib.hid R0.b
  clear R0 hs hln
  unfold imgV
  unfold imgV at HP
  cases hina : insB ra W H with
  | false =>
    have hE : moveE W H ra rb = 140 := by unfold moveE; rw [hina]; rfl
    have hS : moveS W H ra rb l = l := by unfold moveS; rw [hina]; rfl
    have hP : partE W H ra = 140 := by unfold partE; rw [hina]; rfl
    rw [hP] at HP
    rw [hE, hS]
    clear hE hS hP hina HI
    go_enter Try.func18, Try.ntmps18
    go_wp2_with fail
    refine HP.out.mono ?_
    rintro q w4 ⟨pv, rfl, _, b4, _⟩
    clear c0 c1 c2 ra0 ra1 ra2 ra3 HP
    have RD := RDY.out w4 (b4.mono hs3)
    obtain ⟨⟨c0, c1, c2⟩, _⟩ := RD.i.cells
    obtain ⟨⟨o0, o1, o2⟩, fz⟩ := RD.o.cells
    obtain ⟨ra0, ra1, ra2, ra3⟩ := RD.ra
    obtain ⟨rb0, rb1, rb2, rb3⟩ := RD.rb
    have HO := Lib.hid RD.o
    have HB := Lib.hid RD.b
    clear RD RDY b4
    go_wp2_with fail
    refine bodyPost_ret (Ret.ret_cell_tmp rfl _ _ (w.heap.size + 3) 32 _ (0, 0) _ rfl (store3 HO.out _ _ _) Try.underlying32 rfl (by kernel_rfl)) rfl ⟨.slice a n cap, rfl, ?_, below_store3 HB.out (by omega) _ _ _, Near.refl _ _⟩
    exact SI.below HSI.out (below_store3 HB.out (by omega) _ _ _)
  | true =>
  have hP : partE W H ra = 0 := by unfold partE; rw [hina]; rfl
  have hPS : partS W H ra l = partL W ra l := by unfold partS; rw [hina]; rfl
  rw [hP, hPS] at HP
  clear hP hPS
  cases hinb : insB rb W H with
  | false =>
    rw [hinb] at HI
    have hE : moveE W H ra rb = 140 := by unfold moveE; rw [hina, hinb]; rfl
    have hS : moveS W H ra rb l = l := by unfold moveS; rw [hina, hinb]; rfl
    rw [hE, hS]
    clear hE hS hina hinb
    go_enter Try.func18, Try.ntmps18
    go_wp2_with fail
    refine HP.out.mono ?_
    rintro q w5 ⟨pv, rfl, _, b5, _⟩
    clear c0 c1 c2 ra0 ra1 ra2 ra3 HP
    have RD := RDY.out w5 (b5.mono hs3)
    obtain ⟨⟨c0, c1, c2⟩, _⟩ := RD.i.cells
    obtain ⟨rb0, rb1, rb2, rb3⟩ := RD.rb
    have B5 := Lib.hid b5
    clear RD b5
    go_wp2_with fail
    refine (HI.out _).mono ?_
    rintro q w4 ⟨rfl, b⟩
    have b4 := B5.out.trans (b.mono B5.out.size)
    clear c0 c1 c2 rb0 rb1 rb2 rb3 HI b
    have RD := RDY.out w4 (b4.mono hs3)
    obtain ⟨⟨c0, c1, c2⟩, _⟩ := RD.i.cells
    obtain ⟨⟨o0, o1, o2⟩, fz⟩ := RD.o.cells
    obtain ⟨ra0, ra1, ra2, ra3⟩ := RD.ra
    obtain ⟨rb0, rb1, rb2, rb3⟩ := RD.rb
    have HO := Lib.hid RD.o
    have HB := Lib.hid RD.b
    clear RD RDY b4
    go_wp2_with fail
    refine bodyPost_ret (Ret.ret_cell_tmp rfl _ _ (w.heap.size + 3) 32 _ (0, 0) _ rfl (store3 HO.out _ _ _) Try.underlying32 rfl (by kernel_rfl)) rfl ⟨.slice a n cap, rfl, ?_, below_store3 HB.out (by omega) _ _ _, Near.refl _ _⟩
    exact SI.below HSI.out (below_store3 HB.out (by omega) _ _ _)
  | true =>
  rw [hinb] at HI
  have hPW := part_length hm hina
  have hia := ins_iff.1 hina
  have hib := ins_iff.1 hinb
  cases hal : alike ra rb with
  | false =>
    have hE : moveE W H ra rb = 1 := by unfold moveE; rw [hina, hinb, hal]; rfl
    have hS : moveS W H ra rb l = l := by unfold moveS; rw [hina, hinb, hal]; rfl
    rw [hE, hS]
    have hne : ¬ (ra.w = rb.w ∧ ra.h = rb.h) := of_decide_eq_false hal
    clear hE hS hina hinb hPW hia hib hal
    go_enter Try.func18, Try.ntmps18
    go_wp2_with fail
    refine HP.out.mono ?_
    rintro q w5 ⟨pv, rfl, _, b5, _⟩
    clear c0 c1 c2 ra0 ra1 ra2 ra3 HP
    have RD := RDY.out w5 (b5.mono hs3)
    obtain ⟨⟨c0, c1, c2⟩, _⟩ := RD.i.cells
    obtain ⟨rb0, rb1, rb2, rb3⟩ := RD.rb
    have B5 := Lib.hid b5
    clear RD b5
    go_wp2_with fail
    refine (HI.out _).mono ?_
    rintro q w4 ⟨rfl, b⟩
    have b4 := B5.out.trans (b.mono B5.out.size)
    clear c0 c1 c2 rb0 rb1 rb2 rb3 HI b
    by_cases hww : ra.w = rb.w
    · have d1 : (ra.w != rb.w) = false := by simpa using hww
      have d2 : (ra.h != rb.h) = true := by simpa using fun e => hne ⟨hww, e⟩
      clear hne hww
      have RD := RDY.out w4 (b4.mono hs3)
      obtain ⟨⟨c0, c1, c2⟩, _⟩ := RD.i.cells
      obtain ⟨⟨o0, o1, o2⟩, fz⟩ := RD.o.cells
      obtain ⟨ra0, ra1, ra2, ra3⟩ := RD.ra
      obtain ⟨rb0, rb1, rb2, rb3⟩ := RD.rb
      have HO := Lib.hid RD.o
      have HB := Lib.hid RD.b
      clear RD RDY b4
      go_wp2_with fail
      refine bodyPost_ret (Ret.ret_cell_tmp rfl _ _ (w.heap.size + 3) 32 _ (0, 0) _ rfl (store3 HO.out _ _ _) Try.underlying32 rfl (by kernel_rfl)) rfl ⟨.slice a n cap, rfl, ?_, below_store3 HB.out (by omega) _ _ _, Near.refl _ _⟩
      exact SI.below HSI.out (below_store3 HB.out (by omega) _ _ _)
    · have d1 : (ra.w != rb.w) = true := by simpa using hww
      clear hne hww
      have RD := RDY.out w4 (b4.mono hs3)
      obtain ⟨⟨c0, c1, c2⟩, _⟩ := RD.i.cells
      obtain ⟨⟨o0, o1, o2⟩, fz⟩ := RD.o.cells
      obtain ⟨ra0, ra1, ra2, ra3⟩ := RD.ra
      obtain ⟨rb0, rb1, rb2, rb3⟩ := RD.rb
      have HO := Lib.hid RD.o
      have HB := Lib.hid RD.b
      clear RD RDY b4
      go_wp2_with fail
      refine bodyPost_ret (Ret.ret_cell_tmp rfl _ _ (w.heap.size + 3) 32 _ (0, 0) _ rfl (store3 HO.out _ _ _) Try.underlying32 rfl (by kernel_rfl)) rfl ⟨.slice a n cap, rfl, ?_, below_store3 HB.out (by omega) _ _ _, Near.refl _ _⟩
      exact SI.below HSI.out (below_store3 HB.out (by omega) _ _ _)
  | true =>
  have hE : moveE W H ra rb = 0 := by unfold moveE; rw [hina, hinb, hal]; rfl
  have hS : moveS W H ra rb l = blitS W H rb (partL W ra l) l := by unfold moveS blitS; rw [hina, hinb, hal, right_part hm hina hal]; rfl
  have hBE : blitE W H rb (partL W ra l) = 0 := by unfold blitE; rw [hinb, right_part hm hina hal]; rfl
  obtain ⟨e1, e2⟩ : ra.w = rb.w ∧ ra.h = rb.h := of_decide_eq_true hal
  have d1 : (ra.w != rb.w) = false := by simpa using e1
  have d2 : (ra.h != rb.h) = false := by simpa using e2
  have hPL : (partL W ra l).length ≤ 1000000000 := by
    have h1 := partN_length W ra l l.length
    have : (partL W ra l).length ≤ l.length := h1
    rw [HLN.out] at this
    omega
  have HBL := Lib.hid (fun (pv : Value) w4 (k : Below w.heap.size w w4) (hp : SI w4 pv (partL W ra l)) => refBlit_any W H l (.slice a n cap) rb (partL W ra l) pv w4 hm (HSI.out.below k) hp.sw hPL)
  rw [hBE, hrvb] at HBL
  unfold imgV at HBL
  rw [hE, hS]
  clear hE hS hBE hina hinb hal hPW hia hib e1 e2 hPL hm
  generalize blitS W H rb (partL W ra l) l = BS at *
  generalize partL W ra l = PL at *
  go_enter Try.func18, Try.ntmps18
  go_wp2_with fail
  refine HP.out.mono ?_
  rintro q w5 ⟨pv, rfl, s5, b5, _⟩
  clear c0 c1 c2 ra0 ra1 ra2 ra3 HP
  have RD := RDY.out w5 (b5.mono hs3)
  obtain ⟨⟨c0, c1, c2⟩, _⟩ := RD.i.cells
  obtain ⟨rb0, rb1, rb2, rb3⟩ := RD.rb
  have B5 := Lib.hid b5
  have S5 := Lib.hid s5
  clear RD b5 s5
  go_wp2_with fail
  refine (HI.out _).mono ?_
  rintro q w4 ⟨rfl, b⟩
  have b4 := B5.out.trans (b.mono B5.out.size)
  have S4 := Lib.hid (S5.out.below b)
  have B4 := Lib.hid b4
  clear c0 c1 c2 rb0 rb1 rb2 rb3 HI b S5 B5
  have RD := RDY.out w4 (b4.mono hs3)
  obtain ⟨⟨c0, c1, c2⟩, _⟩ := RD.i.cells
  obtain ⟨rb0, rb1, rb2, rb3⟩ := RD.rb
  obtain ⟨ra0, ra1, ra2, ra3⟩ := RD.ra
  have HBW := Lib.hid RD.b
  clear RD b4
  go_wp2_with fail
  refine (HBL.out pv w4 HBW.out S4.out).mono ?_
  rintro q w6 ⟨v', rfl, s6, b6, n6⟩
  have RD := RDY.out w6 ((B4.out.mono hs3).trans (b6.mono (Nat.le_trans hs3 B4.out.size)))
  obtain ⟨⟨o0, o1, o2⟩, fz⟩ := RD.o.cells
  have HO := Lib.hid RD.o
  have HB := Lib.hid RD.b
  have HS6 := Lib.hid s6
  have HN6 := Lib.hid n6
  have hle := HBW.out.size
  have hle4 := B4.out.size
  obtain ⟨a6, n6', c6, rfl⟩ : ∃ a n c, v' = .slice a n c := by
    obtain ⟨a, c, e⟩ := s6.form
    exact ⟨a, _, c, e⟩
  have hoff := s6.lt
  clear c0 c1 c2 ra0 ra1 ra2 ra3 rb0 rb1 rb2 rb3 RD s6 n6 b6 HBL
  go_wp2_with fail
  refine bodyPost_ret (Ret.ret_cell_tmp rfl _ _ (w.heap.size + 3) 32 _ (0, 0) _ rfl (store3 HO.out _ _ _) Try.underlying32 rfl (by kernel_rfl)) rfl ⟨.slice a6 n6' c6, rfl, ?_, below_store3 HB.out (by omega) _ _ _, ?_⟩
  · refine SI.touch HS6.out (F := [w.heap.size + 3]) ?_ ?_
    · exact ⟨rfl, rfl, rfl, by simp, fun k hk hn => by
        have hne : k ≠ w.heap.size + 3 := by simpa using hn
        rw [heap_setCell_other _ ⟨w.heap.size + 3, 2, none⟩ k _ hne, heap_setCell_other _ ⟨w.heap.size + 3, 1, none⟩ k _ hne, heap_setCell_other _ ⟨w.heap.size + 3, 0, none⟩ k _ hne]⟩
    · intro k hk hm
      have hk3 : k = w.heap.size + 3 := by simpa using hm
      subst hk3
      rcases HN6.out _ hk with h1 | h1
      · have := HSI.out.lt _ h1
        omega
      · omega
  · intro k hk
    rcases HN6.out k hk with h1 | h1
    · exact .inl h1
    · exact .inr (by omega)

/-- What two have in common. -/
def meetR (a b : Rc) : Rc := if min (a.x + a.w) (b.x + b.w) - max a.x b.x < 1 ∨ min (a.y + a.h) (b.y + b.h) - max a.y b.y < 1 then ⟨0, 0, 0, 0⟩ else ⟨max a.x b.x, max a.y b.y, min (a.x + a.w) (b.x + b.w) - max a.x b.x, min (a.y + a.h) (b.y + b.h) - max a.y b.y⟩
theorem meetR_comm (a b : Rc) : meetR a b = meetR b a := by
  unfold meetR
  rw [Int.max_comm a.x, Int.max_comm a.y, Int.min_comm (a.x + a.w), Int.min_comm (a.y + a.h)]
def small (r : Rc) : Prop := (-1073741824 ≤ r.x ∧ r.x ≤ 1073741824) ∧ (-1073741824 ≤ r.y ∧ r.y ≤ 1073741824) ∧ (-1073741824 ≤ r.w ∧ r.w ≤ 1073741824) ∧ (-1073741824 ≤ r.h ∧ r.h ≤ 1073741824)
end Go.Proofs.Ytlamdgdegmjljaa.Scr
