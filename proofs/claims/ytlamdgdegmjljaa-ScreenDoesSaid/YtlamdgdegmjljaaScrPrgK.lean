/-
  The program's Move, Part, Image.
-/
import Derived.Test.YtlamdgdegmjljaaScrPrgJ
namespace Go.Proofs.Ytlamdgdegmjljaa.Scr
open Go.ChangeShapes Go.WideShapes Go.ChangeAt Go.RowKit Lz RowG RegVal Reg
set_option linter.unusedVariables false
set_option maxRecDepth 100000

/-- What is drawn once it has been taken. -/
theorem taken {w' : World} {b g : Nat} {W H : Int} {l : List Int} {B : Nat} {u : Value} {q : List Int} (h : ScrAt w' b g W H l) (hu : IntsAt B w' u q) (hB : g < B) (r : Rc) (hr : insB r W H = true) (hright : rightQ r q = true) :
    Calls Try.prog 42 #[ptr b, r.v, u] w' fun e w2 => e = .returned (.tuple #[]) ∧ ScrAt w2 b g W H (blitL W r q l) ∧ Touch w' w2 [g] :=
  draw_any h r hr q u hu.si.sw hu.room (fun _ k hk e => by have := hu.2.1 k hk; omega) hright
/-- Two rectangles that were boxed. -/
structure MvW (w W : World) (a c : Rc) : Prop where
  a : RAt W w.heap.size a
  c : RAt W (w.heap.size + 1) c
  b : Below w.heap.size w W
  z : w.heap.size + 2 ≤ W.heap.size
theorem MvW.keep {w W W' : World} {a c : Rc} (h : MvW w W a c) (k : Below W.heap.size W W') : MvW w W' a c :=
  ⟨h.a.below k (by have := h.z; omega), h.c.below k (by have := h.z; omega), below_n h.b k, Nat.le_trans h.z k.size⟩
theorem MvW.new (w : World) (a c : Rc) : MvW w ((w.alloc (.cells #[.int .i64 a.x, .int .i64 a.y, .int .i64 a.w, .int .i64 a.h] 35)).alloc (.cells #[.int .i64 c.x, .int .i64 c.y, .int .i64 c.w, .int .i64 c.h] 35)) a c := by
  have z1 := alloc_size w (.cells #[.int .i64 a.x, .int .i64 a.y, .int .i64 a.w, .int .i64 a.h] 35)
  have i1 := RAt.box w a 35
  have b1 := (Below.refl w.heap.size w).alloc (Nat.le_refl _) (.cells #[.int .i64 a.x, .int .i64 a.y, .int .i64 a.w, .int .i64 a.h] 35)
  generalize w.alloc (.cells #[.int .i64 a.x, .int .i64 a.y, .int .i64 a.w, .int .i64 a.h] 35) = w1 at *
  have z2 := alloc_size w1 (.cells #[.int .i64 c.x, .int .i64 c.y, .int .i64 c.w, .int .i64 c.h] 35)
  have i2 := RAt.box w1 c 35
  have k2 := (Below.refl w1.heap.size w1).alloc (Nat.le_refl _) (.cells #[.int .i64 c.x, .int .i64 c.y, .int .i64 c.w, .int .i64 c.h] 35)
  rw [z1] at i2
  exact ⟨i1.below k2 (by omega), i2, below_n b1 k2, by omega⟩
set_option maxHeartbeats 1000000 in
theorem move_out1 {w : World} {b g : Nat} {W H : Int} {l : List Int} (h : ScrAt w b g W H l) (ra rb : Rc) (ha : insB ra W H = false) :
    Calls Try.prog 17 #[ptr b, ra.v, rb.v] w fun e w' => e = .returned (.int .i64 140) ∧ Below w.heap.size w w' := by
  have M0 := MvW.new w ra rb
  have KA := Lib.hid (fun W0 (k : Below w.heap.size w W0) => has_any (h.below k (Nat.le_refl _)) ra)
  have KB := Lib.hid (fun W0 (k : Below w.heap.size w W0) => has_any (h.below k (Nat.le_refl _)) rb)
  rw [ha] at KA
  obtain ⟨ax, ay, aw, ah⟩ := ra
  obtain ⟨bx, by', bw, bh⟩ := rb
  unfold Rc.v ptr at *
  simp only at *
  obtain ⟨w1, hw1⟩ : ∃ w1, w.alloc (.cells #[.int .i64 ax, .int .i64 ay, .int .i64 aw, .int .i64 ah] 35) = w1 := ⟨_, rfl⟩
  rw [hw1] at M0
  obtain ⟨w2, hw2⟩ : ∃ w2, w1.alloc (.cells #[.int .i64 bx, .int .i64 by', .int .i64 bw, .int .i64 bh] 35) = w2 := ⟨_, rfl⟩
  rw [hw2] at M0
  have z1 := alloc_size w (.cells #[.int .i64 ax, .int .i64 ay, .int .i64 aw, .int .i64 ah] 35)
  rw [hw1] at z1
  have M2 := Lib.hid M0
  clear M0 h ha KB
  obtain ⟨r0, r1, r2, r3⟩ := M2.out.a
  obtain ⟨s0, s1, s2, s3⟩ := M2.out.c
  simp only at r0 r1 r2 r3 s0 s1 s2 s3
  go_enter Try.func17, Try.ntmps17
  go_wp2_with fail
  have C1 := Lib.hid (KA.out _ M2.out.b)
  refine C1.out.mono ?_
  rintro e w3 ⟨rfl, b3⟩
  have M3 := Lib.hid (M2.out.keep b3)
  clear b3 C1 r0 r1 r2 r3 s0 s1 s2 s3
  obtain ⟨r0, r1, r2, r3⟩ := M3.out.a
  obtain ⟨s0, s1, s2, s3⟩ := M3.out.c
  simp only at r0 r1 r2 r3 s0 s1 s2 s3
  go_wp2_with fail
  go_ret
  exact ⟨rfl, M3.out.b⟩
set_option maxHeartbeats 1000000 in
theorem move_out2 {w : World} {b g : Nat} {W H : Int} {l : List Int} (h : ScrAt w b g W H l) (ra rb : Rc) (ha : insB ra W H = true) (hb : insB rb W H = false) :
    Calls Try.prog 17 #[ptr b, ra.v, rb.v] w fun e w' => e = .returned (.int .i64 140) ∧ Below w.heap.size w w' := by
  have M0 := MvW.new w ra rb
  have KA := Lib.hid (fun W0 (k : Below w.heap.size w W0) => has_any (h.below k (Nat.le_refl _)) ra)
  have KB := Lib.hid (fun W0 (k : Below w.heap.size w W0) => has_any (h.below k (Nat.le_refl _)) rb)
  rw [ha] at KA
  rw [hb] at KB
  obtain ⟨ax, ay, aw, ah⟩ := ra
  obtain ⟨bx, by', bw, bh⟩ := rb
  unfold Rc.v ptr at *
  simp only at *
  obtain ⟨w1, hw1⟩ : ∃ w1, w.alloc (.cells #[.int .i64 ax, .int .i64 ay, .int .i64 aw, .int .i64 ah] 35) = w1 := ⟨_, rfl⟩
  rw [hw1] at M0
  obtain ⟨w2, hw2⟩ : ∃ w2, w1.alloc (.cells #[.int .i64 bx, .int .i64 by', .int .i64 bw, .int .i64 bh] 35) = w2 := ⟨_, rfl⟩
  rw [hw2] at M0
  have z1 := alloc_size w (.cells #[.int .i64 ax, .int .i64 ay, .int .i64 aw, .int .i64 ah] 35)
  rw [hw1] at z1
  have M2 := Lib.hid M0
  clear M0 h ha hb
  obtain ⟨r0, r1, r2, r3⟩ := M2.out.a
  obtain ⟨s0, s1, s2, s3⟩ := M2.out.c
  simp only at r0 r1 r2 r3 s0 s1 s2 s3
  go_enter Try.func17, Try.ntmps17
  go_wp2_with fail
  have C1 := Lib.hid (KA.out _ M2.out.b)
  refine C1.out.mono ?_
  rintro e w3 ⟨rfl, b3⟩
  have M3 := Lib.hid (M2.out.keep b3)
  clear b3 C1 r0 r1 r2 r3 s0 s1 s2 s3
  obtain ⟨r0, r1, r2, r3⟩ := M3.out.a
  obtain ⟨s0, s1, s2, s3⟩ := M3.out.c
  simp only at r0 r1 r2 r3 s0 s1 s2 s3
  go_wp2_with fail
  have C2 := Lib.hid (KB.out _ M3.out.b)
  refine C2.out.mono ?_
  rintro e w4 ⟨rfl, b4⟩
  have M4 := Lib.hid (M3.out.keep b4)
  clear b4 C2 r0 r1 r2 r3 s0 s1 s2 s3
  obtain ⟨r0, r1, r2, r3⟩ := M4.out.a
  obtain ⟨s0, s1, s2, s3⟩ := M4.out.c
  simp only at r0 r1 r2 r3 s0 s1 s2 s3
  go_wp2_with fail
  go_ret
  exact ⟨rfl, M4.out.b⟩
set_option maxHeartbeats 1000000 in
theorem move_not {w : World} {b g : Nat} {W H : Int} {l : List Int} (h : ScrAt w b g W H l) (ra rb : Rc) (ha : insB ra W H = true) (hb : insB rb W H = true) (hab : alike ra rb = false) :
    Calls Try.prog 17 #[ptr b, ra.v, rb.v] w fun e w' => e = .returned (.int .i64 1) ∧ Below w.heap.size w w' := by
  have M0 := MvW.new w ra rb
  have KA := Lib.hid (fun W0 (k : Below w.heap.size w W0) => has_any (h.below k (Nat.le_refl _)) ra)
  have KB := Lib.hid (fun W0 (k : Below w.heap.size w W0) => has_any (h.below k (Nat.le_refl _)) rb)
  rw [ha] at KA
  rw [hb] at KB
  have hab := of_decide_eq_false hab
  obtain ⟨ax, ay, aw, ah⟩ := ra
  obtain ⟨bx, by', bw, bh⟩ := rb
  unfold Rc.v ptr at *
  simp only at *
  obtain ⟨w1, hw1⟩ : ∃ w1, w.alloc (.cells #[.int .i64 ax, .int .i64 ay, .int .i64 aw, .int .i64 ah] 35) = w1 := ⟨_, rfl⟩
  rw [hw1] at M0
  obtain ⟨w2, hw2⟩ : ∃ w2, w1.alloc (.cells #[.int .i64 bx, .int .i64 by', .int .i64 bw, .int .i64 bh] 35) = w2 := ⟨_, rfl⟩
  rw [hw2] at M0
  have z1 := alloc_size w (.cells #[.int .i64 ax, .int .i64 ay, .int .i64 aw, .int .i64 ah] 35)
  rw [hw1] at z1
  have M2 := Lib.hid M0
  clear M0 h ha hb
  by_cases h1 : aw = bw
  · subst h1
    have t1 : (aw == aw) = true := by simp
    have h2 : ¬ (ah = bh) := fun e => hab ⟨rfl, e⟩
    have t2 : (ah == bh) = false := by simpa using h2
    clear hab
    obtain ⟨r0, r1, r2, r3⟩ := M2.out.a
    obtain ⟨s0, s1, s2, s3⟩ := M2.out.c
    simp only at r0 r1 r2 r3 s0 s1 s2 s3
    go_enter Try.func17, Try.ntmps17
    go_wp2_with fail
    have C1 := Lib.hid (KA.out _ M2.out.b)
    refine C1.out.mono ?_
    rintro e w3 ⟨rfl, b3⟩
    have M3 := Lib.hid (M2.out.keep b3)
    clear b3 C1 r0 r1 r2 r3 s0 s1 s2 s3
    obtain ⟨r0, r1, r2, r3⟩ := M3.out.a
    obtain ⟨s0, s1, s2, s3⟩ := M3.out.c
    simp only at r0 r1 r2 r3 s0 s1 s2 s3
    go_wp2_with fail
    have C2 := Lib.hid (KB.out _ M3.out.b)
    refine C2.out.mono ?_
    rintro e w4 ⟨rfl, b4⟩
    have M4 := Lib.hid (M3.out.keep b4)
    clear b4 C2 r0 r1 r2 r3 s0 s1 s2 s3
    obtain ⟨r0, r1, r2, r3⟩ := M4.out.a
    obtain ⟨s0, s1, s2, s3⟩ := M4.out.c
    simp only at r0 r1 r2 r3 s0 s1 s2 s3
    go_wp2_with fail
    go_ret
    exact ⟨rfl, M4.out.b⟩
  · have t1 : (aw == bw) = false := by simpa using h1
    clear hab
    obtain ⟨r0, r1, r2, r3⟩ := M2.out.a
    obtain ⟨s0, s1, s2, s3⟩ := M2.out.c
    simp only at r0 r1 r2 r3 s0 s1 s2 s3
    go_enter Try.func17, Try.ntmps17
    go_wp2_with fail
    have C1 := Lib.hid (KA.out _ M2.out.b)
    refine C1.out.mono ?_
    rintro e w3 ⟨rfl, b3⟩
    have M3 := Lib.hid (M2.out.keep b3)
    clear b3 C1 r0 r1 r2 r3 s0 s1 s2 s3
    obtain ⟨r0, r1, r2, r3⟩ := M3.out.a
    obtain ⟨s0, s1, s2, s3⟩ := M3.out.c
    simp only at r0 r1 r2 r3 s0 s1 s2 s3
    go_wp2_with fail
    have C2 := Lib.hid (KB.out _ M3.out.b)
    refine C2.out.mono ?_
    rintro e w4 ⟨rfl, b4⟩
    have M4 := Lib.hid (M3.out.keep b4)
    clear b4 C2 r0 r1 r2 r3 s0 s1 s2 s3
    obtain ⟨r0, r1, r2, r3⟩ := M4.out.a
    obtain ⟨s0, s1, s2, s3⟩ := M4.out.c
    simp only at r0 r1 r2 r3 s0 s1 s2 s3
    go_wp2_with fail
    go_ret
    exact ⟨rfl, M4.out.b⟩
set_option maxHeartbeats 4000000 in
theorem move_in {w : World} {b g : Nat} {W H : Int} {l : List Int} (h : ScrAt w b g W H l) (ra rb : Rc) (ha : insB ra W H = true) (hb : insB rb W H = true) (hab : alike ra rb = true) :
    Calls Try.prog 17 #[ptr b, ra.v, rb.v] w fun e w' => e = .returned (.int .i64 0) ∧ ScrAt w' b g W H (blitL W rb (partL W ra l) l) ∧ Touch w w' [g] := by
  have KT := Lib.hid (fun W0 (k : MvW w W0 ra rb) => (take_any (h.below k.b (Nat.le_refl _)) ra ha).mono (fun e w' hh => (by
    obtain ⟨u, rfl, hu, hbl⟩ := hh
    have k' := k.keep hbl
    refine ⟨u, rfl, k'.a, k'.c, k'.b, Lib.hid (taken (h.below k'.b (Nat.le_refl _)) hu (by have := h.lt; have := k.z; omega) rb hb (right_part h.ok ha hab))⟩ :
    ∃ u, e = .returned u ∧ RAt w' w.heap.size ra ∧ RAt w' (w.heap.size + 1) rb ∧ Below w.heap.size w w' ∧ Hid (Calls Try.prog 42 #[ptr b, rb.v, u] w' fun e w2 => e = .returned (.tuple #[]) ∧ ScrAt w2 b g W H (blitL W rb (partL W ra l) l) ∧ Touch w' w2 [g]))))
  have M0 := MvW.new w ra rb
  have KA := Lib.hid (fun W0 (k : Below w.heap.size w W0) => has_any (h.below k (Nat.le_refl _)) ra)
  have KB := Lib.hid (fun W0 (k : Below w.heap.size w W0) => has_any (h.below k (Nat.le_refl _)) rb)
  rw [ha] at KA
  rw [hb] at KB
  have hab := of_decide_eq_true hab
  generalize blitL W rb (partL W ra l) l = L2 at *
  obtain ⟨ax, ay, aw, ah⟩ := ra
  obtain ⟨bx, by', bw, bh⟩ := rb
  unfold Rc.v ptr at *
  simp only at *
  obtain ⟨w1, hw1⟩ : ∃ w1, w.alloc (.cells #[.int .i64 ax, .int .i64 ay, .int .i64 aw, .int .i64 ah] 35) = w1 := ⟨_, rfl⟩
  rw [hw1] at M0
  obtain ⟨w2, hw2⟩ : ∃ w2, w1.alloc (.cells #[.int .i64 bx, .int .i64 by', .int .i64 bw, .int .i64 bh] 35) = w2 := ⟨_, rfl⟩
  rw [hw2] at M0
  have z1 := alloc_size w (.cells #[.int .i64 ax, .int .i64 ay, .int .i64 aw, .int .i64 ah] 35)
  rw [hw1] at z1
  have M2 := Lib.hid M0
  clear M0 h ha hb
  obtain ⟨rfl, rfl⟩ := hab
  have t1 : (aw == aw) = true := by simp
  have t2 : (ah == ah) = true := by simp
  obtain ⟨r0, r1, r2, r3⟩ := M2.out.a
  obtain ⟨s0, s1, s2, s3⟩ := M2.out.c
  simp only at r0 r1 r2 r3 s0 s1 s2 s3
  go_enter Try.func17, Try.ntmps17
  go_wp2_with fail
  have C1 := Lib.hid (KA.out _ M2.out.b)
  refine C1.out.mono ?_
  rintro e w3 ⟨rfl, b3⟩
  have M3 := Lib.hid (M2.out.keep b3)
  clear b3 C1 r0 r1 r2 r3 s0 s1 s2 s3
  obtain ⟨r0, r1, r2, r3⟩ := M3.out.a
  obtain ⟨s0, s1, s2, s3⟩ := M3.out.c
  simp only at r0 r1 r2 r3 s0 s1 s2 s3
  go_wp2_with fail
  have C2 := Lib.hid (KB.out _ M3.out.b)
  refine C2.out.mono ?_
  rintro e w4 ⟨rfl, b4⟩
  have M4 := Lib.hid (M3.out.keep b4)
  clear b4 C2 r0 r1 r2 r3 s0 s1 s2 s3
  obtain ⟨r0, r1, r2, r3⟩ := M4.out.a
  obtain ⟨s0, s1, s2, s3⟩ := M4.out.c
  simp only at r0 r1 r2 r3 s0 s1 s2 s3
  go_wp2_with fail
  have M5 : RowKit.Hid (MvW w w4.drew _ _) := Lib.hid ⟨M4.out.a, M4.out.c, M4.out.b.drew, M4.out.z⟩
  have T5 := Lib.hid (KT.out _ M5.out)
  clear KT KA KB hw1 hw2
  go_region_with (first
    | (refine T5.out.mono ?_; rintro e w6 ⟨u, rfl, ⟨x0, x1, x2, x3⟩, ⟨y0, y1, y2, y3⟩, b6, D6⟩; have B6 := Lib.hid b6; clear b6)
    | (refine D6.out.mono ?_; rintro e w7 ⟨rfl, s7, t7⟩; have S7 := Lib.hid s7; have T7 := Lib.hid t7; clear s7 t7))
  all_goals
    clear r0 r1 r2 r3 s0 s1 s2 s3 x0 x1 x2 x3 y0 y1 y2 y3
    go_wp2_with fail
    go_ret
    exact ⟨rfl, S7.out, ⟨T7.out.os.trans B6.out.os, T7.out.tape.trans B6.out.tape, T7.out.output.trans B6.out.output, Nat.le_trans B6.out.size T7.out.size, fun k hk hm => (T7.out.block k (Nat.lt_of_lt_of_le hk B6.out.size) hm).trans (B6.out.block k hk)⟩⟩
end Go.Proofs.Ytlamdgdegmjljaa.Scr
