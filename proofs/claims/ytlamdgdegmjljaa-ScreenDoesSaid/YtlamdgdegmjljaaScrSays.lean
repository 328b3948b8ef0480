/-
  What is asked of the program's calls of layer 14 (screen), and the document's example.
-/
import Derived.Test.YtlamdgdegmjljaaScrRefF
import Derived.Test.YtlamdgdegmjljaaScrRefI
namespace Go.Proofs.Ytlamdgdegmjljaa.Scr
open Go.ChangeShapes Go.WideShapes Go.ChangeAt Go.RowKit Lz RowG RegVal Reg
set_option linter.unusedVariables false
set_option maxRecDepth 100000

/-- How a screen lies in memory: where it is, its size, its colours, all its blocks. -/
abbrev Lies := World → Nat → Int → Int → List Int → List Nat → Prop
def ptr (b : Nat) : Value := .pointer (some ⟨b, 0, none⟩)
/-- What a call answers that draws. -/
def Drew (S : Lies) (w : World) (b : Nat) (W H : Int) (l : List Int) (F : List Nat) (c : Int) (e : Ending) (w' : World) : Prop :=
  e = .returned (.int .i64 c) ∧ ∃ F', S w' b W H l F' ∧ Touch w w' F ∧ From w F F'
/-- What the calls of screen answer. -/
structure Says (S : Lies) : Prop where
  lt : ∀ {w b W H l F}, S w b W H l F → ∀ k ∈ F, k < w.heap.size
  ok : ∀ {w b W H l F}, S w b W H l F → ImOk W H l
  keep : ∀ {w w' b W H l F}, S w b W H l F → (∀ k ∈ F, w'.heap[k]? = w.heap[k]?) → w.heap.size ≤ w'.heap.size → S w' b W H l F
  inside : ∀ (r : Rc) (W H : Int) (w : World), r.wf → (Lit.int .i64 W).wf = true → (Lit.int .i64 H).wf = true → Calls Try.prog 29 #[r.v, .int .i64 W, .int .i64 H] w fun e w' => e = .returned (.bool (insB r W H)) ∧ Below w.heap.size w w'
  whole : ∀ (W H : Int) (w : World), (Lit.int .i64 W).wf = true → (Lit.int .i64 H).wf = true → Calls Try.prog 31 #[.int .i64 W, .int .i64 H] w fun e w' => e = .returned (Rc.v ⟨0, 0, W, H⟩) ∧ Below w.heap.size w w'
  meet : ∀ (a b : Rc) (w : World), small a → small b → Calls Try.prog 32 #[a.v, b.v] w fun e w' => e = .returned (meetR a b).v ∧ Below w.heap.size w w'
  newY : ∀ (W H : Int) (w : World), sideB W = true → sideB H = true → Calls Try.prog 10 #[.int .i64 W, .int .i64 H] w fun e w' => ∃ b F, e = .returned (.tuple #[ptr b, .int .i64 0]) ∧ S w' b W H (blackL W H) F ∧ (∀ k ∈ F, w.heap.size ≤ k) ∧ Below w.heap.size w w'
  newN : ∀ (W H : Int) (w : World), (sideB W && sideB H) = false → (Lit.int .i64 W).wf = true → (Lit.int .i64 H).wf = true → Calls Try.prog 10 #[.int .i64 W, .int .i64 H] w fun e w' => e = .returned (.tuple #[.pointer none, .int .i64 1]) ∧ Below w.heap.size w w'
  size : ∀ {w b W H l F}, S w b W H l F → Calls Try.prog 24 #[ptr b] w fun e w' => e = .returned (.tuple #[.int .i64 W, .int .i64 H]) ∧ Below w.heap.size w w'
  place : ∀ {w b W H l F}, S w b W H l F → ∀ x y : Int, (Lit.int .i64 x).wf = true → (Lit.int .i64 y).wf = true → Calls Try.prog 27 #[ptr b, .int .i64 x, .int .i64 y] w fun e w' => e = .returned (.int .i64 (atI W H l x y)) ∧ Below w.heap.size w w'
  fill : ∀ {w b W H l F}, S w b W H l F → ∀ (r : Rc) (c : Int), r.wf → (Lit.int .i64 c).wf = true → Calls Try.prog 13 #[ptr b, r.v, .int .i64 c] w (Drew S w b W H (fillS W H r c l) F (fillE W H r c))
  blit : ∀ {w b W H l F}, S w b W H l F → ∀ (r : Rc) (q : List Int) (qv : Value), r.wf → SW w qv q → Room qv → (0 < q.length → Off qv F) → q.length ≤ maxLen → Calls Try.prog 15 #[ptr b, r.v, qv] w (Drew S w b W H (blitS W H r q l) F (blitE W H r q))
  move : ∀ {w b W H l F}, S w b W H l F → ∀ (r s : Rc), r.wf → s.wf → Calls Try.prog 17 #[ptr b, r.v, s.v] w (Drew S w b W H (moveS W H r s l) F (moveE W H r s))
  resize : ∀ {w b W H l F}, S w b W H l F → ∀ (X Y : Int), (Lit.int .i64 X).wf = true → (Lit.int .i64 Y).wf = true → Calls Try.prog 19 #[ptr b, .int .i64 X, .int .i64 Y] w (Drew S w b (resW X Y W) (resH X Y H) (resS W H X Y l) F (resE X Y))
  part : ∀ {w b W H l F}, S w b W H l F → ∀ (r : Rc), r.wf → Calls Try.prog 21 #[ptr b, r.v] w fun e w' => ∃ u, e = .returned (.tuple #[u, .int .i64 (partE W H r)]) ∧ IntsAt w.heap.size w' u (partS W H r l) ∧ Below w.heap.size w w'
  image : ∀ {w b W H l F}, S w b W H l F → Calls Try.prog 26 #[ptr b] w fun e w' => ∃ u, e = .returned (imgV W H u) ∧ IntsAt w.heap.size w' u l ∧ Below w.heap.size w w'

theorem Says.stay {S : Lies} (D : Says S) {w w' : World} {b : Nat} {W H : Int} {l : List Int} {F : List Nat} (h : S w b W H l F) (k : Below w.heap.size w w') : S w' b W H l F :=
  D.keep h (fun i hi => k.block i (D.lt h i hi)) k.size
theorem Says.apart {S : Lies} (D : Says S) {w w' : World} {b : Nat} {W H : Int} {l : List Int} {F G : List Nat} (h : S w b W H l F) (k : Touch w w' G) (hG : ∀ i ∈ F, i ∉ G) : S w' b W H l F :=
  D.keep h (fun i hi => k.block i (D.lt h i hi) (hG i hi)) k.size
theorem fresh_off {w w' : World} {u : Value} {l : List Int} {F : List Nat} (h : IntsAt w.heap.size w' u l) (hF : ∀ k ∈ F, k < w.heap.size) : Off u F := fun k hk hm => by
  have := h.2.1 k hk
  have := hF k hm
  omega
/-- A row that was just written down. -/
theorem si_lit (l : List Int) (w : World) (T : TypeId) (cs : Array Value) (n : Nat) (h : cs.toList = ints l) (hn : l.length = n) : SI (w.alloc (.cells cs T)) (.slice (some ⟨w.heap.size, 0, none⟩) n n) l := by
  subst hn
  have := sees_new w 1 cs T l.length (by have := congrArg List.length h; simpa [ints] using this) (by rw [h]; intro u hu; unfold ints at hu; obtain ⟨x, _, rfl⟩ := List.mem_map.1 hu; rfl)
  rw [h] at this
  exact this
def exR : Rc := ⟨1, 0, 2, 1⟩
def exT : Rc := ⟨0, 0, 2, 1⟩
theorem ex_fill : fillS 3 1 exR 5 (blackL 3 1) = [0, 5, 5] := by decide +kernel
theorem ex_fe : fillE 3 1 exR 5 = 0 := by decide +kernel
theorem ex_move : moveS 3 1 exR exT [0, 5, 5] = [5, 5, 5] := by decide +kernel
theorem ex_me : moveE 3 1 exR exT = 0 := by decide +kernel
theorem ex_at : atI 3 1 [5, 5, 5] 2 0 = 5 := by decide +kernel
theorem ex_out : atI 3 1 [5, 5, 5] 3 0 = 0 := by decide +kernel
theorem ex_wf : exR.wf ∧ exT.wf := by unfold Rc.wf exR exT; decide
set_option maxHeartbeats 4000000 in
theorem works_any {S : Lies} (D : Says S) (w : World) :
    Calls Try.prog 8 #[] w fun e w' => e = .returned (.bool true) ∧ Below w.heap.size w w' := by
  have V1 := Lib.hid (D.newY 3 1 w (by decide) (by decide))
  have HD := Lib.hid D
  clear D
  go_enter Try.func8, Try.ntmps8
  go_wp2_with fail
  refine V1.out.mono ?_
  rintro r w1 ⟨b, F, rfl, s1, hF, b1⟩
  have C1 := Lib.hid (HD.out.fill s1 exR 5 ex_wf.1 (by decide))
  rw [ex_fill, ex_fe] at C1
  have HF := Lib.hid hF
  have B1 := Lib.hid b1
  clear V1 s1 hF b1
  unfold ptr at *
  go_wp2_with fail
  refine C1.out.mono ?_
  rintro r w2 ⟨rfl, F2, s2, t2, f2⟩
  have C2 := Lib.hid (HD.out.move s2 exR exT ex_wf.1 ex_wf.2)
  rw [ex_move, ex_me] at C2
  have B2 := Lib.hid (Touch.below B1.out t2 HF.out B1.out.size)
  have HF2 := Lib.hid (From.base f2 HF.out B1.out.size)
  clear C1 s2 t2 f2 HF B1
  unfold ptr at *
  go_wp2_with fail
  refine C2.out.mono ?_
  rintro r w3 ⟨rfl, F3, s3, t3, f3⟩
  have C3 := Lib.hid (HD.out.image s3)
  have B3 := Lib.hid (Touch.below B2.out t3 HF2.out B2.out.size)
  have S3 := Lib.hid s3
  clear C2 s3 t3 f3 HF2 B2
  unfold ptr at *
  go_wp2_with fail
  refine C3.out.mono ?_
  rintro r w4 ⟨u, rfl, i4, b4⟩
  have B4 := Lib.hid (B3.out.trans (b4.mono B3.out.size))
  have S4 := Lib.hid (HD.out.stay S3.out b4)
  obtain ⟨ua, un, uc, rfl⟩ := shape4 i4
  have I4 := Lib.hid i4.si
  clear C3 b4 i4 S3 B3
  unfold imgV
  go_wp2_with fail
  have k5 := (Below.refl w4.heap.size w4).alloc (Nat.le_refl _) (.cells #[.int .i64 3, .int .i64 1, .slice ua un uc] 32)
  have z5 := alloc_size w4 (.cells #[.int .i64 3, .int .i64 1, .slice ua un uc] 32)
  generalize w4.alloc (.cells #[.int .i64 3, .int .i64 1, .slice ua un uc] 32) = w5 at *
  have k6 := (Below.refl w5.heap.size w5).alloc (Nat.le_refl _) (.cells #[.int .i64 5, .int .i64 5, .int .i64 5] 3)
  have L6 := si_lit [5, 5, 5] w5 3 #[.int .i64 5, .int .i64 5, .int .i64 5] 3 rfl rfl
  rw [z5] at L6
  generalize w5.alloc (.cells #[.int .i64 5, .int .i64 5, .int .i64 5] 3) = w6 at *
  have k46 := k5.trans (k6.mono (by omega))
  have C6 := Lib.hid (refSameImage_any 3 1 3 1 (.slice ua un uc) _ [5, 5, 5] [5, 5, 5] w6 (I4.out.below k46) L6 (by decide) (by decide))
  rw [decide_eq_true (show (3 : Int) = 3 ∧ (1 : Int) = 1 ∧ ([5, 5, 5] : List Int) = [5, 5, 5] from ⟨rfl, rfl, rfl⟩)] at C6
  unfold imgV at C6
  have S6 := Lib.hid (HD.out.stay S4.out k46)
  have B6 := Lib.hid (B4.out.trans (k46.mono B4.out.size))
  clear k5 z5 k6 L6 k46 S4 B4 I4
  refine C6.out.mono ?_
  rintro r w7 ⟨rfl, b7⟩
  have S7 := HD.out.stay S6.out b7
  have C7 := Lib.hid (HD.out.place S7 2 0 (by decide) (by decide))
  rw [ex_at] at C7
  have HS7 := Lib.hid S7
  have B7 := Lib.hid (B6.out.trans (b7.mono B6.out.size))
  clear C6 S6 S7 b7 B6
  unfold ptr at *
  go_wp2_with fail
  refine C7.out.mono ?_
  rintro r w8 ⟨rfl, b8⟩
  have S8 := HD.out.stay HS7.out b8
  have C8 := Lib.hid (HD.out.place S8 3 0 (by decide) (by decide))
  rw [ex_out] at C8
  have B8 := Lib.hid (B7.out.trans (b8.mono B7.out.size))
  clear C7 HS7 S8 b8 B7
  unfold ptr at *
  go_wp2_with fail
  refine C8.out.mono ?_
  rintro r w9 ⟨rfl, b9⟩
  have B9 := Lib.hid (B8.out.trans (b9.mono B8.out.size))
  clear C8 b9 B8
  go_wp2_with fail
  go_ret
  exact ⟨rfl, B9.out⟩
end Go.Proofs.Ytlamdgdegmjljaa.Scr
