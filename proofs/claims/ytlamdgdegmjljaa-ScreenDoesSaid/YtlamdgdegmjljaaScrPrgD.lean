/-
  The program's rows of a rectangle, as an iterator: what it hands to a loop's body, row by row.
-/
import Derived.RangeFuncNested
import Derived.RangeFuncBound
import Derived.RangeFuncCalls
import Derived.RangeFuncLeaves
import Derived.Shelf.Abstract
import Derived.Shelf.RegionOpen
import Derived.OwnWalkIn
import Derived.TacticsInMore
import Derived.LoopNIn
import Derived.LoopIn
import Derived.Sort.QuietIn
import Derived.Stop.RegionWithIn
import Derived.Test.YtlamdgdegmjljaaScrPrgC
namespace Go.Proofs.Ytlamdgdegmjljaa.Scr
open Go.ChangeShapes Go.WideShapes Go.ChangeAt Go.RowKit Go.Shelf Lz RowG RegVal Reg
set_option linter.unusedVariables false
set_option maxRecDepth 100000
attribute [local go_sem] Oper.semAt_some

/-- These blocks are as they were. -/
def Same (K : List Nat) (w w' : World) : Prop := ∀ k ∈ K, w'.heap[k]? = w.heap[k]?
theorem Same.refl (K : List Nat) (w : World) : Same K w w := fun _ _ => rfl
theorem Same.trans {K : List Nat} {a b c : World} (h : Same K a b) (k : Same K b c) : Same K a c := fun i hi => (k i hi).trans (h i hi)
theorem Same.put {K : List Nat} {w : World} (hK : ∀ k ∈ K, k < w.heap.size) (W : World) (l : Nat) (o o' : Obj) (hl : w.heap.size ≤ l) (_ : W.heap[l]? = some o) (_ : o.isCells = false) (_ : o.isWalk = false) : Same K W (W.putObj l o') :=
  fun k hk => World.putObj_heap_other (by have := hK k hk; omega)
/-- Where row i of a rectangle begins. -/
def rowO (W : Int) (r : Rc) (i : Nat) : Nat := ((r.y + i) * W + r.x).toNat
/-- A part of a row of n, from o on, of m. -/
def cutV (g n o m : Nat) : Value := .slice (if n = o then some ⟨g, 0, none⟩ else some ⟨g, o, none⟩) m (n - o)
/-- What the loop's body is handed. -/
def rowE (g n : Nat) (W : Int) (r : Rc) {N : Nat} (x : Fin N) : Array Value := #[.int .i64 (x.1 : Int), cutV g n (rowO W r x.1) r.w.toNat]
theorem cutV_eq {g n o m : Nat} : cutV g n o m = .slice (some (if n = o then ⟨g, 0, none⟩ else if o = 0 then ⟨g, 0, none⟩ else ⟨g, o, none⟩)) m (n - o) := by
  unfold cutV
  by_cases h : n = o
  · rw [if_pos h, if_pos h]
  · rw [if_neg h, if_neg h]
    by_cases h0 : o = 0
    · rw [if_pos h0, h0]
    · rw [if_neg h0]
theorem run_cutE (W : World) (g n o e : Nat) (h1 : o ≤ e) (h2 : e ≤ n) :
    (Instr.slice 30 (.slice (some ⟨g, 0, none⟩) n n) (some (.int .i64 (o : Int))) (some (.int .i64 (e : Int))) none).run Try.prog W = .ok (cutV g n o (e - o)) W := by
  have h3 : (o : Int) ≤ e := by omega
  have h4 : (e : Int) ≤ n := by omega
  have hb := run_sliceBound (P := Try.prog) (w := W) .i64 (e : Int) n .sliceAcap (by omega) h4
  have hc := run_sliceBound (P := Try.prog) (w := W) .i64 (o : Int) e .sliceB (by omega) h3
  rw [cutV_eq]
  by_cases h5 : n = o
  · obtain rfl : n = o := h5
    simp [Instr.slice, run_underlying Try.underlying30, Instr.sliceBounds, hb, hc, Addr.add]
  · simp [Instr.slice, run_underlying Try.underlying30, Instr.sliceBounds, hb, hc, Addr.add, h5]
theorem run_cut (W : World) (g n o m : Nat) (h : o + m ≤ n) (p q : Int) (hp : p = o) (hq : q = o + m) :
    (Instr.slice 30 (.slice (some ⟨g, 0, none⟩) n n) (some (.int .i64 p)) (some (.int .i64 q)) none).run Try.prog W = .ok (cutV g n o m) W := by
  have := run_cutE W g n o (o + m) (by omega) h
  rw [show o + m - o = m by omega] at this
  rw [hp, hq, show (o : Int) + m = ((o + m : Nat) : Int) by omega]
  exact this
theorem run_from (W : World) (g n o : Nat) (h : o ≤ n) (p : Int) (hp : p = o) :
    (Instr.slice 30 (.slice (some ⟨g, 0, none⟩) n n) (some (.int .i64 p)) none none).run Try.prog W = .ok (cutV g n o (n - o)) W := by
  subst hp
  have h1 : (o : Int) ≤ n := by omega
  have hc := run_sliceBound (P := Try.prog) (w := W) .i64 (o : Int) n .sliceB (by omega) h1
  rw [cutV_eq]
  by_cases h5 : n = o
  · obtain rfl : n = o := h5
    simp [Instr.slice, run_underlying Try.underlying30, Instr.sliceBounds, hc, Addr.add]
  · simp [Instr.slice, run_underlying Try.underlying30, Instr.sliceBounds, hc, Addr.add, h5]
/-- A rectangle's rows lie within. -/
theorem rowO_in {W H : Int} {l : List Int} (ok : ImOk W H l) {r : Rc} (hr : insB r W H = true) {i : Nat} (hi : (i : Int) < r.h) :
    (rowO W r i : Int) = (r.y + i) * W + r.x ∧ rowO W r i + r.w.toNat ≤ l.length ∧ 0 ≤ (r.y + i) * W ∧ (r.y + i) * W + r.x + r.w ≤ 16777216 := by
  have hr := ins_iff.1 hr
  have hn := ok.n
  have hb := ok.bound
  have hw := ok.w
  have h1 : 0 ≤ (r.y + i) * W := Int.mul_nonneg (by omega) (by omega)
  have h2 : (r.y + i) * W ≤ (H - 1) * W := Int.mul_le_mul_of_nonneg_right (by omega) (by omega)
  have h3 : (H - 1) * W = W * H - W := by rw [Int.sub_mul, Int.mul_comm H, Int.one_mul]
  have h4 : (rowO W r i : Int) = (r.y + i) * W + r.x := by
    unfold rowO
    generalize (r.y + i) * W = A at *
    omega
  generalize (r.y + i) * W = A at *
  generalize (H - 1) * W = B at *
  generalize W * H = C at *
  refine ⟨h4, by omega, h1, by omega⟩
/-- The first k rows. -/
def upto (N k : Nat) : List (Fin N) := (List.finRange N).take k
theorem upto_succ {N k : Nat} (h : k < N) : upto N (k + 1) = upto N k ++ [⟨k, h⟩] := by
  unfold upto
  rw [List.take_succ_eq_append_getElem (by simpa using h)]
  simp
theorem upto_length {N k : Nat} (h : k ≤ N) : (upto N k).length = k := by simp [upto, h]
theorem upto_zero (N : Nat) : upto N 0 = [] := rfl
theorem upto_all (N : Nat) : upto N N = List.finRange N := List.take_of_length_le (by simp)
/-- What the iterator has captured. -/
structure Caps (w : World) (Br Bs b : Nat) (W H : Int) (r : Rc) (g n : Nat) : Prop where
  s : w.cell? ⟨Bs, 0, none⟩ = some (.pointer (some ⟨b, 0, none⟩))
  r : RAt w Br r
  c0 : w.cell? ⟨b, 0, none⟩ = some (.int .i64 W)
  c2 : w.cell? ⟨b, 2, none⟩ = some (.slice (some ⟨g, 0, none⟩) n n)
theorem Caps.same {w w' : World} {Br Bs b : Nat} {W H : Int} {r : Rc} {g n : Nat} (h : Caps w Br Bs b W H r g n) (k : Same [Br, Bs, b] w w') : Caps w' Br Bs b W H r g n := by
  have h1 := k Br (by simp)
  have h2 := k Bs (by simp)
  have h3 := k b (by simp)
  have hc : ∀ (B o : Nat) v, w'.heap[B]? = w.heap[B]? → w.cell? ⟨B, o, none⟩ = some v → w'.cell? ⟨B, o, none⟩ = some v := fun B o v e c => by rw [← c]; simp only [World.cell?, e]
  obtain ⟨r0, r1, r2, r3⟩ := h.r
  exact ⟨hc _ _ _ h2 h.s, ⟨hc _ _ _ h1 r0, hc _ _ _ h1 r1, hc _ _ _ h1 r2, hc _ _ _ h1 r3⟩, hc _ _ _ h3 h.c0, hc _ _ _ h3 h.c2⟩
theorem abides_q {β : Type} {B : Nat} {J : β → World → Prop} (h : AbidesFrom B J) {s : β} {w : World} (n : Nat) (k : J s w) : J s (w.drewN n) :=
  h s w _ none k ⟨rfl, rfl, rfl, Nat.le_refl _, fun _ _ _ => rfl⟩ (fun r e => by cases e)
set_option maxHeartbeats 4000000 in
theorem rows1_in (n : Nat) (hn : 1 ≤ n) (l Br Bs b g : Nat) (W0 H0 : Int) (L : List Int) (ok : ImOk W0 H0 L) (r : Rc) (hr : insB r W0 H0 = true) (N : Nat) (hN : r.h = N) (M : Nat) (hM : L.length = M) (J Jx : List (Fin N) → World → Prop) (B : Nat) (hJ : AbidesFrom B J)
    (hY : ∀ pre x W, J pre W → pre.length < N → YieldAt Fence.wide (n - 1) Try.prog l (rowE g M W0 r x) W fun e W' =>
      (e = .returned (.bool true) ∧ J (pre ++ [x]) W' ∧ Same [Br, Bs, b] W W') ∨ (e = .returned (.bool false) ∧ Jx (pre ++ [x]) W'))
    (W : World) (hC : Caps W Br Bs b W0 H0 r g M) (h0 : J [] W) :
    CallsIn Fence.wide n Try.prog 47 #[.func (.yield l) #[] #[], .pointer (some ⟨Br, 0, none⟩), .pointer (some ⟨Bs, 0, none⟩)] W fun e W' => (∃ v, e = .returned v) ∧
      ((∃ ys, ys = List.finRange N ∧ J ys W') ∨ (∃ pre, True ∧ Jx pre W')) := by
  have hin : ∀ i : Nat, i < N → _ := fun i hi => rowO_in ok hr (i := i) (by omega)
  have hrr := ins_iff.1 hr
  have hw := ok.w
  have hh := ok.h
  rw [hM] at hin
  obtain ⟨rx, ry, rw', rh⟩ := r
  simp only at hN hrr hin
  subst hN
  have HC := Lib.hid hC
  have HY := Lib.hid hY
  have HJ := Lib.hid hJ
  have HIN := Lib.hid hin
  have HR := Lib.hid hrr
  have HW := Lib.hid hw
  have HH := Lib.hid hh
  obtain ⟨⟨r0, r1, r2, r3⟩, cs⟩ := And.intro hC.r hC.s
  simp only at r0 r1 r2 r3
  clear hC hY hJ hin hrr hw hh ok hr hM
  refine callsIn_of_wp Try.func47 rfl trivial ?_ rfl
  simp only [Try.ntmps47, List.size_toArray, List.length_cons, List.length_nil, Nat.reduceAdd, Nat.reduceSub, Array.replicate_succ, Array.replicate_zero, List.push_toArray, List.append_toArray, List.nil_append, List.cons_append]
  gi_wp2
  gi_loopw [8] (fun i wr => ∃ k : Nat, k ≤ N ∧ i = .int .i64 k ∧ J (upto N k) wr ∧ Caps wr Br Bs b W0 H0 ⟨rx, ry, rw', N⟩ g M) (fun i _ => N - (intOf i).toNat)
  case atStart => exact ⟨0, Nat.zero_le _, rfl, h0, HC.out⟩
  case round =>
    obtain ⟨k, hk, rfl, hJs, hcs⟩ := hrel
    by_cases hlt : k < N
    · obtain ⟨e1, e2, e3, e4⟩ := HIN.out k hlt
      obtain ⟨q1, q2, q3, q4, q5, q6, q7, q8⟩ := HR.out
      have hww := HW.out
      have hhh := HH.out
      obtain ⟨m, rfl⟩ : ∃ m : Nat, rw' = m := ⟨rw'.toNat, by omega⟩
      obtain ⟨A, hA⟩ : ∃ A, ry + (k : Int) = A := ⟨_, rfl⟩
      rw [hA] at e1 e3 e4
      obtain ⟨P, hP⟩ : ∃ P, A * W0 = P := ⟨_, rfl⟩
      rw [hP] at e1 e3 e4
      obtain ⟨o, ho⟩ : ∃ o, rowO W0 ⟨rx, ry, m, N⟩ k = o := ⟨_, rfl⟩
      rw [ho, Int.toNat_natCast] at e2
      rw [ho] at e1
      have f1 : IntKind.i64.wrap (ry + (k : Int)) = A := (IntWalk.i64_in _ (by omega)).trans hA
      have f2 : IntKind.i64.wrap (A * W0) = P := (IntWalk.i64_in _ (by omega)).trans hP
      have f3 : IntKind.i64.wrap (P + rx) = o := (IntWalk.i64_in _ (by omega)).trans e1.symm
      obtain ⟨E, hE⟩ : ∃ E : Nat, o + m = E := ⟨_, rfl⟩
      have f4 : IntKind.i64.wrap ((o : Int) + (m : Int)) = E := (IntWalk.i64_in _ (by omega)).trans (by omega)
      have hcut : ∀ W, (Instr.slice 30 (.slice (some ⟨g, 0, none⟩) M M) (some (.int .i64 (o : Int))) (some (.int .i64 (E : Int))) none).run Try.prog W = .ok (cutV g M o m) W := fun W => run_cut W g M o m (by omega) o E rfl (by omega)
      have hEnc : RowKit.Hid (rowE g M W0 ⟨rx, ry, m, N⟩ (⟨k, hlt⟩ : Fin N) = #[.int .i64 (k : Int), cutV g M o m]) := Lib.hid (by unfold rowE; rw [ho, Int.toNat_natCast])
      have HCS := Lib.hid hcs
      have HJS := Lib.hid hJs
      have c1 := hcs.s
      obtain ⟨d0, d1, d2, d3⟩ := hcs.r
      have c2 := hcs.c0
      have c3 := hcs.c2
      simp only at d0 d1 d2 d3
      generalize cutV g M o m = CV at *
      have hN4 : N ≤ 4096 := by omega
      clear e1 e2 e3 e4 q1 q2 q3 q4 q5 q6 q7 q8 hww hhh hA hP ho hE hcs hJs HIN HR HW HH
      gi_wp2
      gi_quiet (fail)
      have HCS2 : RowKit.Hid (Caps (wr.drewN nq).drew Br Bs b W0 H0 ⟨rx, ry, m, N⟩ g M) := Lib.hid (HCS.out.same (fun _ _ => rfl))
      have HJ2 := abides_q HJ.out (nq + 1) HJS.out
      have HY2 : YieldAt Fence.wide (n - 1) Try.prog l _ (wr.drewN nq).drew _ := HY.out (upto N k) ⟨k, hlt⟩ _ HJ2 (by rw [upto_length hk]; exact hlt)
      rw [hEnc.out] at HY2
      clear HJ2 HCS HJS hEnc HY HJ c1 c2 c3 d0 d1 d2 d3 cs r0 r1 r2 r3 HC h0 f1 f2 f3
      generalize wr.drewN nq = w2 at *
      clear nq wr
      obtain ⟨d0, d1, d2, d3⟩ := HCS2.out.r
      have c1 := HCS2.out.s
      have c2 := HCS2.out.c0
      have c3 := HCS2.out.c2
      simp only at d0 d1 d2 d3
      obtain ⟨fn, tmps, assign, body, hy, hR⟩ := HY2
      have hR2 : RowKit.Hid (RoundIn Fence.wide (n - 1) Try.prog l fn tmps assign body w2.drew fun e W' => ∃ bb : Bool, e = .returned (.bool bb) ∧ (bb = true → J (upto N k ++ [⟨k, hlt⟩]) W' ∧ Same [Br, Bs, b] w2.drew W') ∧ (bb = false → Jx (upto N k ++ [⟨k, hlt⟩]) W')) := Lib.hid (hR.mono (by
        rintro e W' (⟨h1, h2, h3⟩ | ⟨h1, h2⟩)
        · exact ⟨true, h1, fun _ => ⟨h2, h3⟩, fun e => Bool.noConfusion e⟩
        · exact ⟨false, h1, fun e => Bool.noConfusion e, fun _ => h2⟩))
      clear hR
      gi_wp2
      gi_region_with (refine hR2.out.mono ?_; rintro e W3 ⟨bb, rfl, hb1, hb2⟩)
      all_goals
        have HB1 := Lib.hid hb1
        have HB2 := Lib.hid hb2
        clear hb1 hb2 hR2 hy c1 c2 c3 d0 d1 d2 d3 hcut f4
        cases bb
        · gi_wp2
          refine bodyPost_ret (results_none rfl _ _ _) rfl ?_
          exact ⟨⟨_, rfl⟩, .inr ⟨_, HB2.out (by simp)⟩⟩
        · gi_wp2
          go_roundw
          case rel => exact ⟨k + 1, by omega, by go_num, by rw [upto_succ hlt]; exact (HB1.out (by simp)).1, HCS2.out.same (HB1.out (by simp)).2⟩
          case measure => simp [intOf]; omega
    · obtain rfl : k = N := by omega
      have HJs := Lib.hid hJs
      clear hJs
      gi_wp2
      go_end0
      exact ⟨⟨_, rfl⟩, .inl ⟨_, upto_all _, HJs.out⟩⟩
end Go.Proofs.Ytlamdgdegmjljaa.Scr
