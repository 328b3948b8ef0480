/-
  The reference of layer 17 (rre): is a rectangle inside? What is read of bytes, plainly.
-/
import Derived.Test.YtmjjbapahgejmaaRreRow
import Derived.Test.YtmjjbapahgejmaaAllFmtM
namespace Go.Proofs.Ytmjjbapahgejmaa.Rre
open Go.ChangeShapes Go.WideShapes Go.ChangeAt Go.RowKit Lz RowG RegVal Pln
open Go.Proofs.Ytmjjbapahgejmaa.Fmt (Fm)
open Go.Proofs.Ytmjjbapahgejmaa.Oct (valL)
set_option linter.unusedVariables false
set_option maxRecDepth 100000

theorem wf_bd {n : Int} (h : (Lit.int .i64 n).wf = true) : -9223372036854775808 ≤ n ∧ n ≤ 9223372036854775807 := by
  simp only [Lit.wf, IntKind.min, IntKind.max, IntKind.signed, IntKind.bits, Bool.and_eq_true, decide_eq_true_eq, if_true] at h
  omega
def insQ (rx ry rw rh w h : Int) : Bool := decide (0 ≤ rx ∧ 0 ≤ ry ∧ 0 ≤ rw ∧ 0 ≤ rh ∧ rw ≤ w ∧ rx ≤ w - rw ∧ rh ≤ h ∧ ry ≤ h - rh)
set_option maxHeartbeats 4000000 in
theorem refInsQ_any (rx ry rw rh w h : Int) (hw : (Lit.int .i64 w).wf = true) (hh : (Lit.int .i64 h).wf = true) (W0 : World) :
    Calls Try.prog 52 #[.agg #[.int .i64 rx, .int .i64 ry, .int .i64 rw, .int .i64 rh], .int .i64 w, .int .i64 h] W0 fun e w' => e = .returned (.bool (insQ rx ry rw rh w h)) ∧ Below W0.heap.size W0 w' := by
  have AT := (box1 W0 #[.int .i64 rx, .int .i64 ry, .int .i64 rw, .int .i64 rh] 29).2
  have c0 : (W0.alloc (.cells #[.int .i64 rx, .int .i64 ry, .int .i64 rw, .int .i64 rh] 29)).cell? ⟨W0.heap.size, 0, none⟩ = some (.int .i64 rx) := AT 0 _ rfl
  have c1 : (W0.alloc (.cells #[.int .i64 rx, .int .i64 ry, .int .i64 rw, .int .i64 rh] 29)).cell? ⟨W0.heap.size, 1, none⟩ = some (.int .i64 ry) := AT 1 _ rfl
  have c2 : (W0.alloc (.cells #[.int .i64 rx, .int .i64 ry, .int .i64 rw, .int .i64 rh] 29)).cell? ⟨W0.heap.size, 2, none⟩ = some (.int .i64 rw) := AT 2 _ rfl
  have c3 : (W0.alloc (.cells #[.int .i64 rx, .int .i64 ry, .int .i64 rw, .int .i64 rh] 29)).cell? ⟨W0.heap.size, 3, none⟩ = some (.int .i64 rh) := AT 3 _ rfl
  have bel := (Below.refl W0.heap.size W0).alloc (Nat.le_refl _) (.cells #[.int .i64 rx, .int .i64 ry, .int .i64 rw, .int .i64 rh] 29)
  clear AT
  have HB := Lib.hid bel
  have HD : RowKit.Hid (insQ rx ry rw rh w h = decide (0 ≤ rx ∧ 0 ≤ ry ∧ 0 ≤ rw ∧ 0 ≤ rh ∧ rw ≤ w ∧ rx ≤ w - rw ∧ rh ≤ h ∧ ry ≤ h - rh)) := Lib.hid rfl
  generalize insQ rx ry rw rh w h = RES at *
  clear bel
  by_cases h0 : 0 ≤ rx
  case neg =>
    have d0 : decide (0 ≤ rx) = false := decide_eq_false h0
    have hres : RES = false := HD.out.trans (decide_eq_false (fun h => h0 (by omega)))
    subst hres
    clear HD
    clear h0
    go_enter Try.func52, Try.ntmps52
    go_wp2_with fail
    go_ret
    exact ⟨rfl, HB.out⟩
  have d0 : decide (0 ≤ rx) = true := decide_eq_true h0
  by_cases h1 : 0 ≤ ry
  case neg =>
    have d1 : decide (0 ≤ ry) = false := decide_eq_false h1
    have hres : RES = false := HD.out.trans (decide_eq_false (fun h => h1 (by omega)))
    subst hres
    clear HD
    clear h0
    clear h1
    go_enter Try.func52, Try.ntmps52
    go_wp2_with fail
    go_ret
    exact ⟨rfl, HB.out⟩
  have d1 : decide (0 ≤ ry) = true := decide_eq_true h1
  by_cases h2 : 0 ≤ rw
  case neg =>
    have d2 : decide (0 ≤ rw) = false := decide_eq_false h2
    have hres : RES = false := HD.out.trans (decide_eq_false (fun h => h2 (by omega)))
    subst hres
    clear HD
    clear h0
    clear h1
    clear h2
    go_enter Try.func52, Try.ntmps52
    go_wp2_with fail
    go_ret
    exact ⟨rfl, HB.out⟩
  have d2 : decide (0 ≤ rw) = true := decide_eq_true h2
  by_cases h3 : 0 ≤ rh
  case neg =>
    have d3 : decide (0 ≤ rh) = false := decide_eq_false h3
    have hres : RES = false := HD.out.trans (decide_eq_false (fun h => h3 (by omega)))
    subst hres
    clear HD
    clear h0
    clear h1
    clear h2
    clear h3
    go_enter Try.func52, Try.ntmps52
    go_wp2_with fail
    go_ret
    exact ⟨rfl, HB.out⟩
  have d3 : decide (0 ≤ rh) = true := decide_eq_true h3
  by_cases h4 : rw ≤ w
  case neg =>
    have d4 : decide (rw ≤ w) = false := decide_eq_false h4
    have hres : RES = false := HD.out.trans (decide_eq_false (fun h => h4 (by omega)))
    subst hres
    clear HD
    clear h0
    clear h1
    clear h2
    clear h3
    clear h4
    go_enter Try.func52, Try.ntmps52
    go_wp2_with fail
    go_ret
    exact ⟨rfl, HB.out⟩
  have d4 : decide (rw ≤ w) = true := decide_eq_true h4
  have w1 : IntKind.i64.wrap (w - rw) = w - rw := IntWalk.i64_in _ (by have := wf_bd hw; omega)
  have w2 : wrap64 (w - rw) = w - rw := IntWalk.wrap64_in _ (by have := wf_bd hw; omega)
  by_cases h5 : rx ≤ w - rw
  case neg =>
    have d5 : decide (rx ≤ w - rw) = false := decide_eq_false h5
    have hres : RES = false := HD.out.trans (decide_eq_false (fun h => h5 (by omega)))
    subst hres
    clear HD
    clear h0
    clear h1
    clear h2
    clear h3
    clear h4
    clear h5
    go_enter Try.func52, Try.ntmps52
    go_wp2_with fail
    go_ret
    exact ⟨rfl, HB.out⟩
  have d5 : decide (rx ≤ w - rw) = true := decide_eq_true h5
  by_cases h6 : rh ≤ h
  case neg =>
    have d6 : decide (rh ≤ h) = false := decide_eq_false h6
    have hres : RES = false := HD.out.trans (decide_eq_false (fun h => h6 (by omega)))
    subst hres
    clear HD
    clear h0
    clear h1
    clear h2
    clear h3
    clear h4
    clear h5
    clear h6
    go_enter Try.func52, Try.ntmps52
    go_wp2_with fail
    go_ret
    exact ⟨rfl, HB.out⟩
  have d6 : decide (rh ≤ h) = true := decide_eq_true h6
  have w3 : IntKind.i64.wrap (h - rh) = h - rh := IntWalk.i64_in _ (by have := wf_bd hh; omega)
  have w4 : wrap64 (h - rh) = h - rh := IntWalk.wrap64_in _ (by have := wf_bd hh; omega)
  by_cases h7 : ry ≤ h - rh
  case neg =>
    have d7 : decide (ry ≤ h - rh) = false := decide_eq_false h7
    have hres : RES = false := HD.out.trans (decide_eq_false (fun h => h7 (by omega)))
    subst hres
    clear HD
    clear h0
    clear h1
    clear h2
    clear h3
    clear h4
    clear h5
    clear h6
    clear h7
    go_enter Try.func52, Try.ntmps52
    go_wp2_with fail
    go_ret
    exact ⟨rfl, HB.out⟩
  have d7 : decide (ry ≤ h - rh) = true := decide_eq_true h7
  have hres : RES = true := HD.out.trans (decide_eq_true ⟨h0, h1, h2, h3, h4, h5, h6, h7⟩)
  subst hres
  clear HD h0 h1 h2 h3 h4 h5 h6 h7
  go_enter Try.func52, Try.ntmps52
  go_wp2_with fail
  go_ret
  exact ⟨rfl, HB.out⟩
/-- Is a piece inside? -/
def insN (p : Pc) (W H : Nat) : Bool := decide (p.n ≤ W ∧ p.x + p.n ≤ W ∧ p.m ≤ H ∧ p.y + p.m ≤ H)
theorem refInside_any (p : Pc) (W H : Nat) (hw : W ≤ 100000) (hh : H ≤ 100000) (W0 : World) :
    Calls Try.prog 52 #[.agg #[.int .i64 p.x, .int .i64 p.y, .int .i64 p.n, .int .i64 p.m], .int .i64 W, .int .i64 H] W0 fun e w' => e = .returned (.bool (insN p W H)) ∧ Below W0.heap.size W0 w' := by
  have e : insN p W H = insQ p.x p.y p.n p.m W H := by
    unfold insN insQ
    rw [decide_eq_decide]
    omega
  rw [e]
  exact refInsQ_any _ _ _ _ _ _ (by simp [Lit.wf, IntKind.min, IntKind.max, IntKind.signed, IntKind.bits]; omega) (by simp [Lit.wf, IntKind.min, IntKind.max, IntKind.signed, IntKind.bits]; omega) W0
/-- What is read: a number of two bytes, a piece, all of them. -/
def twoN (s : ByteArray) (i : Nat) : Nat := (valL (s.extract i (i + 2)).data.toList.reverse).toNat
def pcAt (f : Fm) (s : ByteArray) (i : Nat) : Pc := ⟨f.get (s.extract i s.size), twoN s (i + (f.B / 8).toNat), twoN s (i + (f.B / 8).toNat + 2), twoN s (i + (f.B / 8).toNat + 4), twoN s (i + (f.B / 8).toNat + 6)⟩
/-- How far it has come: what is wrong, the values, where it stands. -/
structure Dec where
  e : Int
  l : List Int
  i : Nat
def decS (f : Fm) (W H : Nat) (s : ByteArray) (d : Dec) : Dec :=
  if d.e ≠ 0 then d
  else if s.size < d.i + (f.B / 8).toNat + 8 then ⟨2, [], 0⟩
  else if insN (pcAt f s d.i) W H then ⟨0, paint1 W d.l (pcAt f s d.i), d.i + (f.B / 8).toNat + 8⟩ else ⟨140, [], 0⟩
def decN (f : Fm) (W H : Nat) (s : ByteArray) : Nat → Dec
  | 0 => ⟨0, gen (W * H) (fun _ => f.get (s.extract 4 s.size)), 4 + (f.B / 8).toNat⟩
  | k + 1 => decS f W H s (decN f W H s k)
def headN (s : ByteArray) : Nat := (valL (s.extract 0 4).data.toList.reverse).toNat
def decL (f : Fm) (W H : Nat) (s : ByteArray) : Dec :=
  if s.size < 4 then ⟨2, [], 0⟩ else if W * H < headN s then ⟨4, [], 0⟩ else if s.size < 4 + (f.B / 8).toNat then ⟨2, [], 0⟩ else decN f W H s (headN s)
theorem decN_bad {f : Fm} {W H : Nat} {s : ByteArray} {k : Nat} (h : (decN f W H s k).e ≠ 0) : ∀ j, decN f W H s (k + j) = decN f W H s k
  | 0 => rfl
  | j + 1 => by
    show decS f W H s (decN f W H s (k + j)) = _
    rw [decN_bad h j]
    unfold decS
    rw [if_pos h]
theorem decN_length {f : Fm} {W H : Nat} {s : ByteArray} : ∀ k, (decN f W H s k).e = 0 → (decN f W H s k).l.length = W * H
  | 0, _ => gen_length _ _
  | k + 1, h => by
    simp only [decN] at h ⊢
    unfold decS at h ⊢
    split
    · rename_i c
      rw [if_pos c] at h
      exact absurd h c
    · rename_i c
      rw [if_neg c] at h
      split
      · rename_i c2
        rw [if_pos c2] at h
        exact absurd h (by decide)
      · rename_i c2
        rw [if_neg c2] at h
        split
        · exact (gen_length _ _).trans (decN_length k (by simpa using c))
        · rename_i c3
          rw [if_neg c3] at h
          exact absurd h (by decide)
end Go.Proofs.Ytmjjbapahgejmaa.Rre
