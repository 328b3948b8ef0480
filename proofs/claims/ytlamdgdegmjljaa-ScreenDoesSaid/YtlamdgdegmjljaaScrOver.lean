/-
  Are the acts on a screen more than is looked at?
-/
import Derived.Test.YtlamdgdegmjljaaScrActs
import Derived.Lib.Hide
namespace Go.Proofs.Ytlamdgdegmjljaa.Scr
open Go.ChangeShapes Go.WideShapes Go.ChangeAt Go.RowKit Lz RowG RegVal Reg
set_option linter.unusedVariables false
set_option maxRecDepth 100000

def Fits (c : ActS) : Prop := c.P.length ≤ 500 ∧ (c.K.tmod 5 = 3 → c.R.w ≤ 20 ∧ c.R.h ≤ 20)
/-- A yes or a no; a no tells Q. -/
def Told (w : World) (Q : Prop) (e : Ending) (w' : World) : Prop := ∃ B, e = .returned (.bool B) ∧ w = w' ∧ (B = false → Q)
set_option maxHeartbeats 4000000 in
theorem over_any (x y : Int) (a : Option Addr) (len cap : Nat) (A : Nat → ActS) (w : World) (h : IsActs w a len A) :
    Calls Try.prog 9 #[.int .i64 x, .int .i64 y, .slice a len cap] w (Told w (x ≤ 20 ∧ y ≤ 20 ∧ len ≤ 20 ∧ ∀ i, i < len → Fits (A i))) := by
  obtain ⟨hm, hc, hs⟩ := h
  by_cases h1 : 20 < x
  case pos =>
    have d1 : decide (20 < x) = true := decide_eq_true h1
    clear hc hs hm
    go_enter Try.func9, Try.ntmps9
    go_wp2
    go_ret
    exact ⟨true, rfl, rfl, fun h => by cases h⟩
  have d1 : decide (20 < x) = false := decide_eq_false h1
  by_cases h2 : 20 < y
  case pos =>
    have d2 : decide (20 < y) = true := decide_eq_true h2
    clear hc hs hm
    go_enter Try.func9, Try.ntmps9
    go_wp2
    go_ret
    exact ⟨true, rfl, rfl, fun h => by cases h⟩
  have d2 : decide (20 < y) = false := decide_eq_false h2
  by_cases h3 : 20 < len
  case pos =>
    have d3 : decide (20 < len) = true := decide_eq_true h3
    have d4 : decide ((20 : Int) < len) = true := decide_eq_true (by omega)
    clear hc hs hm
    go_enter Try.func9, Try.ntmps9
    go_wp2
    go_ret
    exact ⟨true, rfl, rfl, fun h => by cases h⟩
  have d3 : decide (20 < len) = false := decide_eq_false h3
  have d4 : decide ((20 : Int) < len) = false := decide_eq_false (by omega)
  have HXY := Lib.hid (And.intro (Int.not_lt.1 h1) (Int.not_lt.1 h2))
  have hl : len ≤ 20 := by omega
  have HC := Lib.hid hc
  have HS := Lib.hid hs
  clear hc hs h1 h2 h3 hm
  go_enter Try.func9, Try.ntmps9
  go_wp2
  clear d1 d2 d3 d4
  go_loop [7] (fun i => ∃ k : Nat, k ≤ len ∧ i = .int .i64 k ∧ Hid (∀ j, j < k → Fits (A j))) (fun i => len - (intOf i).toNat)
  case atStart => exact ⟨0, Nat.zero_le _, rfl, Lib.hid (fun j hj => by omega)⟩
  case round =>
    obtain ⟨k, hk, rfl, hall⟩ := hrel
    by_cases hlt : k < len
    · obtain ⟨b, off, rfl, hb, hcell⟩ := HC.out (by omega)
      have ok := HS.out k hlt
      obtain ⟨va, vn, vc, hv, hvn, _⟩ := ok.row.read
      have hA := hcell k hlt
      have c0 := hA 0 _ rfl
      rw [Nat.add_zero] at c0
      have c3 := hA 3 _ rfl
      have c4 := hA 4 _ rfl
      have c10 := hA 10 _ rfl
      rw [hv] at c10
      have i0 : (0 : Int) ≤ k := by omega
      have i1 : (k : Int) < len := by omega
      have hvl : vn ≤ maxLen := by rw [← hvn]; exact ok.len
      have HN : Hid ((A k).P.length = vn) := Lib.hid hvn
      have NEXT : Hid (vn ≤ 500 → ((A k).K.tmod 5 = 3 → (A k).R.w ≤ 20 ∧ (A k).R.h ≤ 20) → ∀ j, j < k + 1 → Fits (A j)) := Lib.hid (fun e1 e2 j hj => by
        by_cases h : j < k
        · exact hall.out j h
        · obtain rfl : j = k := by omega
          exact ⟨by rw [HN.out]; exact e1, e2⟩)
      clear ok hv hvn hA hcell HN
      generalize (A k).K = K at *
      generalize (A k).R.w = rw at *
      generalize (A k).R.h = rh at *
      unfold maxLen at hvl
      by_cases h5 : 500 < vn
      case pos =>
        have t1 : decide (500 < vn) = true := decide_eq_true h5
        have t2 : decide ((500 : Int) < vn) = true := decide_eq_true (by omega)
        clear NEXT
        go_wp2
        go_ret
        exact ⟨true, rfl, rfl, fun h => by cases h⟩
      have t1 : decide (500 < vn) = false := decide_eq_false h5
      have t2 : decide ((500 : Int) < vn) = false := decide_eq_false (by omega)
      have N1 := Lib.hid (NEXT.out (by omega))
      clear NEXT h5
      obtain ⟨m, hm⟩ : ∃ m, K.tmod 5 = m := ⟨_, rfl⟩
      rw [hm] at N1
      by_cases h3 : m = 3
      case neg =>
        have N2 := Lib.hid (N1.out (fun e => absurd e h3))
        have t3 : (m == 3) = false := by simpa using h3
        clear N1
        go_wp2
        exact ⟨⟨k + 1, by omega, by go_num, N2⟩, by simp [intOf]; omega⟩
      subst h3
      by_cases h6 : 20 < rw
      case pos =>
        have t3 : decide (20 < rw) = true := decide_eq_true h6
        clear N1
        go_wp2
        go_ret
        exact ⟨true, rfl, rfl, fun h => by cases h⟩
      have t3 : decide (20 < rw) = false := decide_eq_false h6
      by_cases h7 : 20 < rh
      case pos =>
        have t4 : decide (20 < rh) = true := decide_eq_true h7
        clear N1
        go_wp2
        go_ret
        exact ⟨true, rfl, rfl, fun h => by cases h⟩
      have t4 : decide (20 < rh) = false := decide_eq_false h7
      have N2 := Lib.hid (N1.out (fun _ => ⟨by omega, by omega⟩))
      clear N1 h6 h7
      go_wp2
      exact ⟨⟨k + 1, by omega, by go_num, N2⟩, by simp [intOf]; omega⟩
    · obtain rfl : k = len := by omega
      go_wp2
      go_ret
      exact ⟨false, rfl, rfl, fun _ => ⟨HXY.out.1, HXY.out.2, hall.out⟩⟩
end Go.Proofs.Ytlamdgdegmjljaa.Scr
