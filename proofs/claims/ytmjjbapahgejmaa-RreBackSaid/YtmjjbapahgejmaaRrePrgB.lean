/-
  The program of layer 17 (rre): the rectangle that begins at a place.
-/
import Derived.Test.YtmjjbapahgejmaaRrePrgA
namespace Go.Proofs.Ytmjjbapahgejmaa.Rre
open Go.ChangeShapes Go.WideShapes Go.ChangeAt Go.RowKit Lz RowG RegVal Pln
set_option linter.unusedVariables false
set_option linter.unusedSimpArgs false
set_option maxRecDepth 100000

theorem below_set {B : Nat} {w w' : World} (h : Below B w w') {g : Nat} (hg : B ≤ g) (o : Nat) (v : Value) : Below B w (w'.setCell ⟨g, o, none⟩ v) := h.setCell (p := ⟨g, o, none⟩) hg v
/-- How far the piece at a place goes to the right; how many rows below it are the same. -/
def gw (W : Nat) (l : List Int) (x y : Nat) : Nat := runN (fun i => px l (y * W + x + i)) (px l (y * W + x)) (W - x)
def rowB (W : Nat) (l : List Int) (x y n : Nat) (j : Nat) : Bool := decide (runN (fun i => px l (y * W + x + (j + 1) * W + i)) (px l (y * W + x)) n = n)
def gd (W : Nat) (l : List Int) (x y n M : Nat) : Nat := stopAt (rowB W l x y n) M 0
theorem down_is {P : Nat → Bool} {M m : Nat} (hm : m ≤ M) (h : ∀ i, i < m → P i = true) (h1 : m < M → P m = false) : stopAt P M 0 = m := by
  rcases Nat.lt_or_ge m M with h2 | h2
  · exact stop_eq M 0 m (Nat.zero_le _) (by omega) (fun i _ hi => h i hi) (h1 h2)
  · have h3 := stop_le (P := P) M 0
    rcases Nat.lt_trichotomy (stopAt P M 0) m with h4 | h4 | h4
    · have := stop_not (P := P) M 0 (by omega)
      rw [h _ h4] at this
      exact absurd this (by decide)
    · exact h4
    · omega
set_option maxHeartbeats 2000000 in
theorem grow_any (W H : Nat) (l : List Int) (g N cap x y : Nat) (w : World) (hW : W ≤ 4096) (hH : H ≤ 4096) (hx : x < W) (hy : y < H) (hN : W * H = N) (hcap : N ≤ cap)
    (hc : ∀ i, i < N → w.cell? ⟨g, i, none⟩ = some (.int .i64 (px l i))) (hg : g < w.heap.size) :
    Calls Try.prog 28 #[.int .i64 W, .int .i64 H, .slice (some ⟨g, 0, none⟩) N cap, .int .i64 x, .int .i64 y] w fun e w' =>
      e = .returned (.agg #[.int .i64 x, .int .i64 y, .int .i64 (gw W l x y : Nat), .int .i64 ((gd W l x y (gw W l x y) (H - y - 1) : Nat) + 1 : Int)]) ∧ Below w.heap.size w w' := by
  obtain ⟨MY, hMY⟩ : ∃ MY, y * W = MY := ⟨_, rfl⟩
  obtain ⟨A, hA⟩ : ∃ A, MY + x = A := ⟨_, rfl⟩
  obtain ⟨K, hK⟩ : ∃ K, W - x = K := ⟨_, rfl⟩
  obtain ⟨E, hE⟩ : ∃ E, A + K = E := ⟨_, rfl⟩
  obtain ⟨M, hM⟩ : ∃ M, H - y - 1 = M := ⟨_, rfl⟩
  have hEW : (y + 1) * W = E := by rw [Nat.add_mul, Nat.one_mul]; omega
  have hEN : E + M * W = N := by
    rw [← hEW, ← hN, ← Nat.add_mul, Nat.mul_comm W H]
    congr 1
    omega
  have hNb : N ≤ 4096 * 4096 := by rw [← hN]; exact Nat.mul_le_mul hW hH
  have hMW : M * W ≤ 4096 * 4096 := Nat.mul_le_mul (by omega) hW
  have t1 : IntKind.i64.wrap ((y : Int) * W) = (MY : Nat) := by
    rw [← Int.natCast_mul, hMY]; exact IntWalk.i64_in _ (by omega)
  have t2 : IntKind.i64.wrap ((MY : Int) + x) = (A : Nat) := by
    rw [← Int.natCast_add, hA]; exact IntWalk.i64_in _ (by omega)
  have t3 : IntKind.i64.wrap (((y : Int) + 1) * W) = (E : Nat) := by
    have : ((y : Int) + 1) * W = (E : Nat) := by rw [← hEW]; simp
    rw [this]; exact IntWalk.i64_in _ (by omega)
  have t4 : (H : Int) - y = ((H - y : Nat) : Int) := by omega
  have t5 : ((H - y : Nat) : Int) - 1 = (M : Nat) := by omega
  have HGW : RowKit.Hid (gw W l x y = runN (fun i => px l (A + i)) (px l A) K) := Lib.hid (by unfold gw; rw [hMY, hA, hK])
  have HRB : RowKit.Hid (∀ n j, rowB W l x y n j = decide (runN (fun i => px l (A + (j + 1) * W + i)) (px l A) n = n)) := Lib.hid (fun n j => by unfold rowB; rw [hMY, hA])
  have HGD : RowKit.Hid (∀ n m, m ≤ M → (∀ i, i < m → rowB W l x y n i = true) → (m < M → rowB W l x y n m = false) → gd W l x y n M = m) := Lib.hid (fun n m h1 h2 h3 => down_is h1 h2 h3)
  have HAM : RowKit.Hid (∀ j, j < M → A + (j + 1) * W + K ≤ N) := Lib.hid (fun j hj => by
    have : (j + 1) * W ≤ M * W := Nat.mul_le_mul_right _ hj
    omega)
  rw [hM]
  have HC := Lib.hid hc
  have hgw : gw W l x y ≤ K := by rw [HGW.out]; exact run_le _ _ _
  generalize gw W l x y = n at *
  have HGE := Lib.hid (fun m => HGD.out n m)
  clear HGD
  generalize gd W l x y n M = D at *
  have q0 := hc A (by omega)
  have HC1 := Lib.hid (fun W' (k : Below w.heap.size w W') i (hi : i < N) => (k.cell (p := ⟨g, i, none⟩) hg).trans (hc i hi))
  clear hc hN hM hMY hEW HC
  have hEA : E - A = K := by omega
  have z1 := alloc_size w (.cells #[.int .i64 0, .int .i64 0, .int .i64 0, .int .i64 0] 29)
  have n1 := heap_alloc_new w (.cells #[.int .i64 0, .int .i64 0, .int .i64 0, .int .i64 0] 29)
  have k1 := (Below.refl w.heap.size w).alloc (Nat.le_refl _) (.cells #[.int .i64 0, .int .i64 0, .int .i64 0, .int .i64 0] 29)
  have HW1 := Lib.hid (And.intro z1 (And.intro n1 k1))
  clear z1 n1 k1
  go_enter Try.func28, Try.ntmps28
  go_wp2_with fail
  obtain ⟨w1, hw1⟩ : ∃ w1, w.alloc (.cells #[.int .i64 0, .int .i64 0, .int .i64 0, .int .i64 0] 29) = w1 := ⟨_, rfl⟩
  rw [hw1] at HW1 ⊢
  refine (run_any (fun i => px l (A + i)) _ K _ (px l A) w1 (by omega) (fun _ => ⟨g, A, rfl, fun i hi => HC1.out w1 HW1.out.2.2 _ (by omega)⟩)).mono ?_
  rintro r w1 ⟨rfl, rfl⟩
  rw [← HGW.out]
  have hz1 := HW1.out.1
  have z2 := alloc_size w1 (.cells #[.int .i64 x, .int .i64 y, .int .i64 n, .int .i64 1] 29)
  have n2 := heap_alloc_new w1 (.cells #[.int .i64 x, .int .i64 y, .int .i64 n, .int .i64 1] 29)
  have o2 : (w1.alloc (.cells #[.int .i64 x, .int .i64 y, .int .i64 n, .int .i64 1] 29)).heap[w.heap.size]? = some (.cells #[.int .i64 0, .int .i64 0, .int .i64 0, .int .i64 0] 29 (0, 0)) := by
    rw [Below.heap_alloc _ _ _ (by omega)]; exact HW1.out.2.1
  have k2 := HW1.out.2.2.alloc (by omega) (.cells #[.int .i64 x, .int .i64 y, .int .i64 n, .int .i64 1] 29)
  have HW2 := Lib.hid (And.intro z2 (And.intro n2 (And.intro o2 k2)))
  clear z2 n2 o2 k2 q0 t1 t2 t3
  go_wp2_with fail
  have hw2 := HW2.out
  generalize w1.alloc (.cells #[.int .i64 x, .int .i64 y, .int .i64 n, .int .i64 1] 29) = w2 at *
  obtain ⟨z2, n2, o2, k2⟩ := hw2
  rw [hz1] at n2
  have HN2 := Lib.hid n2
  have HO2 := Lib.hid o2
  have HK2 := Lib.hid k2
  obtain ⟨B, hB⟩ : ∃ B, w.heap.size = B := ⟨_, rfl⟩
  rw [hB] at hz1 HN2 HO2 HK2 HC1 hg ⊢
  clear z2 n2 o2 k2 HW1 HW2 hw1 hz1
  go_loopw [11, 41] (fun va vi wr => ∃ j q : Nat, j ≤ M ∧ vi = .int .i64 j ∧ A + j * W = q ∧ va = .int .i64 q ∧ RowKit.Hid (∀ i, i < j → rowB W l x y n i = true) ∧ wr.heap[B]? = some (.cells #[.int .i64 0, .int .i64 0, .int .i64 0, .int .i64 0] 29 (0, 0)) ∧ wr.heap[B + 1]? = some (.cells #[.int .i64 x, .int .i64 y, .int .i64 n, .int .i64 ((j : Int) + 1)] 29 (0, 0)) ∧ Below B w wr) (fun _ vi _ => M - (intOf vi).toNat)
  case atStart => exact ⟨0, A, Nat.zero_le _, rfl, by simp, rfl, Lib.hid (fun i h => by omega), HO2.out, HN2.out, HK2.out⟩
  case round =>
    obtain ⟨j, q, hj, rfl, hjq, rfl, HF, hO, hN, hb⟩ := hrel
    have HO := Lib.hid hO
    have HN := Lib.hid hN
    have HL := Lib.hid hb
    have HJQ := Lib.hid hjq
    have c0 := cellAt (o := 0) hN rfl
    have c1 := cellAt (o := 1) hN rfl
    have c2 := cellAt (o := 2) hN rfl
    have c3 := cellAt (o := 3) hN rfl
    have f3 := frozenAt (o := 3) hN
    have e0 := cellAt (o := 0) hO rfl
    have e1 := cellAt (o := 1) hO rfl
    have e2 := cellAt (o := 2) hO rfl
    have e3 := cellAt (o := 3) hO rfl
    have g0 := frozenAt (o := 0) hO
    have g1 := frozenAt (o := 1) hO
    have g2 := frozenAt (o := 2) hO
    have g3 := frozenAt (o := 3) hO
    have HS := Lib.hid (fun r => And.intro (setRowAt (i := 3) (v := .int .i64 ((j : Int) + 1)) (setRowAt (i := 2) (v := .int .i64 n) (setRowAt (i := 1) (v := .int .i64 y) (setRowAt (w := wr.drewN r) (i := 0) (v := .int .i64 x) hO rfl) rfl) rfl) rfl) (below_set (below_set (below_set (below_set (below_q hb r) (Nat.le_refl B) 0 (.int .i64 x)) (Nat.le_refl B) 1 (.int .i64 y)) (Nat.le_refl B) 2 (.int .i64 n)) (Nat.le_refl B) 3 (.int .i64 ((j : Int) + 1))))
    by_cases hlt : j < M
    · have dk : decide ((j : Int) < (M : Int)) = true := decide_eq_true (by omega)
      obtain ⟨Q, hQ⟩ : ∃ Q, A + (j + 1) * W = Q := ⟨_, rfl⟩
      have hq2 : q + W = Q := by rw [← hQ, ← hjq, Nat.add_mul, Nat.one_mul, Nat.add_assoc]
      have hQN : Q + K ≤ N := by rw [← hQ]; exact HAM.out j hlt
      have s1 : IntKind.i64.wrap ((q : Int) + (W : Int)) = (Q : Nat) := by
        rw [← Int.natCast_add, hq2]; exact IntWalk.i64_in _ (by omega)
      have hRB := HRB.out n j
      rw [hQ] at hRB
      have hrn := run_le (fun i => px l (Q + i)) (px l A) n
      obtain ⟨P, hP⟩ : ∃ P, Q + n = P := ⟨_, rfl⟩
      have s2 : IntKind.i64.wrap ((Q : Int) + (n : Int)) = (P : Nat) := by
        rw [← Int.natCast_add, hP]; exact IntWalk.i64_in _ (by omega)
      have hPQ : P - Q = n := by omega
      have HQ := Lib.hid hQ
      have R1 : RowKit.Hid (∀ r, Calls Try.prog 58 #[.slice (some ⟨g, Q, none⟩) n (cap - Q), .int .i64 (px l A)] (wr.drewN r) fun e w' => e = .returned (.int .i64 (runN (fun i => px l (Q + i)) (px l A) n : Nat)) ∧ ∃ m, w' = wr.drewN m) := Lib.hid (fun r => quiet_w (run_any (fun i => px l (Q + i)) _ n _ (px l A) (wr.drewN r) (by omega) (fun _ => ⟨g, Q, rfl, fun i hi => HC1.out wr HL.out _ (by omega)⟩)))
      generalize runN (fun i => px l (Q + i)) (px l A) n = rn at *
      generalize px l A = v at *
      clear hO hN hb hQ hq2 hjq
      by_cases hrun : rn = n
      · subst hrun
        have HF2 : RowKit.Hid (∀ i, i < j + 1 → rowB W l x y rn i = true) := Lib.hid (fun i hi => by
          by_cases h : i < j
          · exact HF.out i h
          · obtain rfl : i = j := by omega
            rw [hRB]; exact decide_eq_true rfl)
        have d1 : decide ((rn : Int) < (rn : Int)) = false := decide_eq_false (by omega)
        have d2 : decide (rn < rn) = false := decide_eq_false (by omega)
        clear hRB
        go_wp2_with fail
        go_quiet ((go_at_call 58; with_reducible exact R1.out _))
        go_wp2_with fail
        rename_i nq
        have HB2 : (((wr.drewN nq).setCell ⟨B + 1, 3, none⟩ (.int .i64 ((j : Int) + 1 + 1))).heap[B + 1]? = some (.cells #[.int .i64 x, .int .i64 y, .int .i64 rn, .int .i64 ((j : Int) + 1 + 1)] 29 (0, 0))) := setRowAt (w := wr.drewN nq) HN.out rfl
        refine ⟨⟨j + 1, Q, by omega, by go_num, HQ.out, rfl, HF2, ?_, ?_, below_set (below_q HL.out nq) (by omega) _ _⟩, by simp [intOf]; omega⟩
        · rw [setOther (by omega)]; exact HO.out
        · exact HB2
      · have HE := Lib.hid (HGE.out j (by omega) HF.out (fun _ => by rw [hRB]; exact decide_eq_false hrun))
        have d1 : decide ((rn : Int) < (n : Int)) = true := decide_eq_true (by omega)
        have d2 : decide (rn < n) = true := decide_eq_true (by omega)
        clear hRB
        go_wp2_with fail
        go_quiet ((go_at_call 58; with_reducible exact R1.out _))
        go_wp2_with fail
        rename_i nq
        refine bodyPost_ret (Ret.ret_cell rfl _ _ B 29 _ (0, 0) _ rfl (HS.out nq).1 Try.underlying29 rfl (by kernel_rfl)) rfl ⟨?_, ?_⟩
        · rw [HE.out]; rfl
        · rw [hB]; exact (HS.out nq).2
    · obtain rfl : j = M := by omega
      have dk : decide ((j : Int) < (j : Int)) = false := decide_eq_false (by omega)
      have HE := Lib.hid (HGE.out j (Nat.le_refl _) HF.out (fun h => by omega))
      clear hO hN hb
      go_wp2_with fail
      refine bodyPost_ret (Ret.ret_cell rfl _ _ B 29 _ (0, 0) _ rfl (HS.out 0).1 Try.underlying29 rfl (by kernel_rfl)) rfl ⟨?_, ?_⟩
      · rw [HE.out]; rfl
      · rw [hB]; exact (HS.out 0).2
end Go.Proofs.Ytmjjbapahgejmaa.Rre
