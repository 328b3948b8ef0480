/-
  HuffmanPrefix (layer 5): no code begins with another one; codes have their lengths; where no room is left each row of 15 bits begins with just one.
-/
import Derived.Test.YtildikdoimobhaaRows
import Derived.Test.YtildikdoimobhaaHufCost
import Derived.WalkKit
import Derived.ProofKit
import Derived.OpenShut
import Derived.ShutString
import Derived.ChangeOld
import Derived.Below
import Derived.Lib.SmallJoins
import Derived.Deep.Slices
namespace Go.Proofs.Ytildikdoimobhaa.huffmanPrefix
open Go.Proofs.Ytildikdoimobhaa.Huf
open Go.ChangeShapes Go.WideShapes Go.ChangeAt Go.RowKit
open Go.ChangeMaps (open_string shut_string)
set_option linter.unusedVariables false

theorem own : ownKnob Try.prog.godebug = none := by kernel_rfl
theorem laidOut : laidOutB Try.prog = true := by kernel_rfl

/-- Does the row of bits X begin with the code at i? -/
def Hit (N : List Nat) (X i : Nat) : Prop := i < N.length ∧ 1 ≤ N.getD i 0 ∧ X / 2 ^ (15 - N.getD i 0) = codeV N i
theorem hit_one {N : List Nat} {X i j : Nat} (h15 : ∀ x ∈ N, x ≤ 15) (hi : Hit N X i) (hj : Hit N X j) : i = j := by
  have g : ∀ k (h : k < N.length), N.getD k 0 = N[k] := fun k h => by rw [List.getD_eq_getElem?_getD, List.getElem?_eq_getElem h]; rfl
  obtain ⟨a1, a2, a3⟩ := hi
  obtain ⟨b1, b2, b3⟩ := hj
  rw [g i a1] at a2 a3
  rw [g j b1] at b2 b3
  exact code_one N i j X a1 b1 a2 (h15 _ (List.getElem_mem _)) b2 (h15 _ (List.getElem_mem _)) a3 b3
theorem hit_some {N : List Nat} {X : Nat} (h : X < used N 15) : ∃ i, Hit N X i := by
  obtain ⟨i, hi, a, _, c⟩ := code_some N X 15 (Nat.le_refl _) h
  refine ⟨i, hi, ?_⟩
  rw [List.getD_eq_getElem?_getD, List.getElem?_eq_getElem hi]
  exact ⟨a, c⟩
theorem code_small (N : List Nat) (i : Nat) (hi : i < N.length) (h15 : ∀ x ∈ N, x ≤ 15) (hu : used N 15 ≤ 32768) : codeV N i < 2 ^ N.getD i 0 := by
  have g : N.getD i 0 = N[i] := by rw [List.getD_eq_getElem?_getD, List.getElem?_eq_getElem hi]; rfl
  by_cases h0 : N.getD i 0 = 0
  · unfold codeV; rw [if_pos h0, h0]; decide
  · rw [g] at h0 ⊢
    exact codeV_lt N i N[i] hi rfl (by omega) (h15 _ (List.getElem_mem _)) hu
theorem apart_div (N : List Nat) (i j : Nat) (hi : i < N.length) (hj : j < N.length) (h15 : ∀ x ∈ N, x ≤ 15) (h1 : 1 ≤ N.getD i 0) (h2 : N.getD i 0 < N.getD j 0) : codeV N j / 2 ^ (N.getD j 0 - N.getD i 0) ≠ codeV N i := by
  have g : ∀ k (h : k < N.length), N.getD k 0 = N[k] := fun k h => by rw [List.getD_eq_getElem?_getD, List.getElem?_eq_getElem h]; rfl
  rw [g i hi] at h1 h2 ⊢
  rw [g j hj] at h2 ⊢
  exact code_apart N i j hi hj h1 h2 (h15 _ (List.getElem_mem _))
theorem clamp (i : Int) (n : Nat) (hn : 0 < n) : ∃ (x : Int) (I : Nat), max i 0 = x ∧ min x ((n : Int) - 1) = I ∧ I < n := by
  by_cases h : i < 0
  · exact ⟨0, 0, by omega, by omega, hn⟩
  · by_cases h2 : (n : Int) - 1 < i
    · exact ⟨i, n - 1, by omega, by omega, by omega⟩
    · exact ⟨i, i.toNat, by omega, by omega, by omega⟩

set_option maxRecDepth 100000 in
set_option maxHeartbeats 8000000 in
theorem early (a : Option Addr) (n cap : Nat) (i k bi : Int) (W : World) (hmax : n ≤ 2 ^ 63 - 1) (h : 340 < n ∨ n = 0) :
    Calls Try.prog 5 #[.slice a n cap, .int .i64 i, .int .i64 k, .int .i64 bi] W fun e w' => e = .returned (.bool true) ∧ Below W.heap.size W w' := by
  by_cases h1 : 340 < n
  · have h1' : (340 : Int) < n := by omega
    clear h
    go_enter Try.func5, Try.ntmps5
    go_wp2_with fail
    refine (works_any _).mono ?_
    rintro r w1 ⟨rfl, b1⟩
    go_wp2_with fail
    all_goals (go_ret; exact ⟨rfl, b1⟩)
  obtain rfl : n = 0 := by omega
  clear h
  go_enter Try.func5, Try.ntmps5
  go_wp2_with fail
  refine (works_any _).mono ?_
  rintro r w1 ⟨rfl, b1⟩
  go_wp2_with fail
  all_goals (go_ret; exact ⟨rfl, b1⟩)

set_option maxRecDepth 100000 in
set_option maxHeartbeats 8000000 in
theorem walk (a : Option Addr) (n cap : Nat) (L : List Int) (i k bi : Int) (W : World) (h : L.length = n ∧ n ≤ maxLen ∧ IsInts W a L ∧ ∀ x ∈ L, (Lit.int .i64 x).wf = true) :
    Calls Try.prog 5 #[.slice a n cap, .int .i64 i, .int .i64 k, .int .i64 bi] W fun e w' => e = .returned (.bool true) ∧ Below W.heap.size W w' := by
  obtain ⟨hn, hmax, hI, _⟩ := h
  unfold maxLen at hmax
  by_cases hg : 340 < n ∨ n = 0
  · exact early a n cap i k bi W hmax hg
  have hb' : ¬ ((340 : Int) < n) := by omega
  have hn0 : ((n : Int) == 0) = false := by simp; omega
  have HI := Lib.hid hI
  clear hI hmax
  by_cases hf : fine L = true
  · obtain ⟨f1, f2, f3⟩ := fine_parts hf
    have hchk : chk L = .tuple #[.int .i64 (32768 - used (nats L) 15 : Nat), .int .i64 0] := by unfold chk; rw [hf, if_pos rfl]
    have C1 := Lib.hid (fun w h => check_any a n cap L w hn h (by omega))
    have C3 := Lib.hid (fun w h => codes_good a n cap L w hn h hf)
    rw [hchk] at C1
    have hN : (nats L).length = n := by rw [nats_length]; exact hn
    have HI' : Hid (IsInts W a ((nats L).map fun (x : Nat) => (x : Int))) := Lib.hid (by rw [← nats_cast f2]; exact HI.out)
    have h15 := nats_le f2
    have HL := Lib.hid (nats_cast f2)
    generalize nats L = N at *
    obtain ⟨X, hX⟩ : ∃ X : Nat, bi % 32768 = X := ⟨(bi % 32768).toNat, by omega⟩
    have hXb : X < 32768 := by omega
    have hmask : bits .and .i64 bi 32767 = X := by rw [← hX]; exact Go.Proofs.Ytildikdoimobhaa.Bit.i64_mask bi 15 (by decide)
    obtain ⟨x1, I, mx1, mn1, hIn⟩ := clamp i n (by omega)
    obtain ⟨x2, K, mx2, mn2, hKn⟩ := clamp k n (by omega)
    have hsm := fun j hj => code_small N j hj h15 f3
    have HSM := Lib.hid hsm
    have HAP := Lib.hid (fun hj => apart_div N I K (by omega) (by omega) h15 hj)
    have H1 := Lib.hid (fun j1 j2 h1 h2 => hit_one (X := X) (i := j1) (j := j2) h15 h1 h2)
    have HS := Lib.hid (fun h => hit_some (N := N) (X := X) h)
    have H15 := Lib.hid h15
    obtain ⟨U, hU⟩ : ∃ U, used N 15 = U := ⟨_, rfl⟩
    rw [hU] at f3 HS C1
    clear hchk hf f1 f2 hX hsm h15 hU hg HI
    go_enter Try.func5, Try.ntmps5
    go_wp2_with fail
    refine (works_any _).mono ?_
    rintro r w1 ⟨rfl, b1⟩
    have B1 := Lib.hid b1
    clear b1
    go_wp2_with fail
    refine (C3.out _ (by rw [HL.out]; exact HI'.out.below B1.out (Nat.le_refl _))).mono ?_
    rintro r w2 ⟨bc, rfl, b2, o2⟩
    have B2 := Lib.hid (B1.out.trans (b2.mono B1.out.size))
    have O2 := Lib.hid (row0 o2)
    clear b2 o2 B1 C3
    have dI := rowC_get n (codeV N) (fun i => N.getD i 0) I hIn
    have dK := rowC_get n (codeV N) (fun i => N.getD i 0) K hKn
    have cI0 := (O2.out.cellAt (I * 2) (by omega)).trans dI.1
    have cI1 := (O2.out.cellAt (I * 2 + 1) (by omega)).trans dI.2
    have cK0 := (O2.out.cellAt (K * 2) (by omega)).trans dK.1
    have cK1 := (O2.out.cellAt (K * 2 + 1) (by omega)).trans dK.2
    clear dI dK
    have sI := HSM.out I (by omega)
    have sK := HSM.out K (by omega)
    have l15 : ∀ j, j < n → N.getD j 0 ≤ 15 := fun j hj => by
      rw [List.getD_eq_getElem?_getD, List.getElem?_eq_getElem (by omega)]; exact H15.out _ (List.getElem_mem _)
    have lI := l15 I hIn
    have lK := l15 K hKn
    have HL15 := Lib.hid l15
    clear l15
    generalize N.getD I 0 = li at *
    generalize N.getD K 0 = lk at *
    generalize codeV N I = ci at *
    generalize codeV N K = ck at *
    have hp15 : ∀ e, e ≤ 15 → 2 ^ e ≤ 32768 := fun e he => Nat.le_trans (Nat.pow_le_pow_right (by decide) he) (by decide)
    have hci : ci < 32768 := Nat.lt_of_lt_of_le sI (hp15 _ lI)
    have hck : ck < 32768 := Nat.lt_of_lt_of_le sK (hp15 _ lK)
    have hlen : bc < w2.heap.size := (O2.out.lt bc rfl).2
    clear sI sK hp15
    have n1 : ((n : Int) == n) = true := by simp
    have bA := (Below.refl w2.heap.size w2).alloc (Nat.le_refl _) (.cells #[.int .i64 ci, .int .i64 li] 45)
    have kK0 := (bA.cell (p := ⟨bc, K * 2, none⟩) hlen).trans cK0
    have kK1 := (bA.cell (p := ⟨bc, K * 2 + 1, none⟩) hlen).trans cK1
    clear bA
    go_upto_region 13 with fail
    have D := Lib.hid (duo_one w2 45 (.int .i64 ci) (.int .i64 li) (.int .i64 ck) (.int .i64 lk))
    generalize (w2.alloc (.cells #[.int .i64 ci, .int .i64 li] 45)).alloc (.cells #[.int .i64 ck, .int .i64 lk] 45) = w4 at D ⊢
    obtain ⟨Bq, hBq⟩ : ∃ b, w2.heap.size + 1 = b := ⟨_, rfl⟩
    obtain ⟨A, hA⟩ : ∃ b, w2.heap.size = b := ⟨_, rfl⟩
    have B4 : Hid (Below w2.heap.size w2 w4) := Lib.hid (show Below w2.heap.size w2 w4 from ⟨D.out.below.os, D.out.below.tape, D.out.below.output, D.out.below.size, D.out.below.block⟩)
    have O4 := Lib.hid (ownsRow_blockK O2.out (fun j hj => B4.out.block j (O2.out.lt j hj).2))
    have HI4 := Lib.hid ((HI'.out.below B2.out (Nat.le_refl _)).below B4.out (Nat.le_refl _))
    have B5 := Lib.hid (B2.out.trans (B4.out.mono B2.out.size))
    have k0 : w4.cell? ⟨w2.heap.size, 0, none⟩ = some (.int .i64 ci) := D.out.c.1
    have k1 : w4.cell? ⟨w2.heap.size, 1, none⟩ = some (.int .i64 li) := D.out.c.2.1
    have k2 : w4.cell? ⟨w2.heap.size + 1, 0, none⟩ = some (.int .i64 ck) := D.out.c.2.2.1
    have k3 : w4.cell? ⟨w2.heap.size + 1, 1, none⟩ = some (.int .i64 lk) := D.out.c.2.2.2
    rw [hA] at k0 k1
    rw [hBq] at k2 k3
    rw [hBq, hA]
    clear kK0 kK1 cI0 cI1 cK0 cK1 D O2 B4 hlen hA hBq HI'
    go_cut [83] (fun v wx => v = .bool false ∧ ∃ q, wx = w4.drewN q)
    case first =>
      by_cases q1 : 0 < li
      · have q1' : (0 : Int) < li := by omega
        have d1 : decide ((0 : Int) < li) = true := by simp; omega
        by_cases q2 : li < lk
        · have d2 : decide ((li : Int) < lk) = true := by simp; omega
          obtain ⟨E, hE⟩ : ∃ E, lk - li = E := ⟨_, rfl⟩
          have hEI : (lk : Int) - li = E := by omega
          have hEw : IntKind.i64.wrap ((lk : Int) - li) = E := by rw [hEI]; exact IntWalk.i64_in _ (by omega)
          go_wp2_with fail
          go_quiet (fail)
          go_wp2_with fail
          go_meet
          refine ⟨?_, _, rfl⟩
          have hne := HAP.out q1 q2
          rw [hE] at hne
          have e : (ck : Int) / 2 ^ E = ((ck / 2 ^ E : Nat) : Int) := by simp
          obtain ⟨q, hq⟩ : ∃ q, ck / 2 ^ E = q := ⟨_, rfl⟩
          rw [hq] at e hne
          have hbq : ((q : Int) == ci) = false := by simp; omega
          rw [e, hbq]
        · have d2 : decide ((li : Int) < lk) = false := by simp; omega
          go_wp2_with fail
          go_quiet (fail)
          go_wp2_with fail
          go_meet
          exact ⟨rfl, _, rfl⟩
      · obtain rfl : li = 0 := by omega
        go_wp2_with fail
        go_quiet (fail)
        go_wp2_with fail
        go_meet
        exact ⟨rfl, _, rfl⟩
    case rest =>
    obtain ⟨rfl, t0, hwc⟩ := hcut
    subst hwc
    clear HAP k0 k1 k2 k3 lI lK hci hck
    go_wp2_with fail
    go_loopw [14, 15] (fun v i wr => ∃ j q cnt : Nat, j ≤ n ∧ i = .int .i64 j ∧ v = .int .i64 cnt ∧ wr = w4.drewN q ∧ ((cnt = 0 ∧ ∀ i, i < j → ¬ Hit N X i) ∨ (cnt = 1 ∧ ∃ i, i < j ∧ Hit N X i))) (fun _ i _ => n - (intOf i).toNat)
    case atStart => exact ⟨0, t0, 0, Nat.zero_le _, rfl, rfl, rfl, .inl ⟨rfl, fun i h => by omega⟩⟩
    case round =>
      obtain ⟨j, q, cnt, hj, rfl, rfl, rfl, hcnt⟩ := hrel
      have HCNT := Lib.hid hcnt
      have hc1 : cnt ≤ 1 := by rcases hcnt with h | h <;> omega
      clear hcnt
      by_cases hjn : j < n
      · have hjn' : (j : Int) < n := by omega
        have dj := rowC_get n (codeV N) (fun i => N.getD i 0) j hjn
        have a1 := (O4.out.cellAt (j * 2) (by omega)).trans dj.1
        have a2 := (O4.out.cellAt (j * 2 + 1) (by omega)).trans dj.2
        obtain ⟨b, off, rfl, _, e1⟩ := getD_cell HI4.out (by omega)
        have e1 := e1 j (by omega)
        have sm := HSM.out j (by omega)
        have l15 := HL15.out j hjn
        have HH : Hid (Hit N X j ↔ 1 ≤ N.getD j 0 ∧ X / 2 ^ (15 - N.getD j 0) = codeV N j) := Lib.hid ⟨fun h => h.2, fun h => ⟨by omega, h.1, h.2⟩⟩
        clear dj
        rename_i zz
        clear zz
        generalize N.getD j 0 = l at *
        generalize codeV N j = v at *
        obtain ⟨P, hP, hP3, hP4, hP5, hPw⟩ := pow_int l l15
        have hv : v < 32768 := by
          have : (v : Int) < P := by rw [hP3]; omega
          omega
        have d1 : decide ((v : Int) < 0) = false := by simp
        have d2 : decide (P ≤ (v : Int)) = false := by
          have : (v : Int) < P := by rw [hP3]; omega
          simp; omega
        have hll : ((l : Int) == l) = true := by simp
        clear hP3 sm
        by_cases h0 : 0 < l
        · have h0' : (0 : Int) < l := by omega
          have d0 : decide ((0 : Int) < l) = true := by simp; omega
          obtain ⟨E, hE⟩ : ∃ E, 15 - l = E := ⟨_, rfl⟩
          have hEI : 15 - (l : Int) = E := by omega
          have hEw : IntKind.i64.wrap (15 - (l : Int)) = E := by rw [hEI]; exact IntWalk.i64_in _ (by omega)
          obtain ⟨y, hy⟩ : ∃ y, X / 2 ^ E = y := ⟨_, rfl⟩
          have hyI : (X : Int) / 2 ^ E = y := by rw [← hy]; simp
          rw [hE, hy] at HH
          clear hy hE
          by_cases hyv : y = v
          · have hb1 : ((y : Int) == v) = true := by simp; omega
            have HN : Hid (cnt = 0 ∧ ∃ i, i < j + 1 ∧ Hit N X i) := Lib.hid (by
              have hj0 : Hit N X j := HH.out.2 ⟨h0, hyv⟩
              refine ⟨?_, j, by omega, hj0⟩
              rcases HCNT.out with ⟨h, _⟩ | ⟨_, i0, hi0, hi1⟩
              · exact h
              · have := H1.out i0 j hi1 hj0; omega)
            obtain rfl := HN.out.1
            clear HCNT HH hyv
            go_wp2_with fail
            go_quiet (fail)
            go_wp2_with fail
            go_quiet (fail)
            go_wp2_with fail
            refine ⟨⟨j + 1, _, 1, by omega, by go_num, rfl, rfl, .inr ⟨rfl, HN.out.2⟩⟩, ?_⟩
            simp [intOf]; omega
          · have hb1 : ((y : Int) == v) = false := by simp; omega
            have HN : Hid ((cnt = 0 ∧ ∀ i, i < j + 1 → ¬ Hit N X i) ∨ (cnt = 1 ∧ ∃ i, i < j + 1 ∧ Hit N X i)) := Lib.hid (by
              rcases HCNT.out with ⟨h, h2⟩ | ⟨h, i0, hi0, hi1⟩
              · refine .inl ⟨h, fun i hi hh => ?_⟩
                by_cases e : i = j
                · subst e; exact hyv (HH.out.1 hh).2
                · exact h2 i (by omega) hh
              · exact .inr ⟨h, i0, by omega, hi1⟩)
            clear HCNT HH hyv
            go_wp2_with fail
            go_quiet (fail)
            go_wp2_with fail
            go_quiet (fail)
            go_wp2_with fail
            refine ⟨⟨j + 1, _, cnt, by omega, by go_num, rfl, rfl, HN.out⟩, ?_⟩
            simp [intOf]; omega
        · obtain rfl : l = 0 := by omega
          have HN : Hid ((cnt = 0 ∧ ∀ i, i < j + 1 → ¬ Hit N X i) ∨ (cnt = 1 ∧ ∃ i, i < j + 1 ∧ Hit N X i)) := Lib.hid (by
            rcases HCNT.out with ⟨h, h2⟩ | ⟨h, i0, hi0, hi1⟩
            · refine .inl ⟨h, fun i hi hh => ?_⟩
              by_cases e : i = j
              · subst e; have := (HH.out.1 hh).1; omega
              · exact h2 i (by omega) hh
            · exact .inr ⟨h, i0, by omega, hi1⟩)
          clear HCNT HH
          go_wp2_with fail
          go_quiet (fail)
          go_wp2_with fail
          go_quiet (fail)
          go_wp2_with fail
          refine ⟨⟨j + 1, _, cnt, by omega, by go_num, rfl, rfl, HN.out⟩, ?_⟩
          simp [intOf]; omega
      · obtain rfl : j = n := by omega
        have drw : Below w4.heap.size w4 (w4.drewN q) := ⟨rfl, rfl, rfl, Nat.le_refl _, fun _ _ => rfl⟩
        have HI5 := Lib.hid (HI4.out.below drw (Nat.le_refl _))
        rw [← HL.out] at HI5
        have B6 := Lib.hid (B5.out.trans (drw.mono B5.out.size))
        obtain ⟨lf, hlf⟩ : ∃ lf, 32768 - U = lf := ⟨_, rfl⟩
        have HEND : Hid (cnt = 1 ∨ (cnt = 0 ∧ 0 < lf)) := Lib.hid (by
          rcases HCNT.out with ⟨h, h2⟩ | ⟨h, _⟩
          · refine .inr ⟨h, ?_⟩
            by_cases hu : X < U
            · obtain ⟨i0, hi0⟩ := HS.out hu
              exact absurd hi0 (h2 i0 (by have := hi0.1; omega))
            · omega
          · exact .inl h)
        rw [hlf] at C1
        have CK := Lib.hid (C1.out _ HI5.out)
        clear C1 HCNT HS H1 HI4 drw hlf f3
        go_wp2_with fail
        refine CK.out.mono ?_
        rintro r w6 ⟨rfl, b6⟩
        have B7 := Lib.hid (B6.out.trans (b6.mono B6.out.size))
        clear b6 B6 CK
        rcases HEND.out with rfl | ⟨rfl, hp⟩
        · by_cases hp : 0 < lf
          · have hp' : (0 : Int) < lf := by omega
            have dp : decide ((0 : Int) < lf) = true := by simp; omega
            go_wp2_with fail
            go_ret
            exact ⟨rfl, B7.out⟩
          · obtain rfl : lf = 0 := by omega
            go_wp2_with fail
            go_ret
            exact ⟨rfl, B7.out⟩
        · have hp' : (0 : Int) < lf := by omega
          have dp : decide ((0 : Int) < lf) = true := by simp; omega
          go_wp2_with fail
          go_ret
          exact ⟨rfl, B7.out⟩
  · have hf' : fine L = false := by simpa using hf
    have C3 := Lib.hid (fun w h => codes_bad a n cap L w hn h (by omega) hf')
    clear hf hf' hg
    go_enter Try.func5, Try.ntmps5
    go_wp2_with fail
    refine (works_any _).mono ?_
    rintro r w1 ⟨rfl, b1⟩
    have B1 := Lib.hid b1
    clear b1
    go_wp2_with fail
    refine (C3.out _ (HI.out.below B1.out (Nat.le_refl _))).mono ?_
    rintro r w2 ⟨rfl, b2⟩
    have B2 := Lib.hid (B1.out.trans (b2.mono B1.out.size))
    clear b2 B1 C3
    go_wp2_with fail
    go_ret
    exact ⟨rfl, B2.out⟩

set_option maxRecDepth 100000 in
theorem lifted (os : Os) (started : os.Started) (H : Type) (enc : TypeId × Value → H) :
    ReturnsInHanded {} Try.checked os 5 .any (Rows.huffmanPrefixSpec.pre6 enc Try.prog Try.f5 Rows.huffmanPrefixRow.domain false) (Rows.huffmanPrefixSpec.post enc Try.prog Try.f5 false true false false) := by
  refine returnsInHanded_of_change (C := Try.checked) own started (by kernel_rfl) Try.func5
    (ChangeSpec.witness6 (enc := enc) (C := Try.checked) false ⟨#[], #[.slice none 0 0, .int .i64 0, .int .i64 0, .int .i64 0], []⟩ 8 (by kernel_rfl) (by kernel_rfl) (by kernel_rfl) (by kernel_rfl)) ?_
  intro W base args ds gs before hval0 hW hcnd _
  have hval : ∀ (j : Nat) t v, Try.f5.params[j]? = some t → args[j]? = some v → Value.okWide Try.prog W .any base t v := hval0
  have hW' := hW
  obtain ⟨p, q, hA0, hV, rfl, hfz, hnd⟩ := hW
  have hA : DataW.TrodAll enc Try.prog W 0 (fun _ => true) true Try.f5.params.toList args.toList ds p := hA0
  rw [Try.params5] at hA hval
  obtain ⟨v0, vs0, d0, ds0, p0, q0, hargs, rfl, rfl, h0, r0⟩ := trodAll_cons hA
  obtain ⟨v1, vs1, d1, ds1, p1, q1, rfl, rfl, rfl, h1, r1⟩ := trodAll_cons r0
  obtain ⟨v2, vs2, d2, ds2, p2, q2, rfl, rfl, rfl, h2, r2⟩ := trodAll_cons r1
  obtain ⟨v3, vs3, d3, ds3, p3, q3, rfl, rfl, rfl, h3, r3⟩ := trodAll_cons r2
  obtain ⟨rfl, rfl, rfl⟩ := trodAll_nil r3
  obtain rfl : args = #[v0, v1, v2, v3] := by cases args; simp_all
  obtain ⟨rfl, rfl⟩ := trodVars_none hV
  have k0 := h0
  have lt0 : ∀ x ∈ p0, x.block < W.heap.size := by obtain ⟨m, hm⟩ := k0; exact DataW.trod_lt m _ _ _ hm
  obtain ⟨a0, len0, cap0, rfl⟩ := okWide_slice Try.underlying22 (hval 0 22 v0 rfl rfl)
  obtain ⟨A0, w0⟩ := ints_see h0
  have k1 := h1
  have lt1 : ∀ x ∈ p1, x.block < W.heap.size := by obtain ⟨m, hm⟩ := k1; exact DataW.trod_lt m _ _ _ hm
  obtain ⟨a1, rfl, rfl, rfl, w1⟩ := open_int Try.underlying3 (hval 1 3 v1 rfl rfl) h1
  have k2 := h2
  have lt2 : ∀ x ∈ p2, x.block < W.heap.size := by obtain ⟨m, hm⟩ := k2; exact DataW.trod_lt m _ _ _ hm
  obtain ⟨a2, rfl, rfl, rfl, w2⟩ := open_int Try.underlying3 (hval 2 3 v2 rfl rfl) h2
  have k3 := h3
  have lt3 : ∀ x ∈ p3, x.block < W.heap.size := by obtain ⟨m, hm⟩ := k3; exact DataW.trod_lt m _ _ _ hm
  obtain ⟨a3, rfl, rfl, rfl, w3⟩ := open_int Try.underlying3 (hval 3 3 v3 rfl rfl) h3
  clear hA0 hval0
  refine (walk a0 len0 cap0 A0 a1 a2 a3 W w0).mono fun e W' ⟨he, bel⟩ => ?_
  subst he
  exact ⟨_, rfl, _, _, _, [], _, [], hW', trodAll_mk1 (shut_bool Try.underlying4 _), (trodAll_cons_mk (Below.trod laidOut (by kernel_rfl) (of_decide_eq_true (by kernel_rfl)) k0 bel lt0) (trodAll_cons_mk (Below.trod laidOut (by kernel_rfl) (of_decide_eq_true (by kernel_rfl)) k1 bel lt1) (trodAll_cons_mk (Below.trod laidOut (by kernel_rfl) (of_decide_eq_true (by kernel_rfl)) k2 bel lt2) (trodAll_cons_mk (Below.trod laidOut (by kernel_rfl) (of_decide_eq_true (by kernel_rfl)) k3 bel lt3) trodAll_mk0)))), rfl, bel.frame _, fun h => by cases h⟩

theorem over : Rows.huffmanPrefixRow.holds Try.pinned (OpenSpec.ofChange Rows.huffmanPrefixSpec) :=
  OpenClaim.holds_of_wide 5 Try.f5 rfl rfl rfl rfl rfl rfl rfl ⟨rfl, rfl, rfl, rfl, rfl⟩ rfl rfl rfl rfl rfl (by kernel_rfl) Try.func5 (by kernel_rfl)
    (of_decide_eq_true (by kernel_rfl)) (by unfold Func.isWrapper; first | (rw [if_pos (by decide +kernel)]; kernel_rfl) | (rw [if_neg (by decide +kernel)]; exact ⟨rfl, rfl⟩))
    (fun os started H enc _ => lifted os started H enc)

theorem proved : Rows.HuffmanPrefixSaid := over
end Go.Proofs.Ytildikdoimobhaa.huffmanPrefix
