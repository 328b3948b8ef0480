/-
  The iterator of Chunk: it hands out a row's pairs.
-/
import Derived.Test.YtedlhfemmofbpaaRegPrgW
namespace Go.Proofs.Ytedlhfemmofbpaa.Reg
open Go.ChangeShapes Go.WideShapes Go.ChangeAt Go.RowKit Go.Shelf Lz RowG RegVal OwnL
set_option linter.unusedVariables false
set_option linter.unusedSimpArgs false
set_option maxRecDepth 100000
attribute [local go_sem] Oper.semAt_some

/-- What a round keeps. -/
structure ChK (B1 B2 : Nat) (W W' : World) : Prop where
  b1 : W'.heap[B1]? = W.heap[B1]?
  b2 : W'.heap[B2]? = W.heap[B2]?
theorem ChK.trans {B1 B2 : Nat} {A B C : World} (h : ChK B1 B2 A B) (k : ChK B1 B2 B C) : ChK B1 B2 A C := ⟨k.b1.trans h.b1, k.b2.trans h.b2⟩
theorem ChK.turn {B1 B2 B : Nat} {W W' : World} (h : Turn noC B W W') (ha : B1 < B) (hb : B2 < B) (ha2 : B1 < W.heap.size) (hb2 : B2 < W.heap.size) : ChK B1 B2 W W' :=
  ⟨(h.block B1 ha2).elim id (fun e => absurd e.1 (by omega)), (h.block B2 hb2).elim id (fun e => absurd e.1 (by omega))⟩
/-- What the loop's body is handed. -/
def chE (g off M : Nat) (x : Fin M) : Array Value := #[.slice (some ⟨g, off + 2 * x.1, none⟩) 2 2]
set_option maxHeartbeats 4000000 in
theorem chunk1_in (n : Nat) (hn : 2 ≤ n) (p : Option Addr) (M N c g off B1 B2 : Nat) (hM : M ≤ 1000000) (hN : N = 2 * M) (hp : 0 < M → p = some ⟨g, off, none⟩) (hc : N ≤ c) (w0 : World)
    (c1 : w0.cell? ⟨B1, 0, none⟩ = some (.slice p N c)) (c2 : w0.cell? ⟨B2, 0, none⟩ = some (.int .i64 2)) :
    Gives n Try.prog 59 #[.pointer (some ⟨B1, 0, none⟩), .pointer (some ⟨B2, 0, none⟩)] (chE g off M) (ChK B1 B2) 62 (List.finRange M) w0 := by
  intro l J W hW hJ hY h0
  rw [List.length_finRange] at hY
  have ka := World.block_lt_of_cell? w0 _ c1
  have kb := World.block_lt_of_cell? w0 _ c2
  have ca := (hW.cell (p := ⟨B1, 0, none⟩) ka).trans c1
  have cb := (hW.cell (p := ⟨B2, 0, none⟩) kb).trans c2
  have HJ := Lib.hid hJ
  have HY := Lib.hid hY
  have HN := Lib.hid hN
  have HP := Lib.hid hp
  have H0 := Lib.hid h0
  have HC := Lib.hid (And.intro ca cb)
  clear hJ hY h0 hN hp c1 c2 ka kb hW ca cb
  refine callsIn_of_wp Try.func59 rfl trivial ?_ rfl
  simp only [Try.ntmps59, List.size_toArray, List.length_cons, List.length_nil, Nat.reduceAdd, Nat.reduceSub, Array.replicate_succ, Array.replicate_zero, List.push_toArray, List.append_toArray, List.nil_append, List.cons_append]
  gi_wp2
  gi_loopw [4] (fun v wr => ∃ k : Nat, v = .int .i64 ((2 * k : Nat) : Int) ∧ k ≤ M ∧ J (upto M k) wr ∧ wr.cell? ⟨B1, 0, none⟩ = some (.slice p N c) ∧ wr.cell? ⟨B2, 0, none⟩ = some (.int .i64 2)) (fun v _ => N - (intOf v).toNat)
  case atStart => exact ⟨0, rfl, Nat.zero_le _, H0.out, HC.out.1, HC.out.2⟩
  case round =>
    obtain ⟨k, rfl, hk, hj, ca, cb⟩ := hrel
    obtain ⟨A, hA⟩ : ∃ A, 2 * k = A := ⟨_, rfl⟩
    rw [hA]
    have HA := Lib.hid hA
    have HJJ := Lib.hid hj
    by_cases hlt : k < M
    · obtain rfl := HP.out (by omega)
      have hAN : A + 2 ≤ N := by have := HN.out; omega
      obtain ⟨B, hB⟩ : ∃ B, A + 2 = B := ⟨_, rfl⟩
      obtain ⟨R, hR⟩ : ∃ R, N - A = R := ⟨_, rfl⟩
      have hs1 := fun W => run_fromV W (some ⟨g, off, none⟩) N c A (by omega)
      unfold fromV at hs1
      rw [hR] at hs1
      obtain ⟨q, hq⟩ : ∃ q, (if c = A then some (⟨g, off, none⟩ : Addr) else (some (⟨g, off, none⟩ : Addr)).map (·.add A)) = q := ⟨_, rfl⟩
      rw [hq] at hs1
      obtain ⟨c3, hc3⟩ : ∃ c3, c - A = c3 := ⟨_, rfl⟩
      rw [hc3] at hs1
      have hs3 := fun W => run_partV W g off N c A B (by omega) (by omega)
      rw [show B - A = 2 by omega] at hs3
      have mn : min (2 : Int) (R : Int) = 2 := by omega
      have mi : (if (R : Int) < 2 then (R : Int) else 2) = 2 := if_neg (by omega)
      have wB : IntKind.i64.wrap ((A : Int) + 2) = (B : Int) := (IntWalk.i64_in _ (by have := HN.out; omega)).trans (by omega)
      have d1 : decide ((A : Int) < N) = true := decide_eq_true (by omega)
      have d2 : decide (A < N) = true := decide_eq_true (by omega)
      have hy := fun Wc (h : J (upto M k) Wc) => HY.out (upto M k) ⟨k, hlt⟩ Wc h (by rw [upto_length (Nat.le_of_lt hlt)]; exact hlt)
      have hE : chE g off M ⟨k, hlt⟩ = #[.slice (some ⟨g, off + A, none⟩) 2 2] := by unfold chE; rw [hA]
      rw [hE] at hy
      have HYY := Lib.hid hy
      have HLT := Lib.hid hlt
      have HB := Lib.hid hB
      have HAN := Lib.hid hAN
      clear hA hj hy hE hq hc3 hR hB hAN hk
      gi_wp2
      gi_quiet (fail)
      have hJ2 : J (upto M k) (wr.drewN nq) := HJ.out _ _ _ HJJ.out (Turn.drewN _ _ _ _)
      obtain ⟨fn, tmps, assign, body, hy, hR⟩ := HYY.out _ hJ2
      have HR := Lib.hid hR
      have HCC := Lib.hid (And.intro (show (wr.drewN nq).cell? ⟨B1, 0, none⟩ = _ from ca) (show (wr.drewN nq).cell? ⟨B2, 0, none⟩ = _ from cb))
      clear hR hJ2 mn mi hs1
      gi_wp2
      refine ⟨fun _ => by omega, HR.out.mono ?_⟩
      rintro e w5 ⟨rfl, hJ5, hK5⟩
      have HJ5 : RowKit.Hid (J (upto M (k + 1)) w5) := Lib.hid (by rw [upto_succ hlt]; exact hJ5)
      have HC5 := Lib.hid (And.intro (sameBlock hK5.b1 HCC.out.1) (sameBlock hK5.b2 HCC.out.2))
      have e1 := HC5.out.1
      have e2 := HC5.out.2
      clear hJ5 hK5 HR hy ca cb
      gi_wp2
      go_roundw
      case rel => exact ⟨k + 1, by have := HA.out; have := HB.out; simp; omega, by omega, HJ5.out, HC5.out.1, HC5.out.2⟩
      case measure => have := HB.out; have := HAN.out; simp [intOf]; omega
    · have hkM : k = M := by omega
      have hJe : J (List.finRange M) wr := by
        have e := HJJ.out
        rw [hkM, upto_all] at e
        exact e
      have hAN : A = N := by have := HN.out; omega
      subst hAN
      have d1 : decide ((A : Int) < A) = false := decide_eq_false (by omega)
      have d2 : decide (A < A) = false := decide_eq_false (by omega)
      have HJE := Lib.hid hJe
      clear hJe hj
      gi_wp2
      go_end0
      exact ⟨⟨_, rfl⟩, HJE.out⟩
end Go.Proofs.Ytedlhfemmofbpaa.Reg
