/-
  Contracts of the program's layer 13 (format): values of colours.
-/
import Derived.Test.YtbdlmcpdplmdnaaFmtPrgC
namespace Go.Proofs.Ytbdlmcpdplmdnaa.Fmt
open Go.ChangeShapes Go.WideShapes Go.ChangeAt Go.RowKit RegVal Oct
set_option linter.unusedVariables false
set_option maxRecDepth 100000

theorem valN {k : IntKind} {a b : Int} (h : a = b) : Value.int k a = Value.int k b := by rw [h]
/-- What a round computes of a part p, with a the greatest number and P the place. -/
theorem down_round {p a s : Nat} (hp : p ≤ 255) (ha : a ≤ 65535) (hs : s ≤ 32) :
    ∃ P X D : Nat, (2 : Int) ^ s = P ∧ (p : Int) * a = X ∧ X ≤ 16711425 ∧ ((X : Int) + 127) / 255 = D ∧ IntKind.i64.wrap ((D : Int) * P) = (downN p a * 2 ^ s : Nat) ∧ wrap64 ((D : Int) * P) = (downN p a * 2 ^ s : Nat) ∧ downN p a * 2 ^ s < 2 ^ 62 := by
  obtain ⟨P, hP, hP2, hP3, hP4⟩ := pow_int hs
  have hd := down_le (m := a) hp
  have hm := mul_small (show downN p a ≤ 65535 by omega) hP4
  have hpa : p * a ≤ 255 * 65535 := Nat.mul_le_mul hp ha
  refine ⟨P, p * a, downN p a, hP, by simp, hpa, by unfold downN; simp, ?_, ?_, by rw [← hP2]; omega⟩
  · rw [← Int.natCast_mul, hP2]; exact IntWalk.i64_in _ (by rw [← hP2]; omega)
  · rw [← Int.natCast_mul, hP2]; exact IntWalk.wrap64_in _ (by rw [← hP2]; omega)

set_option maxHeartbeats 4000000 in
theorem value_any (f : Fm) (hf : f.Wf) (c : Int) (hc : (Lit.int .i64 c).wf = true) (w : World) :
    Calls Try.prog 49 #[f.v, .int .i64 c] w fun e w' => e = .returned (.int .i64 (f.valI c)) ∧ Below w.heap.size w w' := by
  have AT := FmAt.box f w 23
  have bel := (Below.refl w.heap.size w).alloc (Nat.le_refl _) (.cells #[.int .i64 f.B, .int .i64 f.D, .bool f.big, .bool f.tr, .int .i64 f.rm, .int .i64 f.gm, .int .i64 f.bm, .int .i64 f.rs, .int .i64 f.gs, .int .i64 f.bs] 23)
  have hsz : (w.alloc (.cells #[.int .i64 f.B, .int .i64 f.D, .bool f.big, .bool f.tr, .int .i64 f.rm, .int .i64 f.gm, .int .i64 f.bm, .int .i64 f.rs, .int .i64 f.gs, .int .i64 f.bs] 23)).heap.size = w.heap.size + 1 := alloc_size _ _
  obtain ⟨w1, hw1⟩ : ∃ w1, w.alloc (.cells #[.int .i64 f.B, .int .i64 f.D, .bool f.big, .bool f.tr, .int .i64 f.rm, .int .i64 f.gm, .int .i64 f.bm, .int .i64 f.rs, .int .i64 f.gs, .int .i64 f.bs] 23) = w1 := ⟨_, rfl⟩
  rw [hw1] at AT bel hsz
  have HA := Lib.hid (fun W (hW : Below w1.heap.size w1 W) => AT.below hW (by omega))
  have V := Lib.hid (fun w => valid_any f hf w)
  have PT := Lib.hid (fun w => parts_any f w)
  have HVI : RowKit.Hid (f.valI c = if f.ok then ((f.val c : Nat) : Int) else 0) := Lib.hid rfl
  have HV : f.v = .agg #[.int .i64 f.B, .int .i64 f.D, .bool f.big, .bool f.tr, .int .i64 f.rm, .int .i64 f.gm, .int .i64 f.bm, .int .i64 f.rs, .int .i64 f.gs, .int .i64 f.bs] := rfl
  have HIS := Lib.hid (fun (h : f.ok = true) => f.is h)
  have HVE : RowKit.Hid (∀ k j l s t u n : Nat, f.Is k j l s t u n → f.val c = valueN k j l s t u (colZ c)) := Lib.hid (fun k j l s t u n H => H.val_eq c)
  have HPV : prtV f = .agg #[.int .i64 f.rm, .int .i64 f.rs, .int .i64 f.gm, .int .i64 f.gs, .int .i64 f.bm, .int .i64 f.bs] := rfl
  rw [HV] at V PT ⊢
  rw [HPV] at PT
  have BEL := Lib.hid bel
  have AT' := AT
  obtain ⟨c0, c1, c2, c3, c4, c5, c6, c7, c8, c9⟩ := AT'
  clear hf HV AT HPV
  generalize f.val c = VC at *
  generalize f.valI c = VI at *
  cases hok : f.ok with
  | false =>
    have hs := HVI.out
    rw [hok] at hs V
    simp only [Bool.false_eq_true, if_false] at hs
    have HZ := Lib.hid hs
    clear hs HVI HIS HVE hok PT
    go_enter Try.func49, Try.ntmps49
    go_wp2_with fail
    refine (V.out _).mono ?_
    rintro r w2 ⟨rfl, b2⟩
    have B2 := Lib.hid (BEL.out.trans (b2.mono BEL.out.size))
    clear b2 c0 c1 c2 c3 c4 c5 c6 c7 c8 c9
    go_wp2_with fail
    go_ret
    exact ⟨retI (by rw [HZ.out]), B2.out⟩
  | true =>
  obtain ⟨k, j, l, s, t, u, n, H⟩ := HIS.out hok
  have hs := HVI.out
  rw [hok] at hs V
  simp only [if_true] at hs
  rw [HVE.out _ _ _ _ _ _ _ H] at hs
  have hN := H.three.hn
  have s1 : s ≤ 32 := by have := H.three.hs; omega
  have s2 : t ≤ 32 := by have := H.three.ht; omega
  have s3 : u ≤ 32 := by have := H.three.hu; omega
  have hsum := sum_or H.three (a := downN (colZ c / 65536 % 256) (top k)) (b := downN (colZ c / 256 % 256) (top j)) (c := downN (colZ c % 256) (top l)) (down_le (byte_le _)) (down_le (byte_le _)) (down_le (byte_le _))
  obtain ⟨P0, X0, D0, g0, m0, x0, y0, z0, u0, l0⟩ := down_round (byte_le (colZ c)) (top_small H.hl.2) s3
  obtain ⟨P1, X1, D1, g1, m1, x1, y1, z1, u1, l1⟩ := down_round (byte_le (colZ c / 256)) (top_small H.hj.2) s2
  obtain ⟨P2, X2, D2, g2, m2, x2, y2, z2, u2, l2⟩ := down_round (byte_le (colZ c / 65536)) (top_small H.hk.2) s1
  obtain ⟨q2, q1, q0⟩ := colZ_parts c
  have hp0 := byte_le (colZ c)
  have hp1 := byte_le (colZ c / 256)
  have hp2 := byte_le (colZ c / 65536)
  have hval : VI = (downN (colZ c % 256) (top l) * 2 ^ u ||| downN (colZ c / 256 % 256) (top j) * 2 ^ t ||| downN (colZ c / 65536 % 256) (top k) * 2 ^ s : Nat) := by
    rw [hs]
    unfold valueN
    rw [hsum, Nat.or_comm (downN (colZ c / 65536 % 256) (top k) * 2 ^ s), Nat.or_comm, ← Nat.or_assoc]
  have HVAL := Lib.hid hval
  have tk := top_small H.hk.2
  have tj := top_small H.hj.2
  have tl := top_small H.hl.2
  have hf1 := H.rm
  have hf2 := H.gm
  have hf3 := H.bm
  have hf4 := H.rs
  have hf5 := H.gs
  have hf6 := H.bs
  clear hval hs hsum HVI HIS HVE hok H hN
  obtain ⟨B, D, big, tr, rm, gm, bm, rs, gs, bs⟩ := f
  simp only at *
  subst hf1 hf2 hf3 hf4 hf5 hf6
  generalize downN (colZ c % 256) (top l) * 2 ^ u = e0 at *
  generalize downN (colZ c / 256 % 256) (top j) * 2 ^ t = e1 at *
  generalize downN (colZ c / 65536 % 256) (top k) * 2 ^ s = e2 at *
  generalize colZ c % 256 = p0 at *
  generalize colZ c / 256 % 256 = p1 at *
  generalize colZ c / 65536 % 256 = p2 at *
  generalize top l = ml at *
  generalize top j = mj at *
  generalize top k = mk at *
  go_enter Try.func49, Try.ntmps49
  go_wp2_with fail
  refine (V.out _).mono ?_
  rintro r w2 ⟨rfl, b2⟩
  have B2 := Lib.hid (BEL.out.trans (b2.mono BEL.out.size))
  obtain ⟨c0, c1, c2, c3, c4, c5, c6, c7, c8, c9⟩ := HA.out _ b2
  clear b2 HA
  go_wp2_with fail
  refine (PT.out _).mono ?_
  rintro r w3 ⟨rfl, b3⟩
  have B3 := Lib.hid (B2.out.trans (b3.mono B2.out.size))
  clear b3 V PT c0 c1 c2 c3 c4 c5 c6 c7 c8 c9
  obtain ⟨bx, kx⟩ := box1 w3 #[.int .i64 mk, .int .i64 s, .int .i64 mj, .int .i64 t, .int .i64 ml, .int .i64 u] 53
  have hsz4 := alloc_size w3 (.cells #[.int .i64 mk, .int .i64 s, .int .i64 mj, .int .i64 t, .int .i64 ml, .int .i64 u] 53)
  have hW4 : ∃ W4, w3.alloc (.cells #[.int .i64 mk, .int .i64 s, .int .i64 mj, .int .i64 t, .int .i64 ml, .int .i64 u] 53) = W4 := ⟨_, rfl⟩
  have B4 := Lib.hid (B3.out.trans (bx.mono B3.out.size))
  have K := Lib.hid (fun i v (h : #[Value.int .i64 mk, .int .i64 s, .int .i64 mj, .int .i64 t, .int .i64 ml, .int .i64 u][i]? = some v) W' (hb : Below (w3.alloc (.cells #[.int .i64 mk, .int .i64 s, .int .i64 mj, .int .i64 t, .int .i64 ml, .int .i64 u] 53)).heap.size (w3.alloc (.cells #[.int .i64 mk, .int .i64 s, .int .i64 mj, .int .i64 t, .int .i64 ml, .int .i64 u] 53)) W') => (hb.cell (p := ⟨w3.heap.size, i, none⟩) (by rw [hsz4]; exact Nat.lt_succ_self _)).trans (kx i v h))
  clear kx bx hsz4
  go_wp2_with fail
  generalize w3.heap.size = g at *
  obtain ⟨W4, hW4⟩ := hW4
  rw [hW4] at B4 K ⊢
  clear hW4 hw1 hsz
  go_loopw [6, 15] (fun v i wr => Below W4.heap.size W4 wr ∧ ((i = .int .i64 0 ∧ v = .int .i64 0) ∨ (i = .int .i64 1 ∧ v = .int .i64 e0) ∨ (i = .int .i64 2 ∧ v = .int .i64 (e0 ||| e1 : Nat)) ∨ (i = .int .i64 3 ∧ v = .int .i64 (e0 ||| e1 ||| e2 : Nat)))) (fun _ i _ => 3 - (intOf i).toNat)
  case atStart => exact ⟨Below.refl _ _, .inl ⟨rfl, rfl⟩⟩
  case round =>
    obtain ⟨hbr, hj⟩ := hrel
    have HR := Lib.hid hbr
    have l01 : e0 ||| e1 < 2 ^ 62 := Nat.or_lt_two_pow l0 l1
    have o0 := i64_orN 0 e0 (by decide) l0
    have o1 := i64_orN e0 e1 l0 l1
    have o2 := i64_orN (e0 ||| e1) e2 l01 l2
    rw [Nat.zero_or] at o0
    have z := hbr.size
    clear l01 l0 l1 l2
    rcases hj with ⟨rfl, rfl⟩ | ⟨rfl, rfl⟩ | ⟨rfl, rfl⟩ | ⟨rfl, rfl⟩
    · have k4 := K.out 4 _ rfl wr hbr
      have k5 := K.out 5 _ rfl wr hbr
      clear hbr
      go_wp2_with fail
      exact ⟨⟨HR.out.alloc z _, .inr (.inl ⟨rfl, valN o0⟩)⟩, by simp [intOf]⟩
    · have k2 := K.out 2 _ rfl wr hbr
      have k3 := K.out 3 _ rfl wr hbr
      clear hbr
      go_wp2_with fail
      exact ⟨⟨HR.out.alloc z _, .inr (.inr (.inl ⟨rfl, rfl⟩))⟩, by simp [intOf]⟩
    · have k0 := K.out 0 _ rfl wr hbr
      have k1 := K.out 1 _ rfl wr hbr
      clear hbr
      go_wp2_with fail
      exact ⟨⟨HR.out.alloc z _, .inr (.inr (.inr ⟨rfl, rfl⟩))⟩, by simp [intOf]⟩
    · clear hbr
      go_wp2_with fail
      go_ret
      exact ⟨retI HVAL.out.symm, B4.out.trans (HR.out.mono B4.out.size)⟩
end Go.Proofs.Ytbdlmcpdplmdnaa.Fmt
