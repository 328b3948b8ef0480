/-
  PlainBack (layer 16): what is written is read again, what is left of the colours, whatever stands behind; with a byte less more is needed.
-/
import Derived.Test.YtbdlmcpdplmdnaaRows
import Derived.Test.YtbdlmcpdplmdnaaPlnWorks
import Derived.WalkKit
import Derived.ProofKit
import Derived.OpenShut
import Derived.ShutString
import Derived.ChangeOld
import Derived.Below
import Derived.Lib.SmallJoins
import Derived.Deep.Slices
namespace Go.Proofs.Ytbdlmcpdplmdnaa.plainBack
open Go.Proofs.Ytbdlmcpdplmdnaa.Pln
open Go.ChangeShapes Go.WideShapes Go.ChangeAt Go.RowKit
open Go.ChangeMaps (open_string shut_string)
set_option linter.unusedVariables false

theorem own : ownKnob Try.prog.godebug = none := by kernel_rfl
theorem laidOut : laidOutB Try.prog = true := by kernel_rfl

open Go.Proofs.Ytbdlmcpdplmdnaa.Fmt Go.Proofs.Ytbdlmcpdplmdnaa.RowG Go.Proofs.Ytbdlmcpdplmdnaa.RegVal Go.Proofs.Ytbdlmcpdplmdnaa.Lz
set_option maxRecDepth 100000
theorem get_pix {f : Fm} (h : f.ok = true) (c : Int) (rest : List UInt8) : getL f.big (((putB f c).data.toList ++ rest).take f.size) = ((f.val c : Nat) : Int) := by
  obtain ⟨k, j, l, s, t, u, n, H⟩ := f.is h
  obtain ⟨p1, p2, p3⟩ := put_back h ((f.val c : Nat) : Int) ⟨rest.toArray⟩
  have hp : putB f c = f.put ((f.val c : Nat) : Int) := by unfold putB Fm.valI; rw [if_pos h]
  have hv := (val_le H c).2.2
  have hB : f.B.toNat = n := by have := H.B; omega
  have hs : ¬ (f.put ((f.val c : Nat) : Int) ++ (⟨rest.toArray⟩ : ByteArray)).size < f.size := by rw [ByteArray.size_append, p3]; omega
  have e : f.get (f.put ((f.val c : Nat) : Int) ++ ⟨rest.toArray⟩) = getL f.big (((putB f c).data.toList ++ rest).take f.size) := by
    unfold Fm.get
    rw [if_pos h, if_neg hs, hp, ByteArray.data_append, Array.toList_append]
  rw [← e, p1, hB]
  have h2 : ((f.val c : Nat) : Int) < 2 ^ n := by exact_mod_cast hv
  exact Int.emod_eq_of_lt (by omega) h2
theorem px_raw {f : Fm} (h : f.ok = true) (L : List Int) (s : ByteArray) (tail : List UInt8) (hs : s.data.toList = rawB f L ++ tail) (j : Nat) (hj : j < L.length) : pxAt f s j = ((f.left (px L j) : Nat) : Int) := by
  have e : L = L.take j ++ px L j :: L.drop (j + 1) := by
    rw [px_get hj]
    exact (List.take_append_drop j L).symm.trans (by rw [List.drop_eq_getElem_cons hj])
  have hr : rawB f L = rawB f (L.take j) ++ ((putB f (px L j)).data.toList ++ rawB f (L.drop (j + 1))) := by
    have e2 : rawB f L = rawB f (L.take j ++ px L j :: L.drop (j + 1)) := congrArg (rawB f) e
    rw [e2]
    unfold rawB
    rw [List.flatMap_append, List.flatMap_cons]
  have hl : (rawB f (L.take j)).length = j * f.size := by rw [rawB_len, List.length_take, Nat.min_eq_left (by omega)]
  unfold pxAt
  rw [hs, hr, List.append_assoc, ← hl, List.drop_left, List.append_assoc, get_pix h]
  rfl
/-- What the regions' operations leave. -/
def pkA (F p r pp pr : Value) (i q c : Int) : Nat → Value
  | 0 => r
  | 1 => .int .i64 i
  | 2 => pr
  | 3 => .int .i64 q
  | 4 => F
  | 5 => p
  | 6 => .int .i64 i
  | 7 => pp
  | 8 => .int .i64 c
  | 9 => .int .i64 q
  | 10 => .bool false
  | _ => undef
def pkB (F x y s t : Value) (n m : Int) : Nat → Option Value
  | 0 => some F
  | 1 => some x
  | 2 => some y
  | 3 => some s
  | 4 => some (.int .i64 n)
  | 5 => some (.int .i64 m)
  | 6 => some t
  | 10 => some (.int .i64 0)
  | 11 => some (.int .i64 2)
  | 13 => some (.int .i64 0)
  | 14 => some (.int .i64 2)
  | _ => none
def pkR (i : Nat) (v : Value) (w : World) : Prop := i = 7 ∨ i = 8 → ∃ u, v = .tuple #[u, .int .i64 0, .int .i64 2]
set_option maxHeartbeats 8000000 in
theorem walk (f : Fm) (x y : Int) (a : Option Addr) (n cap : Nat) (L : List Int) (s : ByteArray) (W : World) (hf : f.Wf) (hx : (Lit.int .i64 x).wf = true) (hy : (Lit.int .i64 y).wf = true) (hL : SW W (.slice a n cap) L ∧ L.length ≤ maxLen ∧ L.length = n ∧ (∀ x ∈ L, (Lit.int .i64 x).wf = true) ∧ Room (.slice a n cap)) (hs : s.size ≤ maxLen) :
    Calls Try.prog 5 #[f.v, .int .i64 x, .int .i64 y, .slice a n cap, .string s] W fun e w' => e = .returned (.bool true) ∧ Below W.heap.size W w' := by
  unfold maxLen at hs
  obtain ⟨hsw, hmx, hn, hwf, _⟩ := hL
  unfold maxLen at hmx
  have V0 := Lib.hid works_any
  have V4 := Lib.hid (fun w => fits_any f hf x y w)
  have hv : f.v = .agg #[.int .i64 f.B, .int .i64 f.D, .bool f.big, .bool f.tr, .int .i64 f.rm, .int .i64 f.gm, .int .i64 f.bm, .int .i64 f.rs, .int .i64 f.gs, .int .i64 f.bs] := rfl
  have bel := (Below.refl W.heap.size W).alloc (Nat.le_refl _) (.cells #[.int .i64 f.B, .int .i64 f.D, .bool f.big, .bool f.tr, .int .i64 f.rm, .int .i64 f.gm, .int .i64 f.bm, .int .i64 f.rs, .int .i64 f.gs, .int .i64 f.bs] 23)
  have z0 := Pln.alloc_size W (.cells #[.int .i64 f.B, .int .i64 f.D, .bool f.big, .bool f.tr, .int .i64 f.rm, .int .i64 f.gm, .int .i64 f.bm, .int .i64 f.rs, .int .i64 f.gs, .int .i64 f.bs] 23)
  have AT := FmAt.box f W 23
  obtain ⟨n0, hn0⟩ : ∃ n0, W.heap.size = n0 := ⟨_, rfl⟩
  rw [hn0] at z0 AT bel
  obtain ⟨w0, hw0⟩ : ∃ w0, W.alloc (.cells #[.int .i64 f.B, .int .i64 f.D, .bool f.big, .bool f.tr, .int .i64 f.rm, .int .i64 f.gm, .int .i64 f.bm, .int .i64 f.rs, .int .i64 f.gs, .int .i64 f.bs] 23) = w0 := ⟨_, rfl⟩
  rw [hw0] at bel z0 AT
  have HA := Lib.hid (fun W' (h : Below w0.heap.size w0 W') => AT.below h (by omega))
  have HS := Lib.hid (fun W' (h : Below w0.heap.size w0 W') => hsw.below (by rw [hn0]; exact bel.trans (h.mono (by omega))))
  have HB := Lib.hid (fun W' (h : Below w0.heap.size w0 W') => (bel.trans (h.mono (by omega)) : Below n0 W W'))
  have q0 := Below.refl w0.heap.size w0
  rw [hn0]
  by_cases h1 : 400 < n
  · rw [hv]
    have g1 : decide ((400 : Int) < n) = true := decide_eq_true (by omega)
    have g2 : decide (400 < n) = true := decide_eq_true h1
    go_enter Try.func5, Try.ntmps5
    go_wp2_with fail
    refine (V0.out _).mono ?_
    rintro r w1 ⟨rfl, b1⟩
    have B1 := Lib.hid (HB.out _ b1)
    clear b1
    go_wp2_with fail
    go_ret
    exact ⟨rfl, B1.out⟩
  have g1 : decide ((400 : Int) < n) = false := decide_eq_false (by omega)
  have g2 : decide (400 < n) = false := decide_eq_false h1
  by_cases h2 : 400 < s.size
  · rw [hv]
    have g3 : decide ((400 : Int) < s.size) = true := decide_eq_true (by omega)
    have g4 : decide (400 < s.size) = true := decide_eq_true h2
    go_enter Try.func5, Try.ntmps5
    go_wp2_with fail
    refine (V0.out _).mono ?_
    rintro r w1 ⟨rfl, b1⟩
    have B1 := Lib.hid (HB.out _ b1)
    clear b1
    go_wp2_with fail
    go_ret
    exact ⟨rfl, B1.out⟩
  have g3 : decide ((400 : Int) < s.size) = false := decide_eq_false (by omega)
  have g4 : decide (400 < s.size) = false := decide_eq_false h2
  cases hfit : fitsB f x y with
  | false =>
    rw [hfit] at V4
    rw [hv] at V4 ⊢
    clear hf hx hy hv AT bel hsw hwf hfit
    obtain ⟨B, D, big, tr, rm, gm, bm, rs, gs, bs⟩ := f
    simp only at *
    go_enter Try.func5, Try.ntmps5
    go_wp2_with fail
    refine (V0.out _).mono ?_
    rintro r w1 ⟨rfl, b1⟩
    have Q1 := Lib.hid (q0.trans (b1.mono q0.size))
    clear b1 q0 V0
    obtain ⟨d0, d1, d2, d3, d4, d5, d6, d7, d8, d9⟩ := HA.out _ Q1.out
    dsimp only at d0 d1 d2 d3 d4 d5 d6 d7 d8 d9
    go_wp2_with fail
    refine (V4.out _).mono ?_
    rintro r w2 ⟨rfl, b2⟩
    have B2 := Lib.hid (HB.out _ (Q1.out.trans (b2.mono Q1.out.size)))
    clear b2
    go_wp2_with fail
    go_ret
    exact ⟨rfl, B2.out⟩
  | true =>
  have hok : f.ok = true := by
    have := hfit
    unfold fitsB at this
    simp only [Bool.and_eq_true] at this
    exact this.1.1.1.1
  have hxy : 0 ≤ x ∧ x ≤ 4096 ∧ 0 ≤ y ∧ y ≤ 4096 := by
    have := hfit
    unfold fitsB at this
    simp only [Bool.and_eq_true, decide_eq_true_eq] at this
    exact ⟨this.1.1.1.2, this.1.1.2, this.1.2, this.2⟩
  have hM0 : 0 ≤ x * y := Int.mul_nonneg hxy.1 hxy.2.2.1
  have hM1 : x * y ≤ 4096 * 4096 := Int.mul_le_mul hxy.2.1 hxy.2.2.2 hxy.2.2.1 (by decide)
  obtain ⟨XY, hXY⟩ : ∃ XY, x * y = XY := ⟨_, rfl⟩
  have wXY : IntKind.i64.wrap (x * y) = XY := (IntWalk.i64_in _ (by omega)).trans hXY
  rw [hXY] at hM0 hM1
  by_cases hne : (n : Int) = XY
  case neg =>
    have k1 : ((n : Int) != XY) = true := by simp [hne]
    have k2 : ((n : Int) == XY) = false := by simp [hne]
    rw [hfit] at V4
    rw [hv] at V4 ⊢
    clear hf hx hy hv AT bel hsw hwf hfit hok hM0 hM1 hne hXY
    obtain ⟨B, D, big, tr, rm, gm, bm, rs, gs, bs⟩ := f
    simp only at *
    go_enter Try.func5, Try.ntmps5
    go_wp2_with fail
    refine (V0.out _).mono ?_
    rintro r w1 ⟨rfl, b1⟩
    have Q1 := Lib.hid (q0.trans (b1.mono q0.size))
    clear b1 q0 V0
    obtain ⟨d0, d1, d2, d3, d4, d5, d6, d7, d8, d9⟩ := HA.out _ Q1.out
    dsimp only at d0 d1 d2 d3 d4 d5 d6 d7 d8 d9
    go_wp2_with fail
    refine (V4.out _).mono ?_
    rintro r w2 ⟨rfl, b2⟩
    have B2 := Lib.hid (HB.out _ (Q1.out.trans (b2.mono Q1.out.size)))
    clear b2
    go_wp2_with fail
    go_ret
    exact ⟨rfl, B2.out⟩
  have hn4 : n ≤ 400 := by omega
  have hXn : (x * y).toNat = n := by rw [hXY]; omega
  have hs1 := ((size_le4 f).2.1 hok).1
  have hs4 := (size_le4 f).1
  obtain ⟨m, hm⟩ : ∃ m, n * f.size = m := ⟨_, rfl⟩
  have hm16 : m ≤ 1600 := by rw [← hm]; exact Nat.le_trans (Nat.mul_le_mul hn4 hs4) (by decide)
  have hrl : (rawB f L).length = m := by rw [rawB_len, hn, hm]
  obtain ⟨R, hR⟩ : ∃ R, (⟨(rawB f L).toArray⟩ : ByteArray) = R := ⟨_, rfl⟩
  have hRs : R.size = m := by rw [← hR]; show (rawB f L).toArray.size = _; simp [hrl]
  have hRd : R.data.toList = rawB f L := by rw [← hR]
  have VA := Lib.hid (fun w h => raw_any f hf (.slice a n cap) L w h hwf (by omega))
  rw [hR] at VA
  obtain ⟨RT, hRT⟩ : ∃ RT, R ++ s = RT := ⟨_, rfl⟩
  have hRTs : RT.size = m + s.size := by rw [← hRT, ByteArray.size_append, hRs]
  have hadd : ∀ W : World, (Op.stringOp .add R s).run Try.prog W = .ok (.string RT) W := fun W => by rw [run_string_add_sum W _ _ (by omega), hRT]
  have VB := Lib.hid (fun w => rawOf_any f hf x y hx hy RT (by omega) w)
  have eE : rawE f x y RT = 0 := by unfold rawE; rw [if_pos hfit, hXn, hm, if_neg (by omega)]
  have eN : rawN f x y RT = (m : Int) := by unfold rawN; rw [if_pos eE, hXn, hm]
  have eP : rawP f x y RT = L.map (fun c => ((f.left c : Nat) : Int)) := by
    unfold rawP
    rw [if_pos eE, hXn]
    apply row_ext
    · rw [gen_length, List.length_map, hn]
    · intro j hj
      rw [gen_length] at hj
      rw [px_gen hj, px_raw hok L RT s.data.toList (by rw [← hRT, ByteArray.data_append, Array.toList_append, hRd]) j (by omega), px_get (by omega), px_get (by rw [List.length_map]; omega)]
      simp
  rw [eE, eN, eP] at VB
  obtain ⟨P, hP⟩ : ∃ P, L.map (fun c => ((f.left c : Nat) : Int)) = P := ⟨_, rfl⟩
  have hPl : P.length = n := by rw [← hP, List.length_map, hn]
  have hPx : ∀ j, j < n → px P j = f.leftI (px L j) := fun j hj => by
    rw [← hP, px_get (by rw [List.length_map]; omega), px_get (by omega)]
    unfold Fm.leftI
    rw [if_pos hok]
    simp
  rw [hP] at VB
  have VQ := Lib.hid (fun (j : Nat) (hj : j < n) w => by
    have := quant_any f hf (px L j) (hwf _ (by rw [px_get (by omega)]; exact List.getElem_mem _)) w
    rw [← hPx j hj] at this
    exact this)
  have VS := Lib.hid (fun w => size_any f hf w)
  have VD := Lib.hid (fun (t : ByteArray) (ht : t.size ≤ 1600) (hlt : t.size < m) w => by
    have := rawOf_any f hf x y hx hy t (by omega) w
    have e1 : rawE f x y t = 2 := by unfold rawE; rw [if_pos hfit, hXn, hm, if_pos hlt]
    have e2 : rawN f x y t = 0 := by unfold rawN; rw [e1]; rfl
    rw [e1, e2] at this
    exact this)
  have HPX := Lib.hid hPl
  have wm : IntKind.i64.wrap (XY * (f.size : Nat)) = (m : Int) := by
    rw [← hne, show ((n : Int) * (f.size : Nat)) = (m : Int) by rw [← hm]; rfl]
    exact IntWalk.i64_in _ (by omega)
  have HLN := Lib.hid hn
  rw [hfit] at V4
  rw [hv] at VA VB VQ VS VD V4 ⊢
  generalize f.size = sz at *
  subst hne
  have k1 : ((n : Int) != n) = false := by simp
  clear hf hx hy hv AT bel hsw hwf hfit hok hM0 hM1 hxy hXn hs1 hs4 hm hrl hR hRd hRT hRTs eE eN eP hP hPx hPl hXY hn hmx h1 h2
  obtain ⟨B, D, big, tr, rm, gm, bm, rs, gs, bs⟩ := f
  simp only at *
  go_enter Try.func5, Try.ntmps5
  go_wp2_with fail
  refine (V0.out _).mono ?_
  rintro r w1 ⟨rfl, b1⟩
  have Q1 := Lib.hid (q0.trans (b1.mono q0.size))
  clear b1 q0 V0
  obtain ⟨d0, d1, d2, d3, d4, d5, d6, d7, d8, d9⟩ := HA.out _ Q1.out
  dsimp only at d0 d1 d2 d3 d4 d5 d6 d7 d8 d9
  go_wp2_with fail
  refine (V4.out _).mono ?_
  rintro r w2 ⟨rfl, b2⟩
  have Q2 := Lib.hid (Q1.out.trans (b2.mono Q1.out.size))
  clear b2 Q1 V4 d0 d1 d2 d3 d4 d5 d6 d7 d8 d9
  obtain ⟨d0, d1, d2, d3, d4, d5, d6, d7, d8, d9⟩ := HA.out _ Q2.out
  dsimp only at d0 d1 d2 d3 d4 d5 d6 d7 d8 d9
  go_wp2_with fail
  refine (VA.out _ (HS.out _ Q2.out)).mono ?_
  rintro r w3 ⟨rfl, b3⟩
  have Q3 := Lib.hid (Q2.out.trans (b3.mono Q2.out.size))
  clear b3 Q2 VA d0 d1 d2 d3 d4 d5 d6 d7 d8 d9
  obtain ⟨d0, d1, d2, d3, d4, d5, d6, d7, d8, d9⟩ := HA.out _ Q3.out
  dsimp only at d0 d1 d2 d3 d4 d5 d6 d7 d8 d9
  go_wp2_with fail
  refine (VB.out _).mono ?_
  rintro r w4 ⟨u, rfl, h4, b4⟩
  obtain ⟨p4, c4, hv4⟩ := RowAt.shape h4
  rw [HPX.out] at hv4
  subst hv4
  have Q4 := Lib.hid (Q3.out.trans (b4.mono Q3.out.size))
  have S4 := Lib.hid (IntsAt.si h4).sw
  clear b4 h4 Q3 VB hadd d0 d1 d2 d3 d4 d5 d6 d7 d8 d9
  obtain ⟨d0, d1, d2, d3, d4, d5, d6, d7, d8, d9⟩ := HA.out _ Q4.out
  dsimp only at d0 d1 d2 d3 d4 d5 d6 d7 d8 d9
  go_wp2_with fail
  refine (VS.out _).mono ?_
  rintro r w5 ⟨rfl, b5⟩
  have Q5 := Lib.hid (Q4.out.trans (b5.mono Q4.out.size))
  have S5 := Lib.hid (S4.out.below b5)
  clear b5 Q4 S4 VS d0 d1 d2 d3 d4 d5 d6 d7 d8 d9
  go_wp2_with fail
  go_loopw [16] (fun v wr => ∃ k : Nat, k ≤ n ∧ v = .int .i64 (k : Nat) ∧ Below w5.heap.size w5 wr) (fun v _ => n - (intOf v).toNat)
  case atStart => exact ⟨0, Nat.zero_le _, rfl, Below.refl _ _⟩
  case round =>
    obtain ⟨k, hk, rfl, hb⟩ := hrel
    by_cases hlt : k < n
    · have j1 : decide ((k : Int) < n) = true := decide_eq_true (by omega)
      have j2 : decide (k < n) = true := decide_eq_true hlt
      have HZ := Lib.hid hb
      have q5s := Q5.out.size
      have sP := (S5.out.below hb).cells
      have sL := (HS.out _ (Q5.out.trans (hb.mono q5s))).cells
      rw [HPX.out] at sP
      rw [HLN.out] at sL
      obtain ⟨a1, c1, e1, hc1⟩ := sP
      obtain ⟨gp, op, rfl, _, hcp⟩ := hc1 (by omega)
      obtain ⟨a2, c2, e2, hc2⟩ := sL
      obtain ⟨gl, ol, rfl, _, hcl⟩ := hc2 (by omega)
      have ep : p4 = some ⟨gp, op, none⟩ := by
        simp only [Value.slice.injEq] at e1
        exact e1.1
      have el : a = some ⟨gl, ol, none⟩ := by
        simp only [Value.slice.injEq] at e2
        exact e2.1
      subst ep el
      have CP := Lib.hid (fun W' (h : Below wr.heap.size wr W') => (h.cell (p := ⟨gp, op + k, none⟩) (World.block_lt_of_cell? wr _ (hcp k hlt))).trans (hcp k hlt))
      have CL := Lib.hid (fun W' (h : Below wr.heap.size wr W') => (h.cell (p := ⟨gl, ol + k, none⟩) (World.block_lt_of_cell? wr _ (hcl k hlt))).trans (hcl k hlt))
      have Q1 := Lib.hid (VQ.out k hlt)
      generalize px P k = q at *
      generalize px L k = c at *
      have HLT := Lib.hid hlt
      clear hc1 hc2 hcp hcl e1 e2 hb
      go_wp2_with fail
      refine region_all (by kernel_rfl) (pkA (.agg #[.int .i64 B, .int .i64 D, .bool big, .bool tr, .int .i64 rm, .int .i64 gm, .int .i64 bm, .int .i64 rs, .int .i64 gs, .int .i64 bs]) (.slice (some ⟨gl, ol, none⟩) n cap) (.slice (some ⟨gp, op, none⟩) n c4) (.pointer (some ⟨gl, ol + k, none⟩)) (.pointer (some ⟨gp, op + k, none⟩)) (k : Nat) q c) (fun W' => Below wr.heap.size wr W') [3, 5, 13, 16] [none, none, none, none, none, none, none, none, none, none, none, none, none, none, none, none, none, none, none, none, none, none, none, none, none, none, none, none, none, none, none, none, none, none, none, none, none, none, none, none, none, none, none, none, none, none, none, none, none, none, none, none, none, none, none, none, none, none, none, none, none, none, none, none, none, none, none, none, none, none, none, none, none, none, none, none, none, none, none, none, none, none, none, none, none, none, none, none, none, none, none, none, some 0, some 1, some 2, some 3, some 4, some 5, some 6, some 7, some 8, some 9, some 10, none, none, none, none, none, none, none, none, none, none, none, none, none, none, none, none, none, none, none, none, none, none, none, none] (by kernel_rfl) (by kernel_rfl) (by rfl) (by kernel_rfl) (by kernel_rfl) (by kernel_rfl) ((Below.refl _ _).drew) ⟨?_, ?_, ?_, ?_, ?_, ?_, ?_, ?_, ?_, ?_, ?_, trivial⟩ ?_
      case refine_12 =>
        intro W6 hS6
        have HZ6 := Lib.hid (HZ.out.trans (hS6.mono HZ.out.size))
        clear hS6
        simp only [zipF, pkA]
        go_wp2_with fail
        refine ⟨⟨k + 1, HLT.out, by go_num, HZ6.out⟩, ?_⟩
        have := HLT.out
        simp [intOf]
        omega
      all_goals
        intro ℓ act Wd hl hS hw hr hd
        obtain ⟨d0, d1, d2, d3, d4, d5, d6, d7, d8, d9⟩ := HA.out _ (Q5.out.trans ((HZ.out.trans (hS.mono HZ.out.size)).mono q5s))
        dsimp only at d0 d1 d2 d3 d4 d5 d6 d7 d8 d9
        have cp := CP.out Wd hS
        have cl := CL.out Wd hS
        clear hw
        simp [readFacts, depFacts, dstOf, Region.binds, pkA] at hr hd
        refine ⟨wanted_none (by rfl), fun K hK => ?_⟩
        go_simp
        first
          | exact hK _ hS
          | (with_reducible refine (Q1.out _).mono ?_
             rintro r w' ⟨rfl, b⟩
             exact hK _ (hS.trans (b.mono hS.size)))
    · obtain rfl : k = n := by omega
      have j1 : decide ((k : Int) < k) = false := decide_eq_false (by omega)
      have j2 : decide (k < k) = false := decide_eq_false (by omega)
      have Q6 := Lib.hid (Q5.out.trans (hb.mono Q5.out.size))
      clear hb VQ S5 Q5
      by_cases hm0 : m = 0
      · subst hm0
        go_wp2_with fail
        go_ret
        exact ⟨rfl, HB.out _ Q6.out⟩
      · have m1 : ((m : Int) == 0) = false := by simp [hm0]
        have m2 : (m == 0) = false := by simp [hm0]
        obtain ⟨m', hm'⟩ : ∃ m', m - 1 = m' := ⟨_, rfl⟩
        have wm1 : IntKind.i64.wrap ((m : Int) - 1) = (m' : Int) := (IntWalk.i64_in _ (by omega)).trans (by omega)
        obtain ⟨SH, hSH⟩ : ∃ SH, R.extract 0 m' = SH := ⟨_, rfl⟩
        obtain ⟨x1, x2⟩ := ext_take R m' (by omega)
        rw [hSH] at x2
        have D1 := Lib.hid (VD.out SH (by omega) (by omega))
        have le1 : (m' : Int) ≤ R.size := by omega
        have le2 : m' ≤ R.size := by omega
        have le3 : m' ≤ m := by omega
        have le4 : (m' : Int) ≤ (m : Int) := by omega
        have q6s := Q6.out.size
        clear VD x1 x2
        go_wp2_with fail
        refine region_preds (by kernel_rfl) (pkB (.agg #[.int .i64 B, .int .i64 D, .bool big, .bool tr, .int .i64 rm, .int .i64 gm, .int .i64 bm, .int .i64 rs, .int .i64 gs, .int .i64 bs]) (.int .i64 x) (.int .i64 y) (.string R) (.string SH) m m') (fun i v w => pkR i v w) (fun _ W' => Below wr.heap.size wr W') [1, 2, 5, 12, 14] [none, none, none, none, none, none, none, none, none, none, none, none, none, none, none, none, none, some 12, some 13, some 14, none, none, none, none, none, none, none, none, none, none, none, none, none, none, none, none, none, none, none, none, none, none, none, none, none, none, none, none, none, none, none, none, none, none, none, none, none, none, none, none, none, none, none, none, none, none, none, none, none, none, none, none, none, none, none, none, none, none, none, none, none, none, none, none, none, none, none, none, none, none, none, none, none, none, none, none, none, none, none, none, none, none, none, none, none, none, some 8, some 0, some 1, some 2, some 3, some 4, some 5, some 6, some 7, some 9, some 10, some 11, none, none, none, none, none, none, none, none, none] (by kernel_rfl) (by kernel_rfl) (by rfl) (by kernel_rfl) (by kernel_rfl) (by kernel_rfl) ((Below.refl _ _).drew) ⟨?_, ?_, ?_, ?_, ?_, ?_, ?_, ?_, ?_, ?_, ?_, ?_, ?_, ?_, ?_, trivial⟩ ?_
        case refine_16 =>
          intro vs ℓ W7 hl hS hR
          have B7 := Lib.hid (HB.out _ (Q6.out.trans (hS.mono q6s)))
          clear hR hl hS D1
          simp only [zipF, pkB, Option.getD_some, Option.getD_none]
          generalize vs 7 = u7 at *
          generalize vs 8 = u8 at *
          generalize vs 9 = u9 at *
          generalize vs 12 = u12 at *
          go_wp2_with fail
          go_ret
          exact ⟨rfl, B7.out⟩
        case refine_8 =>
          intro ℓ act W9 hl hS hw hx hr hd
          clear hw hx
          simp [readFacts, depFactsP, dstOf, Region.binds, pkB] at hr hd
          refine ⟨wanted_none (by rfl), fun K hK => ?_⟩
          go_simp
          refine (D1.out _).mono ?_
          rintro r w' ⟨u, rfl, _, b⟩
          exact hK _ _ (show pkR 7 _ w' from fun _ => ⟨u, rfl⟩) (hS.trans (b.mono hS.size)) (fun _ _ _ _ h => h)
        case refine_9 =>
          intro ℓ act W9 hl hS hw hx hr hd
          clear hw hx
          simp [readFacts, depFactsP, dstOf, Region.binds, pkB] at hr hd
          refine ⟨wanted_none (by rfl), fun K hK => ?_⟩
          obtain ⟨v, e1, y1⟩ := hd
          obtain ⟨u, rfl⟩ := y1 (.inl rfl)
          go_simp
          exact hK _ _ (show pkR 8 _ W9 from fun _ => ⟨u, rfl⟩) hS (fun _ _ _ _ h => h)
        case refine_10 =>
          intro ℓ act W9 hl hS hw hx hr hd
          clear hw hx
          simp [readFacts, depFactsP, dstOf, Region.binds, pkB] at hr hd
          refine ⟨wanted_none (by rfl), fun K hK => ?_⟩
          obtain ⟨v, e1, y1⟩ := hd
          obtain ⟨u, rfl⟩ := y1 (.inr rfl)
          go_simp
          exact hK _ _ (show pkR 9 _ W9 from fun h => by omega) hS (fun _ _ _ _ h => h)
        case refine_11 =>
          intro ℓ act W9 hl hS hw hx hr hd
          clear hw hx
          simp [readFacts, depFactsP, dstOf, Region.binds, pkB] at hr hd
          refine ⟨wanted_none (by rfl), fun K hK => ?_⟩
          obtain ⟨v, e1, y1⟩ := hd
          obtain ⟨u, rfl⟩ := y1 (.inr rfl)
          go_simp
          exact hK _ _ rfl hS (fun _ _ _ _ h => h)
        case refine_12 =>
          intro ℓ act W9 hl hS hw hx hr hd
          clear hw hx
          simp [readFacts, depFactsP, dstOf, Region.binds, pkB] at hr hd
          refine ⟨wanted_none (by rfl), fun K hK => ?_⟩
          obtain ⟨v, e1, y1⟩ := hd
          obtain ⟨u, rfl⟩ := y1 (.inr rfl)
          go_simp
          exact hK _ _ rfl hS (fun _ _ _ _ h => h)
        case refine_13 =>
          intro ℓ act W9 hl hS hw hx hr hd
          clear hw hx
          simp [readFacts, depFactsP, dstOf, Region.binds, pkB] at hr hd
          refine ⟨wanted_none (by rfl), fun K hK => ?_⟩
          obtain ⟨⟨v, e1, y1⟩, hd2⟩ := hd
          clear hd2 y1
          go_simp
          exact hK _ _ (show pkR 12 _ W9 from fun h => by omega) hS (fun _ _ _ _ h => h)
        all_goals
          intro ℓ act W9 hl hS hw hx hr hd
          clear hw hx
          obtain ⟨d0, d1, d2, d3, d4, d5, d6, d7, d8, d9⟩ := HA.out _ (Q6.out.trans (hS.mono q6s))
          dsimp only at d0 d1 d2 d3 d4 d5 d6 d7 d8 d9
          simp [readFacts, depFactsP, dstOf, Region.binds, pkB] at hr hd
          refine ⟨wanted_none (by rfl), fun K hK => ?_⟩
          go_simp
          exact hK _ _ rfl hS (fun _ _ _ _ h => h)

set_option maxRecDepth 100000 in
theorem lifted (os : Os) (started : os.Started) (H : Type) (enc : TypeId × Value → H) :
    ReturnsInHanded {} Try.checked os 5 .any (Rows.plainBackSpec.pre6 enc Try.prog Try.f5 Rows.plainBackRow.domain false) (Rows.plainBackSpec.post enc Try.prog Try.f5 false true false false) := by
  refine returnsInHanded_of_change (C := Try.checked) own started (by kernel_rfl) Try.func5
    (ChangeSpec.witness6 (enc := enc) (C := Try.checked) false ⟨#[], #[.agg #[.int .i64 0, .int .i64 0, .bool false, .bool false, .int .i64 0, .int .i64 0, .int .i64 0, .int .i64 0, .int .i64 0, .int .i64 0], .int .i64 0, .int .i64 0, .slice none 0 0, .string ByteArray.empty], []⟩ 8 (by kernel_rfl) (by kernel_rfl) (by kernel_rfl) (by kernel_rfl)) ?_
  intro W base args ds gs before hval0 hW hcnd _
  have hval : ∀ (j : Nat) t v, Try.f5.params[j]? = some t → args[j]? = some v → Value.okWide Try.prog W .any base t v := hval0
  have hW' := hW
  obtain ⟨p, q, hA0, hV, rfl, hfz, hnd⟩ := hW
  have hA : DataW.TrodAll enc Try.prog W 0 (fun _ => true) true Try.f5.params.toList args.toList ds p := hA0
  rw [Try.params5] at hA hval
  obtain ⟨v0, vs0, d0, ds0, p0, q0, hargs, rfl, rfl, h0, r0⟩ := trodAll_cons hA
  obtain ⟨v1, vs1, d1, ds1, p1, q1, rfl, rfl, rfl, h1, r1⟩ := trodAll_cons r0
  obtain ⟨v2, vs2, d2, ds2, p2, q2, rfl, rfl, rfl, h2, r2⟩ := trodAll_cons r1
  obtain ⟨v3, vs3, d3, ds3, p3, q3, rfl, rfl, rfl, h3, r3⟩ := trodAll_cons r2
  obtain ⟨v4, vs4, d4, ds4, p4, q4, rfl, rfl, rfl, h4, r4⟩ := trodAll_cons r3
  obtain ⟨rfl, rfl, rfl⟩ := trodAll_nil r4
  obtain rfl : args = #[v0, v1, v2, v3, v4] := by cases args; simp_all
  obtain ⟨rfl, rfl⟩ := trodVars_none hV
  have k0 := h0
  have lt0 : ∀ x ∈ p0, x.block < W.heap.size := by obtain ⟨m, hm⟩ := k0; exact DataW.trod_lt m _ _ _ hm
  obtain ⟨a0, rfl, w0⟩ := fmt_see (hval 0 23 v0 rfl rfl) h0
  have k1 := h1
  have lt1 : ∀ x ∈ p1, x.block < W.heap.size := by obtain ⟨m, hm⟩ := k1; exact DataW.trod_lt m _ _ _ hm
  obtain ⟨a1, rfl, rfl, rfl, w1⟩ := open_int Try.underlying3 (hval 1 3 v1 rfl rfl) h1
  have k2 := h2
  have lt2 : ∀ x ∈ p2, x.block < W.heap.size := by obtain ⟨m, hm⟩ := k2; exact DataW.trod_lt m _ _ _ hm
  obtain ⟨a2, rfl, rfl, rfl, w2⟩ := open_int Try.underlying3 (hval 2 3 v2 rfl rfl) h2
  have k3 := h3
  have lt3 : ∀ x ∈ p3, x.block < W.heap.size := by obtain ⟨m, hm⟩ := k3; exact DataW.trod_lt m _ _ _ hm
  obtain ⟨a3, len3, cap3, rfl⟩ := okWide_slice Try.underlying24 (hval 3 24 v3 rfl rfl)
  obtain ⟨A3, w3⟩ := ints_si h3
  have k4 := h4
  have lt4 : ∀ x ∈ p4, x.block < W.heap.size := by obtain ⟨m, hm⟩ := k4; exact DataW.trod_lt m _ _ _ hm
  obtain ⟨a4, rfl, rfl, rfl, w4⟩ := open_string Try.underlying9 (hval 4 9 v4 rfl rfl) h4
  clear hA0 hval0
  refine (walk a0 a1 a2 a3 len3 cap3 A3 a4 W w0 w1 w2 w3 w4).mono fun e W' ⟨he, bel⟩ => ?_
  subst he
  exact ⟨_, rfl, _, _, _, [], _, [], hW', trodAll_mk1 (shut_bool Try.underlying4 _), (trodAll_cons_mk (Below.trod laidOut (by kernel_rfl) (of_decide_eq_true (by kernel_rfl)) k0 bel lt0) (trodAll_cons_mk (Below.trod laidOut (by kernel_rfl) (of_decide_eq_true (by kernel_rfl)) k1 bel lt1) (trodAll_cons_mk (Below.trod laidOut (by kernel_rfl) (of_decide_eq_true (by kernel_rfl)) k2 bel lt2) (trodAll_cons_mk (Below.trod laidOut (by kernel_rfl) (of_decide_eq_true (by kernel_rfl)) k3 bel lt3) (trodAll_cons_mk (Below.trod laidOut (by kernel_rfl) (of_decide_eq_true (by kernel_rfl)) k4 bel lt4) trodAll_mk0))))), rfl, bel.frame _, fun h => by cases h⟩

theorem over : Rows.plainBackRow.holds Try.pinned (OpenSpec.ofChange Rows.plainBackSpec) :=
  OpenClaim.holds_of_wide 5 Try.f5 rfl rfl rfl rfl rfl rfl rfl ⟨rfl, rfl, rfl, rfl, rfl⟩ rfl rfl rfl rfl rfl (by kernel_rfl) Try.func5 (by kernel_rfl)
    (of_decide_eq_true (by kernel_rfl)) (by unfold Func.isWrapper; first | (rw [if_pos (by decide +kernel)]; kernel_rfl) | (rw [if_neg (by decide +kernel)]; exact ⟨rfl, rfl⟩))
    (fun os started H enc _ => lifted os started H enc)

theorem proved : Rows.PlainBackSaid := over
end Go.Proofs.Ytbdlmcpdplmdnaa.plainBack
