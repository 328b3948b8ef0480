/-
  PlainGlue (layer 16): colours one behind the other are their bytes one behind the other; values of colours that are left are the same values.
-/
import Derived.Test.YtbdlmcpdplmdnaaRows
import Derived.Test.YtbdlmcpdplmdnaaPlnWorks
import Derived.WalkKit
import Derived.ProofKit
import Derived.OpenShut
import Derived.ShutString
import Derived.ChangeOld
import Derived.Below
import Derived.Lib.SmallJoins
import Derived.Deep.Slices
namespace Go.Proofs.Ytbdlmcpdplmdnaa.plainGlue
open Go.Proofs.Ytbdlmcpdplmdnaa.Pln
open Go.ChangeShapes Go.WideShapes Go.ChangeAt Go.RowKit
open Go.ChangeMaps (open_string shut_string)
set_option linter.unusedVariables false

theorem own : ownKnob Try.prog.godebug = none := by kernel_rfl
theorem laidOut : laidOutB Try.prog = true := by kernel_rfl

open Go.Proofs.Ytbdlmcpdplmdnaa.Fmt Go.Proofs.Ytbdlmcpdplmdnaa.RowG Go.Proofs.Ytbdlmcpdplmdnaa.RegVal Go.Proofs.Ytbdlmcpdplmdnaa.Lz
set_option maxRecDepth 100000
/-- 'append' of a row of numbers that is read. -/
theorem wpl_ints {w : World} {ops : Array Oper} {rest : List Oper} {o : Oper} {a : Act} {Q : Exit → Act → World → Prop} (hgd : o.guard = none) (s x : Operand)
    (ho : o.op = .call { callee := .builtin .append, args := #[s, x], argTypes := #[24, 24] })
    (v : Value) (B : Nat) (l : List Int) (hs : a.eval s = v) (hown : IntsAt B w v l) (hB : B ≤ w.heap.size) (u : Value) (m : List Int) (hx : a.eval x = u) (hm : SW w u m) (hl : l.length + m.length ≤ 1000000000)
    (h : ∀ v' w', IntsAt B w' v' (l ++ m) → Below B w w' → wpList Try.prog ops Q rest (a.put o.dst v') w') : wpList Try.prog ops Q (o :: rest) a w := by
  obtain ⟨i0, hi, hz0, hz1, hz2⟩ := info_parts info_num
  obtain ⟨ad, cap, rfl, hn, hr⟩ := hm
  have done : ∀ v' w', w'.ownsRow 0 3 1 v' (l.length + m.length) (ints l ++ ints m) → w.grownBy w' v.ownBlock → Near w v v' → wpList Try.prog ops Q rest (a.put o.dst v') w' := by
    intro v' w' h1 h2 h3
    refine h v' w' ?_ (grown_below h2 hown.2.1 hB)
    refine ⟨?_, fun k hk => ?_, fun y hy => ?_⟩
    · rw [List.length_append, ints_append]; exact h1
    · rcases h3 k hk with h4 | h4
      · exact hown.2.1 k h4
      · omega
    · unfold ints at hy
      obtain ⟨q, _, rfl⟩ := List.mem_map.1 hy
      rfl
  cases ad with
  | none =>
    obtain ⟨h0, rfl⟩ := hn rfl
    have hm0 : m = [] := List.length_eq_zero_iff.1 h0
    subst hm0
    refine wpl_append_sees w hgd s x 24 ho 3 i0 _ 1 8 Try.underlying24 hi hz0 hz1 hz2 rfl (by decide) v l.length (ints l) hs hown.1 (.slice none 0 0) 0 [] hx ⟨rfl, fun u hu => by simp at hu, .inl ⟨rfl, rfl⟩⟩ (by unfold maxLen; omega) (by omega) fun v' w' h1 h2 h3 => done v' w' h1 h2 h3
  | some ad =>
    refine wpList_append_near w hgd s x 24 ho 3 i0 _ 1 8 Try.underlying24 hi hz0 hz1 hz2 rfl (by decide) v l.length (ints l) hs hown.1 ad m.length cap (ints m) hx (by rw [ints_length]; omega) (fun j u hj => ?_) (fun y hy => ?_) (by unfold maxLen; omega) (by omega) done
    · have hj' : j < m.length := by
        have := (List.getElem?_eq_some_iff.1 hj).1
        rwa [ints_length] at this
      obtain ⟨g, off, e, _, hc⟩ := hr (by omega)
      obtain rfl := Option.some.inj e
      rw [Go.WideShapes.add_plain, hc j hj', px_get hj', ← hj, ints_get hj']
    · unfold ints at hy
      obtain ⟨q, _, rfl⟩ := List.mem_map.1 hy
      rfl
theorem raw_app (f : Fm) (L M : List Int) : rawB f (L ++ M) = rawB f L ++ rawB f M := by unfold rawB; simp
theorem val_left {f : Fm} (h : f.ok = true) (h1 : f.rm ≤ 255) (h2 : f.gm ≤ 255) (h3 : f.bm ≤ 255) (c : Int) : f.val ((f.left c : Nat) : Int) = f.val c := by
  refine val_col h h1 h2 h3 (v := f.val c) ?_
  obtain ⟨k, j, l, s, t, u, n, H⟩ := f.is h
  rw [H.mask_eq, H.val_eq]
  exact sum_in H.three (down_le (by omega)) (down_le (by omega)) (down_le (by omega))
theorem raw_left {f : Fm} (h : f.ok = true) (h1 : f.rm ≤ 255) (h2 : f.gm ≤ 255) (h3 : f.bm ≤ 255) (L : List Int) : rawB f (L.map (fun c => ((f.left c : Nat) : Int))) = rawB f L := by
  unfold rawB
  rw [List.flatMap_map]
  congr 1
  funext c
  unfold putB Fm.valI
  rw [if_pos h, if_pos h, val_left h h1 h2 h3]
theorem left_wf {f : Fm} (h : f.ok = true) (c : Int) : (Lit.int .i64 ((f.left c : Nat) : Int)).wf = true := by
  have := left_le h c
  simp only [Lit.wf, IntKind.min, IntKind.max, IntKind.signed, IntKind.bits, Bool.and_eq_true, decide_eq_true_eq, if_true]
  have h1 : (16777215 : Int) < 2 ^ (64 - 1) := by decide
  have h2 : -(2 : Int) ^ (64 - 1) ≤ 0 := by decide
  omega
/-- What the regions' operations leave. -/
def pgA (F p q v a b c : Value) : Nat → Value
  | 0 => F
  | 1 => p
  | 2 => a
  | 3 => F
  | 4 => q
  | 5 => b
  | 6 => c
  | 7 => F
  | 8 => v
  | 9 => c
  | 10 => .bool true
  | 11 => .bool true
  | _ => undef
def pgB (F v s : Value) (n sz m : Nat) : Nat → Option Value
  | 0 => some F
  | 1 => some v
  | 3 => some (.int .i64 n)
  | 4 => some v
  | 5 => some (.int .i64 n)
  | 6 => some (.bool true)
  | 7 => some (.bool true)
  | 8 => some F
  | 9 => some v
  | 10 => some s
  | 11 => some (.int .i64 m)
  | 12 => some v
  | 13 => some (.int .i64 n)
  | 14 => some F
  | 15 => some (.int .i64 sz)
  | 16 => some (.int .i64 m)
  | 17 => some (.bool true)
  | 18 => some (.bool true)
  | 19 => some (.bool true)
  | _ => none
def pgR (n : Nat) (i : Nat) (v : Value) (w : World) : Prop := i = 2 → ∃ p c, v = .slice p n c
def pgC (F v l s : Value) : Nat → Value
  | 0 => .bool true
  | 1 => .bool true
  | 2 => .bool true
  | 3 => .bool true
  | 4 => .bool true
  | 5 => .bool true
  | 6 => .bool true
  | 7 => .bool true
  | 8 => F
  | 9 => l
  | 10 => s
  | 11 => F
  | 12 => v
  | 13 => s
  | 14 => .bool true
  | 15 => .bool true
  | 16 => .bool true
  | _ => undef
set_option maxHeartbeats 8000000 in
theorem walk (f : Fm) (a : Option Addr) (n cap : Nat) (L : List Int) (b : Option Addr) (m capb : Nat) (M : List Int) (W : World) (hf : f.Wf) (hL : SW W (.slice a n cap) L ∧ L.length ≤ maxLen ∧ L.length = n ∧ (∀ x ∈ L, (Lit.int .i64 x).wf = true) ∧ Room (.slice a n cap))
    (hM : SW W (.slice b m capb) M ∧ M.length ≤ maxLen ∧ M.length = m ∧ (∀ x ∈ M, (Lit.int .i64 x).wf = true) ∧ Room (.slice b m capb)) :
    Calls Try.prog 6 #[f.v, .slice a n cap, .slice b m capb] W fun e w' => e = .returned (.bool true) ∧ Below W.heap.size W w' := by
  obtain ⟨hsl, hmx, hn, hwl, _⟩ := hL
  obtain ⟨hsm, hmy, hm, hwm, _⟩ := hM
  unfold maxLen at hmx hmy
  have V0 := Lib.hid works_any
  have V6 := Lib.hid (fun w => valid_any f hf w)
  have hv : f.v = .agg #[.int .i64 f.B, .int .i64 f.D, .bool f.big, .bool f.tr, .int .i64 f.rm, .int .i64 f.gm, .int .i64 f.bm, .int .i64 f.rs, .int .i64 f.gs, .int .i64 f.bs] := rfl
  have bel := (Below.refl W.heap.size W).alloc (Nat.le_refl _) (.cells #[.int .i64 f.B, .int .i64 f.D, .bool f.big, .bool f.tr, .int .i64 f.rm, .int .i64 f.gm, .int .i64 f.bm, .int .i64 f.rs, .int .i64 f.gs, .int .i64 f.bs] 23)
  have z0 := Pln.alloc_size W (.cells #[.int .i64 f.B, .int .i64 f.D, .bool f.big, .bool f.tr, .int .i64 f.rm, .int .i64 f.gm, .int .i64 f.bm, .int .i64 f.rs, .int .i64 f.gs, .int .i64 f.bs] 23)
  have AT := FmAt.box f W 23
  obtain ⟨n0, hn0⟩ : ∃ n0, W.heap.size = n0 := ⟨_, rfl⟩
  rw [hn0] at z0 AT bel
  obtain ⟨w0, hw0⟩ : ∃ w0, W.alloc (.cells #[.int .i64 f.B, .int .i64 f.D, .bool f.big, .bool f.tr, .int .i64 f.rm, .int .i64 f.gm, .int .i64 f.bm, .int .i64 f.rs, .int .i64 f.gs, .int .i64 f.bs] 23) = w0 := ⟨_, rfl⟩
  rw [hw0] at bel z0 AT
  have HA := Lib.hid (fun W' (h : Below w0.heap.size w0 W') => AT.below h (by omega))
  have HS := Lib.hid (fun W' (h : Below w0.heap.size w0 W') => hsl.below (by rw [hn0]; exact bel.trans (h.mono (by omega))))
  have HT := Lib.hid (fun W' (h : Below w0.heap.size w0 W') => hsm.below (by rw [hn0]; exact bel.trans (h.mono (by omega))))
  have HB := Lib.hid (fun W' (h : Below w0.heap.size w0 W') => (bel.trans (h.mono (by omega)) : Below n0 W W'))
  have q0 := Below.refl w0.heap.size w0
  rw [hn0]
  by_cases hg : 400 < n ∨ 400 < m
  · rw [hv]
    by_cases h1 : 400 < n
    · have g1 : decide ((400 : Int) < n) = true := decide_eq_true (by omega)
      have g2 : decide (400 < n) = true := decide_eq_true h1
      go_enter Try.func6, Try.ntmps6
      go_wp2_with fail
      refine (V0.out _).mono ?_
      rintro r w1 ⟨rfl, b1⟩
      have B1 := Lib.hid (HB.out _ b1)
      clear b1
      go_wp2_with fail
      go_ret
      exact ⟨rfl, B1.out⟩
    · have h2 : 400 < m := by omega
      have g1 : decide ((400 : Int) < n) = false := decide_eq_false (by omega)
      have g2 : decide (400 < n) = false := decide_eq_false h1
      have g3 : decide ((400 : Int) < m) = true := decide_eq_true (by omega)
      have g4 : decide (400 < m) = true := decide_eq_true h2
      go_enter Try.func6, Try.ntmps6
      go_wp2_with fail
      refine (V0.out _).mono ?_
      rintro r w1 ⟨rfl, b1⟩
      have B1 := Lib.hid (HB.out _ b1)
      clear b1
      go_wp2_with fail
      go_ret
      exact ⟨rfl, B1.out⟩
  have g1 : decide ((400 : Int) < n) = false := decide_eq_false (by omega)
  have g2 : decide (400 < n) = false := decide_eq_false (by omega)
  have g3 : decide ((400 : Int) < m) = false := decide_eq_false (by omega)
  have g4 : decide (400 < m) = false := decide_eq_false (by omega)
  cases hok : f.ok with
  | false =>
    rw [hok] at V6
    rw [hv] at V6 ⊢
    clear hf hv AT bel hsl hsm hwl hwm hok
    obtain ⟨B, D, big, tr, rm, gm, bm, rs, gs, bs⟩ := f
    simp only at *
    go_enter Try.func6, Try.ntmps6
    go_wp2_with fail
    refine (V0.out _).mono ?_
    rintro r w1 ⟨rfl, b1⟩
    have Q1 := Lib.hid (q0.trans (b1.mono q0.size))
    clear b1 q0 V0
    obtain ⟨d0, d1, d2, d3, d4, d5, d6, d7, d8, d9⟩ := HA.out _ Q1.out
    dsimp only at d0 d1 d2 d3 d4 d5 d6 d7 d8 d9
    go_wp2_with fail
    refine (V6.out _).mono ?_
    rintro r w2 ⟨rfl, b2⟩
    have B2 := Lib.hid (HB.out _ (Q1.out.trans (b2.mono Q1.out.size)))
    clear b2
    go_wp2_with fail
    go_ret
    exact ⟨rfl, B2.out⟩
  | true =>
  obtain ⟨ALL, hALL⟩ : ∃ ALL, L ++ M = ALL := ⟨_, rfl⟩
  have hal : ALL.length = n + m := by rw [← hALL, List.length_append, hn, hm]
  have hawf : ∀ c ∈ ALL, (Lit.int .i64 c).wf = true := fun c hc => by
    rw [← hALL] at hc
    rcases List.mem_append.1 hc with h | h
    · exact hwl c h
    · exact hwm c h
  have VA := Lib.hid (fun w h => raw_any f hf (.slice a n cap) L w h hwl (by omega))
  have VB := Lib.hid (fun w h => raw_any f hf (.slice b m capb) M w h hwm (by omega))
  have VC := Lib.hid (fun v w h => raw_any f hf v ALL w h hawf (by omega))
  have VV := Lib.hid (fun v w h => values_any f hf v ALL w h hawf (by omega))
  have VQ := Lib.hid (fun v w h => refQuants_any f hok v ALL w h (by omega))
  have VS := Lib.hid (fun w => size_any f hf w)
  obtain ⟨LE, hLE⟩ : ∃ LE, ALL.map (fun c => ((f.left c : Nat) : Int)) = LE := ⟨_, rfl⟩
  have hll : LE.length = n + m := by rw [← hLE, List.length_map, hal]
  have VL := Lib.hid (fun v w h => raw_any f hf v LE w h (fun c hc => by
    rw [← hLE] at hc
    obtain ⟨q, _, rfl⟩ := List.mem_map.1 hc
    exact left_wf hok q) (by omega))
  have HLF : RowKit.Hid (f.rm ≤ 255 → f.gm ≤ 255 → f.bm ≤ 255 → rawB f LE = rawB f ALL) := Lib.hid (fun h1 h2 h3 => by rw [← hLE]; exact raw_left hok h1 h2 h3 ALL)
  have hra := rawB_len f L
  have hrb := rawB_len f M
  have hrc := rawB_len f ALL
  have hs4 := (size_le4 f).1
  have hadd : ∀ W : World, (Op.stringOp .add ⟨(rawB f L).toArray⟩ ⟨(rawB f M).toArray⟩).run Try.prog W = .ok (.string ⟨(rawB f ALL).toArray⟩) W := fun W => by
    have h1 : (ByteArray.mk (rawB f L).toArray).size = (rawB f L).length := by show (rawB f L).toArray.size = _; simp
    have h2 : (ByteArray.mk (rawB f M).toArray).size = (rawB f M).length := by show (rawB f M).toArray.size = _; simp
    rw [run_string_add_sum W _ _ (by
      rw [h1, h2, hra, hrb, hn, hm]
      have : n * f.size ≤ 400 * 4 := Nat.mul_le_mul (by omega) hs4
      have : m * f.size ≤ 400 * 4 := Nat.mul_le_mul (by omega) hs4
      omega), ByteArray.mk_append_mk, ← hALL, raw_app]
  rw [hLE] at VQ
  rw [hok] at V6
  rw [hv] at VA VB VC VV VQ VS VL V6 ⊢
  rw [hal] at hrc
  obtain ⟨N, hN⟩ : ∃ N, n + m = N := ⟨_, rfl⟩
  rw [hN] at hal hll hrc
  have hN8 : N ≤ 800 := by omega
  generalize f.size = sz at *
  obtain ⟨mz, hmz⟩ : ∃ mz, N * sz = mz := ⟨_, rfl⟩
  have hmz8 : mz ≤ 3200 := by rw [← hmz]; exact Nat.le_trans (Nat.mul_le_mul hN8 hs4) (by decide)
  rw [hmz] at hrc
  have wz : IntKind.i64.wrap ((N : Int) * (sz : Nat)) = (mz : Int) := by
    rw [show ((N : Int) * (sz : Nat)) = (mz : Int) by rw [← hmz]; rfl]
    exact IntWalk.i64_in _ (by omega)
  have hcs : (⟨(rawB f ALL).toArray⟩ : ByteArray).size = mz := by show (rawB f ALL).toArray.size = _; simp [hrc]
  generalize rawB f LE = RL at *
  generalize rawB f L = RA at *
  generalize rawB f M = RBb at *
  generalize rawB f ALL = RC at *
  obtain ⟨sA, hsA⟩ : ∃ sA, (⟨RA.toArray⟩ : ByteArray) = sA := ⟨_, rfl⟩
  obtain ⟨sB, hsB⟩ : ∃ sB, (⟨RBb.toArray⟩ : ByteArray) = sB := ⟨_, rfl⟩
  obtain ⟨sC, hsC⟩ : ∃ sC, (⟨RC.toArray⟩ : ByteArray) = sC := ⟨_, rfl⟩
  obtain ⟨sL, hsL⟩ : ∃ sL, (⟨RL.toArray⟩ : ByteArray) = sL := ⟨_, rfl⟩
  rw [hsA, hsB, hsC] at hadd
  rw [hsA] at VA
  rw [hsB] at VB
  rw [hsC] at VC hcs
  rw [hsL] at VL
  have HLS : RowKit.Hid (f.rm ≤ 255 → f.gm ≤ 255 → f.bm ≤ 255 → sL = sC) := Lib.hid (fun h1 h2 h3 => by rw [← hsL, ← hsC, HLF.out h1 h2 h3])
  have HAPP := Lib.hid hALL
  have HLN := Lib.hid (And.intro hn (And.intro hm (And.intro hal hll)))
  clear hf hv AT bel hsl hsm hwl hwm hok hawf hLE HLF hsA hsB hsC hsL hra hrb hrc hal hll hALL hn hm hmx hmy hg hmz hs4
  obtain ⟨B, D, big, tr, rm, gm, bm, rs, gs, bs⟩ := f
  simp only at *
  go_enter Try.func6, Try.ntmps6
  go_wp2_with fail
  refine (V0.out _).mono ?_
  rintro r w1 ⟨rfl, b1⟩
  have Q1 := Lib.hid (q0.trans (b1.mono q0.size))
  clear b1 q0 V0
  obtain ⟨d0, d1, d2, d3, d4, d5, d6, d7, d8, d9⟩ := HA.out _ Q1.out
  dsimp only at d0 d1 d2 d3 d4 d5 d6 d7 d8 d9
  go_wp2_with fail
  refine (V6.out _).mono ?_
  rintro r w2 ⟨rfl, b2⟩
  have Q2 := Lib.hid (Q1.out.trans (b2.mono Q1.out.size))
  clear b2 Q1 V6 d0 d1 d2 d3 d4 d5 d6 d7 d8 d9
  have S2 := Lib.hid (HS.out _ Q2.out)
  have T2 := Lib.hid (HT.out _ Q2.out)
  go_upto_region 8 with (at_builtin; refine wpl_ints rfl _ _ rfl (.slice none 0 0) w2.heap.size [] rfl (RowAt.nil _ _ _ _) (Nat.le_refl _) (.slice a n cap) L rfl S2.out (by have := HLN.out.1; simp; omega) ?_; intro v3 w3 hz1 hz2; obtain ⟨p3, c3, hv3⟩ := RowAt.shape hz1; rw [List.nil_append, HLN.out.1] at hv3; subst hv3; have OW3 := Lib.hid hz1; have T3 := Lib.hid (T2.out.below hz2); have Q3 := Lib.hid (Q2.out.trans (hz2.mono Q2.out.size)); have Z3 := Lib.hid hz2.size; clear hz1 hz2)
  go_upto_region 9 with (at_builtin; refine wpl_ints rfl _ _ rfl (.slice p3 n c3) w2.heap.size L rfl OW3.out Z3.out (.slice b m capb) M rfl T3.out (by have := HLN.out; omega) ?_; intro v4 w4 hz1 hz2; rw [HAPP.out] at hz1; obtain ⟨p4, c4, hv4⟩ := RowAt.shape hz1; rw [HLN.out.2.2.1] at hv4; subst hv4; have S4 := Lib.hid (IntsAt.si hz1).sw; have Q4 := Lib.hid (Q3.out.trans (hz2.mono Q2.out.size)); clear hz1 hz2)
  clear OW3 T3 Q3 Z3 S2 T2 Q2
  obtain ⟨d0, d1, d2, d3, d4, d5, d6, d7, d8, d9⟩ := HA.out _ Q4.out
  dsimp only at d0 d1 d2 d3 d4 d5 d6 d7 d8 d9
  go_wp2_with fail
  refine (VQ.out _ _ S4.out).mono ?_
  rintro r w5 ⟨u, rfl, h5, b5⟩
  obtain ⟨p5, c5, hv5⟩ := RowAt.shape h5
  rw [HLN.out.2.2.2] at hv5
  subst hv5
  have Q5 := Lib.hid (Q4.out.trans (b5.mono Q4.out.size))
  have S5 := Lib.hid (S4.out.below b5)
  have L5 := Lib.hid (IntsAt.si h5).sw
  clear h5 b5 Q4 S4 VQ d0 d1 d2 d3 d4 d5 d6 d7 d8 d9
  have q5s := Q5.out.size
  go_wp2_with fail
  refine region_all (by kernel_rfl) (pgA (.agg #[.int .i64 B, .int .i64 D, .bool big, .bool tr, .int .i64 rm, .int .i64 gm, .int .i64 bm, .int .i64 rs, .int .i64 gs, .int .i64 bs]) (.slice a n cap) (.slice b m capb) (.slice p4 N c4) (.string sA) (.string sB) (.string sC)) (fun W' => Below w5.heap.size w5 W') [1, 2, 3, 8] [none, none, none, none, none, none, none, none, none, none, some 11, none, none, none, none, none, none, none, none, none, none, none, none, none, none, none, none, none, none, none, none, none, none, none, none, none, none, none, some 0, some 1, some 2, some 3, some 4, some 5, some 6, some 7, some 8, some 9, some 10, none, none, none, none, none, none, none, none, none, none, none, none, none, none, none, none, none, none, none, none, none, none, none, none, none, none, none, none, none, none, none, none, none, none, none, none, none, none, none, none, none, none, none, none, none, none, none, none, none, none, none, none, none, none, none] (by kernel_rfl) (by kernel_rfl) (by rfl) (by kernel_rfl) (by kernel_rfl) (by kernel_rfl) ((Below.refl _ _).drew) ⟨?_, ?_, ?_, ?_, ?_, ?_, ?_, ?_, ?_, ?_, ?_, ?_, trivial⟩ ?_
  case refine_13 =>
    intro W6 hS6
    have Q6 := Lib.hid hS6
    clear hS6 VA VB hadd
    simp only [zipF, pgA]
    go_wp2_with fail
    refine region_preds (by kernel_rfl) (pgB (.agg #[.int .i64 B, .int .i64 D, .bool big, .bool tr, .int .i64 rm, .int .i64 gm, .int .i64 bm, .int .i64 rs, .int .i64 gs, .int .i64 bs]) (.slice p4 N c4) (.string sC) N sz mz) (pgR N) (fun _ W' => Below w5.heap.size w5 W') [3, 8] [none, none, none, none, none, none, none, none, none, none, none, some 19, none, none, none, none, none, none, none, none, none, none, none, none, none, none, none, none, none, none, none, none, none, none, none, none, none, none, none, none, none, none, none, none, none, none, none, none, none, some 0, some 1, some 2, some 3, some 4, some 5, some 6, some 7, some 8, some 9, some 10, some 11, some 12, some 13, some 14, some 15, some 16, some 17, some 18, none, none, none, none, none, none, none, none, none, none, none, none, none, none, none, none, none, none, none, none, none, none, none, none, none, none, none, none, none, none, none, none, none, none, none, none] (by kernel_rfl) (by kernel_rfl) (by rfl) (by kernel_rfl) (by kernel_rfl) (by kernel_rfl) (Q6.out.drew) ⟨?_, ?_, ?_, ?_, ?_, ?_, ?_, ?_, ?_, ?_, ?_, ?_, ?_, ?_, ?_, ?_, ?_, ?_, ?_, ?_, trivial⟩ ?_
    case refine_21 =>
      intro vs ℓ W7 hl hS hR
      have Q7 := Lib.hid hS
      obtain ⟨d0, d1, d2, d3, d4, d5, d6, d7, d8, d9⟩ := HA.out _ (Q5.out.trans (hS.mono q5s))
      dsimp only at d0 d1 d2 d3 d4 d5 d6 d7 d8 d9
      clear hR hl hS VV VS Q6
      simp only [zipF, pgB, Option.getD_some, Option.getD_none]
      generalize vs 2 = u2 at *
      by_cases e1 : 255 < rm
      · have k1 : decide (255 < rm) = true := decide_eq_true e1
        clear VC VL HLS
        go_wp2_with fail
        go_ret
        exact ⟨rfl, HB.out _ (Q5.out.trans (Q7.out.mono q5s))⟩
      have k1 : decide (255 < rm) = false := decide_eq_false e1
      by_cases e2 : 255 < gm
      · have k2 : decide (255 < gm) = true := decide_eq_true e2
        clear VC VL HLS
        go_wp2_with fail
        go_ret
        exact ⟨rfl, HB.out _ (Q5.out.trans (Q7.out.mono q5s))⟩
      have k2 : decide (255 < gm) = false := decide_eq_false e2
      by_cases e3 : 255 < bm
      · have k3 : decide (255 < bm) = true := decide_eq_true e3
        clear VC VL HLS
        go_wp2_with fail
        go_ret
        exact ⟨rfl, HB.out _ (Q5.out.trans (Q7.out.mono q5s))⟩
      have k3 : decide (255 < bm) = false := decide_eq_false e3
      have hls := HLS.out (by omega) (by omega) (by omega)
      subst hls
      go_wp2_with fail
      refine region_all (by kernel_rfl) (pgC (.agg #[.int .i64 B, .int .i64 D, .bool big, .bool tr, .int .i64 rm, .int .i64 gm, .int .i64 bm, .int .i64 rs, .int .i64 gs, .int .i64 bs]) (.slice p4 N c4) (.slice p5 N c5) (.string sL)) (fun W' => Below w5.heap.size w5 W') [3, 7, 8, 9, 10, 11] [none, none, none, none, none, none, some 16, none, none, none, none, none, none, none, none, none, none, none, none, none, none, none, none, none, none, none, none, none, none, none, none, none, none, none, none, none, none, none, none, none, none, none, none, none, none, none, none, none, none, none, none, none, none, none, none, none, none, none, none, none, none, none, none, none, none, none, none, none, none, none, none, none, none, none, none, none, none, none, none, none, none, none, none, none, none, none, none, none, some 0, some 1, some 2, some 3, some 4, some 5, some 6, some 7, some 8, some 9, some 10, some 11, some 12, some 13, some 14, some 15] (by kernel_rfl) (by kernel_rfl) (by rfl) (by kernel_rfl) (by kernel_rfl) (by kernel_rfl) (Q7.out.drew) ⟨?_, ?_, ?_, ?_, ?_, ?_, ?_, ?_, ?_, ?_, ?_, ?_, ?_, ?_, ?_, ?_, ?_, trivial⟩ ?_
      case refine_18 =>
        intro W8 hS8
        have B8 := Lib.hid (HB.out _ (Q5.out.trans (hS8.mono q5s)))
        clear hS8
        simp only [zipF, pgC]
        go_wp2_with fail
        go_ret
        exact ⟨rfl, B8.out⟩
      all_goals
        intro ℓ act Wd hl hS hw hr hd
        obtain ⟨d0, d1, d2, d3, d4, d5, d6, d7, d8, d9⟩ := HA.out _ (Q5.out.trans (hS.mono q5s))
        dsimp only at d0 d1 d2 d3 d4 d5 d6 d7 d8 d9
        have s5 := S5.out.below hS
        have l5 := L5.out.below hS
        clear hw
        simp [readFacts, depFacts, dstOf, Region.binds, pgC] at hr hd
        refine ⟨by first | exact wanted_none (by rfl) | exact wanted_guard (by rfl) (by rfl) (by simp only [*]), fun K hK => ?_⟩
        go_simp
        first
          | exact hK _ hS
          | (with_reducible refine (VL.out _ _ l5).mono ?_
             rintro r w' ⟨rfl, b⟩
             exact hK _ (hS.trans (b.mono hS.size)))
          | (with_reducible refine (VC.out _ _ s5).mono ?_
             rintro r w' ⟨rfl, b⟩
             exact hK _ (hS.trans (b.mono hS.size)))
    case refine_3 =>
      intro ℓ act W9 hl hS hw hx hr hd
      clear hw hx
      simp [readFacts, depFactsP, dstOf, Region.binds, pgB] at hr hd
      refine ⟨wanted_none (by rfl), fun K hK => ?_⟩
      have s5 := S5.out.below hS
      go_simp
      refine (VV.out _ _ s5).mono ?_
      rintro r w' ⟨u, rfl, h1, b⟩
      obtain ⟨pq, cq, hq⟩ := RowAt.shape h1
      rw [List.length_map, HLN.out.2.2.1] at hq
      exact hK _ _ (show pgR N 2 u w' from fun _ => ⟨pq, cq, hq⟩) (hS.trans (b.mono hS.size)) (fun _ _ _ _ h => h)
    case refine_4 =>
      intro ℓ act W9 hl hS hw hx hr hd
      clear hw hx
      simp [readFacts, depFactsP, dstOf, Region.binds, pgB] at hr hd
      refine ⟨wanted_none (by rfl), fun K hK => ?_⟩
      obtain ⟨v2, e2, y2⟩ := hd
      obtain ⟨pq, cq, rfl⟩ := y2 rfl
      go_simp
      exact hK _ _ rfl hS (fun _ _ _ _ h => h)
    all_goals
      intro ℓ act W9 hl hS hw hx hr hd
      clear hw hx
      obtain ⟨d0, d1, d2, d3, d4, d5, d6, d7, d8, d9⟩ := HA.out _ (Q5.out.trans (hS.mono q5s))
      dsimp only at d0 d1 d2 d3 d4 d5 d6 d7 d8 d9
      have s5 := S5.out.below hS
      simp [readFacts, depFactsP, dstOf, Region.binds, pgB] at hr hd
      refine ⟨by first | exact wanted_none (by rfl) | exact wanted_guard (by rfl) (by rfl) (by simp only [*]), fun K hK => ?_⟩
      go_simp
      first
        | exact hK _ _ rfl hS (fun _ _ _ _ h => h)
        | (with_reducible refine (VC.out _ _ s5).mono ?_
           rintro r w' ⟨rfl, b⟩
           exact hK _ _ rfl (hS.trans (b.mono hS.size)) (fun _ _ _ _ h => h))
        | (with_reducible refine (VS.out _).mono ?_
           rintro r w' ⟨rfl, b⟩
           exact hK _ _ rfl (hS.trans (b.mono hS.size)) (fun _ _ _ _ h => h))
  all_goals
    intro ℓ act Wd hl hS hw hr hd
    obtain ⟨d0, d1, d2, d3, d4, d5, d6, d7, d8, d9⟩ := HA.out _ (Q5.out.trans (hS.mono q5s))
    dsimp only at d0 d1 d2 d3 d4 d5 d6 d7 d8 d9
    have s5 := S5.out.below hS
    have sa := HS.out _ (Q5.out.trans (hS.mono q5s))
    have sb := HT.out _ (Q5.out.trans (hS.mono q5s))
    clear hw
    simp [readFacts, depFacts, dstOf, Region.binds, pgA] at hr hd
    refine ⟨by first | exact wanted_none (by rfl) | exact wanted_guard (by rfl) (by rfl) (by simp only [*]), fun K hK => ?_⟩
    go_simp
    first
      | exact hK _ hS
      | (with_reducible refine (VA.out _ sa).mono ?_
         rintro r w' ⟨rfl, b⟩
         exact hK _ (hS.trans (b.mono hS.size)))
      | (with_reducible refine (VB.out _ sb).mono ?_
         rintro r w' ⟨rfl, b⟩
         exact hK _ (hS.trans (b.mono hS.size)))
      | (with_reducible refine (VC.out _ _ s5).mono ?_
         rintro r w' ⟨rfl, b⟩
         exact hK _ (hS.trans (b.mono hS.size)))

set_option maxRecDepth 100000 in
theorem lifted (os : Os) (started : os.Started) (H : Type) (enc : TypeId × Value → H) :
    ReturnsInHanded {} Try.checked os 6 .any (Rows.plainGlueSpec.pre6 enc Try.prog Try.f6 Rows.plainGlueRow.domain false) (Rows.plainGlueSpec.post enc Try.prog Try.f6 false true false false) := by
  refine returnsInHanded_of_change (C := Try.checked) own started (by kernel_rfl) Try.func6
    (ChangeSpec.witness6 (enc := enc) (C := Try.checked) false ⟨#[], #[.agg #[.int .i64 0, .int .i64 0, .bool false, .bool false, .int .i64 0, .int .i64 0, .int .i64 0, .int .i64 0, .int .i64 0, .int .i64 0], .slice none 0 0, .slice none 0 0], []⟩ 8 (by kernel_rfl) (by kernel_rfl) (by kernel_rfl) (by kernel_rfl)) ?_
  intro W base args ds gs before hval0 hW hcnd _
  have hval : ∀ (j : Nat) t v, Try.f6.params[j]? = some t → args[j]? = some v → Value.okWide Try.prog W .any base t v := hval0
  have hW' := hW
  obtain ⟨p, q, hA0, hV, rfl, hfz, hnd⟩ := hW
  have hA : DataW.TrodAll enc Try.prog W 0 (fun _ => true) true Try.f6.params.toList args.toList ds p := hA0
  rw [Try.params6] at hA hval
  obtain ⟨v0, vs0, d0, ds0, p0, q0, hargs, rfl, rfl, h0, r0⟩ := trodAll_cons hA
  obtain ⟨v1, vs1, d1, ds1, p1, q1, rfl, rfl, rfl, h1, r1⟩ := trodAll_cons r0
  obtain ⟨v2, vs2, d2, ds2, p2, q2, rfl, rfl, rfl, h2, r2⟩ := trodAll_cons r1
  obtain ⟨rfl, rfl, rfl⟩ := trodAll_nil r2
  obtain rfl : args = #[v0, v1, v2] := by cases args; simp_all
  obtain ⟨rfl, rfl⟩ := trodVars_none hV
  have k0 := h0
  have lt0 : ∀ x ∈ p0, x.block < W.heap.size := by obtain ⟨m, hm⟩ := k0; exact DataW.trod_lt m _ _ _ hm
  obtain ⟨a0, rfl, w0⟩ := fmt_see (hval 0 23 v0 rfl rfl) h0
  have k1 := h1
  have lt1 : ∀ x ∈ p1, x.block < W.heap.size := by obtain ⟨m, hm⟩ := k1; exact DataW.trod_lt m _ _ _ hm
  obtain ⟨a1, len1, cap1, rfl⟩ := okWide_slice Try.underlying24 (hval 1 24 v1 rfl rfl)
  obtain ⟨A1, w1⟩ := ints_si h1
  have k2 := h2
  have lt2 : ∀ x ∈ p2, x.block < W.heap.size := by obtain ⟨m, hm⟩ := k2; exact DataW.trod_lt m _ _ _ hm
  obtain ⟨a2, len2, cap2, rfl⟩ := okWide_slice Try.underlying24 (hval 2 24 v2 rfl rfl)
  obtain ⟨A2, w2⟩ := ints_si h2
  clear hA0 hval0
  refine (walk a0 a1 len1 cap1 A1 a2 len2 cap2 A2 W w0 w1 w2).mono fun e W' ⟨he, bel⟩ => ?_
  subst he
  exact ⟨_, rfl, _, _, _, [], _, [], hW', trodAll_mk1 (shut_bool Try.underlying4 _), (trodAll_cons_mk (Below.trod laidOut (by kernel_rfl) (of_decide_eq_true (by kernel_rfl)) k0 bel lt0) (trodAll_cons_mk (Below.trod laidOut (by kernel_rfl) (of_decide_eq_true (by kernel_rfl)) k1 bel lt1) (trodAll_cons_mk (Below.trod laidOut (by kernel_rfl) (of_decide_eq_true (by kernel_rfl)) k2 bel lt2) trodAll_mk0))), rfl, bel.frame _, fun h => by cases h⟩

theorem over : Rows.plainGlueRow.holds Try.pinned (OpenSpec.ofChange Rows.plainGlueSpec) :=
  OpenClaim.holds_of_wide 6 Try.f6 rfl rfl rfl rfl rfl rfl rfl ⟨rfl, rfl, rfl, rfl, rfl⟩ rfl rfl rfl rfl rfl (by kernel_rfl) Try.func6 (by kernel_rfl)
    (of_decide_eq_true (by kernel_rfl)) (by unfold Func.isWrapper; first | (rw [if_pos (by decide +kernel)]; kernel_rfl) | (rw [if_neg (by decide +kernel)]; exact ⟨rfl, rfl⟩))
    (fun os started H enc _ => lifted os started H enc)

theorem proved : Rows.PlainGlueSaid := over
end Go.Proofs.Ytbdlmcpdplmdnaa.plainGlue
