/-
  Contracts of the reference of layer 16 (plain): the value of bytes, from where a rectangle is copied, of bytes; two rows the same.
-/
import Derived.Test.YtmjjbapahgejmaaPlnRefE
import Derived.Test.YtmjjbapahgejmaaPlnRefF
import Derived.Test.YtmjjbapahgejmaaAllFmtM
import Derived.Test.YtmjjbapahgejmaaAllOct17
namespace Go.Proofs.Ytmjjbapahgejmaa.Pln
open Go.ChangeShapes Go.WideShapes Go.ChangeAt Go.RowKit Lz RowG RegVal Fmt Oct
set_option linter.unusedVariables false
set_option linter.unusedSimpArgs false
set_option maxRecDepth 100000

set_option maxHeartbeats 1000000 in
theorem refRow_any (u v : Value) (L M : List Int) (w : World) (hL : SW w u L) (hM : SW w v M) (h1 : L.length ≤ 1000000000) (h2 : M.length ≤ 1000000000) :
    Calls Try.prog 20 #[u, v] w fun e w' => e = .returned (.bool (decide (L = M))) ∧ ∃ q, w' = w.drewN q := by
  obtain ⟨a, c, rfl, cL⟩ := hL.cells
  obtain ⟨b, d, rfl, cM⟩ := hM.cells
  clear hL hM
  obtain ⟨n, hn⟩ : ∃ n, L.length = n := ⟨_, rfl⟩
  obtain ⟨m, hm⟩ : ∃ m, M.length = m := ⟨_, rfl⟩
  have HL := Lib.hid cL
  have HM := Lib.hid cM
  have hLn := Lib.hid hn
  have hMn := Lib.hid hm
  rw [hn] at h1 HL ⊢
  rw [hm] at h2 HM ⊢
  clear cL cM hn hm
  by_cases hnm : n = m
  · subst hnm
    go_enter Try.func20, Try.ntmps20
    go_wp2_with fail
    go_loopw [5] (fun i wr => ∃ k q : Nat, k ≤ n ∧ i = .int .i64 k ∧ L.take k = M.take k ∧ wr = w.drewN q) (fun i _ => n - (intOf i).toNat)
    case atStart => exact ⟨0, 0, Nat.zero_le _, rfl, rfl, rfl⟩
    case round =>
      obtain ⟨k, q, hk, rfl, hT, rfl⟩ := hrel
      have HT := Lib.hid hT
      clear hT
      by_cases hlt : k < n
      · obtain ⟨A, o, rfl, _, f1⟩ := HL.out (by omega)
        obtain ⟨B, p, rfl, _, f2⟩ := HM.out (by omega)
        have c1 := f1 k hlt
        have c2 := f2 k hlt
        clear f1 f2
        have tk : ∀ l : List Int, k < l.length → l.take (k + 1) = l.take k ++ [px l k] := fun l hl => by rw [List.take_succ_eq_append_getElem hl, px_get hl]
        have t1 := Lib.hid (tk L (by rw [hLn.out]; exact hlt))
        have t2 := Lib.hid (tk M (by rw [hMn.out]; exact hlt))
        clear tk
        by_cases he : px L k = px M k
        · have HE := Lib.hid he
          rw [← he] at c2
          clear he
          generalize px L k = x at *
          go_wp2_with fail
          go_quiet (fail)
          go_wp2_with fail
          refine ⟨⟨k + 1, q + nq, by omega, by go_num, ?_, rfl⟩, by simp [intOf]; omega⟩
          rw [t1.out, t2.out, HT.out, HE.out]
        · have hd : (px L k == px M k) = false := by simpa using he
          have hne : decide (L = M) = false := decide_eq_false (fun e => he (by rw [e]))
          have HN := Lib.hid hne
          clear he t1 t2 hne
          generalize px L k = x at *
          generalize px M k = y at *
          go_wp2_with fail
          go_quiet (fail)
          go_wp2_with fail
          go_ret
          exact ⟨retB HN.out.symm, q + nq, by rw [World.drewN_drewN]⟩
      · obtain rfl : k = n := by omega
        have e : L = M := by
          have := HT.out
          rwa [List.take_of_length_le (by rw [hLn.out]; exact Nat.le_refl _), List.take_of_length_le (by rw [hMn.out]; exact Nat.le_refl _)] at this
        have HN := Lib.hid (decide_eq_true e)
        clear e
        go_wp2_with fail
        go_ret
        exact ⟨retB HN.out.symm, q, rfl⟩
  · have hne : decide (L = M) = false := decide_eq_false (fun e => hnm (by rw [← hLn.out, ← hMn.out, e]))
    have HN := Lib.hid hne
    have d1 : ((n : Int) == m) = false := by simp; omega
    have d2 : (n == m) = false := by simp; omega
    clear hne
    go_enter Try.func20, Try.ntmps20
    go_wp2_with fail
    go_ret
    exact ⟨retB HN.out.symm, 0, rfl⟩

theorem results_tmp4 {fn : Func} {t u v x : Tmp} (h : fn.results = #[.tmp t, .tmp u, .tmp v, .tmp x]) (tmps : Array Value) (P : Program) (w : World) :
    (results fn tmps).run P w = .ok (.tuple #[tmps.getD t undef, tmps.getD u undef, tmps.getD v undef, tmps.getD x undef]) w := by
  simp [results, h]
theorem quiet_w {P : Program} {f : FuncId} {args : Array Value} {w : World} {n : Nat} {v : Value}
    (h : Calls P f args (w.drewN n) fun e w' => e = .returned v ∧ w.drewN n = w') : Calls P f args (w.drewN n) fun e w'' => e = .returned v ∧ ∃ m, w'' = w.drewN m :=
  h.mono fun _ _ ⟨he, hm⟩ => ⟨he, n, hm.symm⟩
theorem ext_take (t : ByteArray) (n : Nat) (h : n ≤ t.size) : (t.extract 0 n).data.toList = t.data.toList.take n ∧ (t.extract 0 n).size = n := by
  constructor
  · simp
  · simp; omega
theorem refget_any (big : Bool) (n : Nat) (h1 : 1 ≤ n) (h4 : n ≤ 4) (t : ByteArray) (ht : t.size ≤ 1000000) (w : World) :
    Calls Try.prog 76 #[.bool big, .int .i64 n, .string t] w fun e w' => e = .returned (.tuple #[.int .i64 (if t.size < n then 0 else getL big (t.data.toList.take n)), .int .i64 (if t.size < n then 2 else 0)]) ∧ w = w' := by
  by_cases hlt : t.size < n
  · rw [if_pos hlt, if_pos hlt]
    have d1 : decide ((t.size : Int) < n) = true := decide_eq_true (by omega)
    have d2 : decide (t.size < n) = true := decide_eq_true hlt
    go_enter Try.func76, Try.ntmps76
    go_wp2_with fail
    go_ret2
    exact ⟨rfl, rfl⟩
  · rw [if_neg hlt, if_neg hlt]
    have d1 : decide ((t.size : Int) < n) = false := decide_eq_false (by omega)
    have d2 : decide (t.size < n) = false := decide_eq_false hlt
    obtain ⟨e1, e2⟩ := ext_take t n (by omega)
    obtain ⟨S, hS⟩ : ∃ S, t.extract 0 n = S := ⟨_, rfl⟩
    rw [hS] at e1 e2
    have I1 := Lib.hid (fun w => refInt_any S w (by omega))
    have T1 := Lib.hid (fun w => refTurned_any S w (by omega))
    have I2 := Lib.hid (fun w => refInt_any (revS S) w (by rw [revS_size]; omega))
    have HG : RowKit.Hid (getL big (t.data.toList.take n) = if big then valL S.data.toList.reverse else valL (revS S).data.toList.reverse) := Lib.hid (by
      rw [revS_data, List.reverse_reverse, e1]
      unfold getL
      cases big <;> rfl)
    have hle : (n : Int) ≤ t.size := by omega
    have hle2 : n ≤ t.size := by omega
    generalize getL big (t.data.toList.take n) = G at *
    clear e1 e2 hlt
    go_enter Try.func76, Try.ntmps76
    cases big with
    | true =>
      go_wp2_with fail
      refine (I1.out _).mono ?_
      rintro r w2 ⟨rfl, rfl⟩
      go_wp2_with fail
      go_ret2
      rw [HG.out]
      exact ⟨rfl, rfl⟩
    | false =>
      go_wp2_with fail
      refine (T1.out _).mono ?_
      rintro r w2 ⟨rfl, rfl⟩
      go_wp2_with fail
      refine (I2.out _).mono ?_
      rintro r w2 ⟨rfl, rfl⟩
      go_wp2_with fail
      go_ret2
      rw [HG.out]
      exact ⟨rfl, rfl⟩
theorem refGetV_any (f : Fm) (hf : f.ok = true) (t : ByteArray) (ht : t.size ≤ 1000000) (w : World) :
    Calls Try.prog 51 #[f.v, .string t] w fun e w' => e = .returned (.tuple #[.int .i64 (f.get t), .int .i64 (f.getE t)]) ∧ Below w.heap.size w w' := by
  obtain ⟨s1, s2, s3⟩ := fm_sz hf
  have hsz : f.size = Fm.sz f := if_pos hf
  have V := Lib.hid (fun w => refget_any f.big (Fm.sz f) s3 s2 t ht w)
  have e1 : f.get t = if t.size < Fm.sz f then 0 else getL f.big (t.data.toList.take (Fm.sz f)) := by rw [← hsz]; exact if_pos hf
  have e2 : f.getE t = if t.size < Fm.sz f then 2 else 0 := by rw [← hsz]; exact if_pos hf
  rw [← e1, ← e2] at V
  generalize f.get t = X at *
  generalize f.getE t = E at *
  clear e1 e2 hsz
  have AT := FmAt.box f w 37
  have bel := (Below.refl w.heap.size w).alloc (Nat.le_refl _) (.cells #[.int .i64 f.B, .int .i64 f.D, .bool f.big, .bool f.tr, .int .i64 f.rm, .int .i64 f.gm, .int .i64 f.bm, .int .i64 f.rs, .int .i64 f.gs, .int .i64 f.bs] 37)
  obtain ⟨w1, hw1⟩ : ∃ w1, w.alloc (.cells #[.int .i64 f.B, .int .i64 f.D, .bool f.big, .bool f.tr, .int .i64 f.rm, .int .i64 f.gm, .int .i64 f.bm, .int .i64 f.rs, .int .i64 f.gs, .int .i64 f.bs] 37) = w1 := ⟨_, rfl⟩
  rw [hw1] at AT bel
  have HF : f.v = .agg #[.int .i64 f.B, .int .i64 f.D, .bool f.big, .bool f.tr, .int .i64 f.rm, .int .i64 f.gm, .int .i64 f.bm, .int .i64 f.rs, .int .i64 f.gs, .int .i64 f.bs] := rfl
  rw [HF]
  have BEL := Lib.hid bel
  clear hf HF bel
  generalize Fm.sz f = s at *
  obtain ⟨B, D, big, tr, rm, gm, bm, rs, gs, bs⟩ := f
  simp only at *
  obtain ⟨d0, d1, d2, d3, d4, d5, d6, d7, d8, d9⟩ := AT
  dsimp only at d0 d1 d2 d3 d4 d5 d6 d7 d8 d9
  have hB : B.tdiv 8 = (s : Nat) := by
    have : 0 ≤ B := by omega
    rw [Int.tdiv_eq_ediv_of_nonneg this]
    exact s1
  clear ht
  go_enter Try.func51, Try.ntmps51
  go_wp2_with fail
  refine (V.out _).mono ?_
  rintro r w2 ⟨rfl, rfl⟩
  go_wp2_with fail
  go_ret2
  exact ⟨rfl, BEL.out⟩
/-- From where: the numbers of four bytes. -/
def cfV (t : ByteArray) (i : Nat) : Int := if t.size < 4 then 0 else valL (t.extract i (i + 2)).data.toList.reverse
def cfN (t : ByteArray) : Int := if t.size < 4 then 0 else 4
def cfE (t : ByteArray) : Int := if t.size < 4 then 2 else 0
end Go.Proofs.Ytmjjbapahgejmaa.Pln
