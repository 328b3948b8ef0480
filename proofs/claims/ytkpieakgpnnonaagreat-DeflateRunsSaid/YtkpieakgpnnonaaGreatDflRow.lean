/-
  Rows of runs; contract of the library's slices.Repeat at one run that comes again and again.
-/
import Derived.Test.YtkpieakgpnnonaaGreatDflMath
import Derived.Test.YtkpieakgpnnonaaGreatDflBase
import Derived.Test.YtkpieakgpnnonaaGreatHufAllB
namespace Go
/-- 'copy' at elements of any size. -/
theorem run_copy_rowK {P : Program} (w : World) (dT sT ty elem : TypeId) (k n g o dLen dCap : Nat) (a : Addr) (sLen sCap : Nat) (cur : Array Value) (t : TypeId) (cs : List Value)
    (hu : P.underlying dT = some (.slice elem)) (hs : (P.info? elem).map (·.size) = some k)
    (hg : w.heap[g]? = some (.cells cur t (0, 0))) (hn : n = Nat.min sLen dLen) (hl : cs.length = n * k)
    (hsrc : ∀ j v, cs[j]? = some v → w.cell? (a.add j) = some v) (hfit : o + cs.length ≤ cur.size) (h1 : ∀ v ∈ cs, v.oneCell' = true) :
    (Builtin.copy_ #[dT, sT] ty #[.slice (some ⟨g, o, none⟩) dLen dCap, .slice (some a) sLen sCap]).run P w =
      .ok (goInt n) (w.setRow g (cur.toList.take o ++ cs ++ cur.toList.drop (o + cs.length)).toArray) := by
  have hld := run_loadCells_list (P := P) w a cs hsrc
  have hst := run_storeCells_at P g o t cs 0 cur w hg (by simpa using hfit) h1
  rw [hl] at hld
  cases hq : P.info? elem with
  | none => simp [hq] at hs
  | some i =>
    have hi : i.size = k := by simpa [hq] using hs
    simp [Builtin.copy_, run_underlying hu, Builtin.lenOf, Builtin.firstCells, sizeOf, typeInfo, hq, hi, ← hn, hld, hst]

open RowKit in
theorem step_copy_rowK {P : Program} {ops : Array Oper} {o : Oper} {a : Act} {w : World} {K : Act → World → Prop} {Q : Exit → Act → World → Prop} {E : Prop} (hgd : o.guard = none) (d s : Operand) (dT sT : TypeId)
    (ho : o.op = .call { callee := .builtin .copy, args := #[d, s], argTypes := #[dT, sT] }) (elem : TypeId) (hu : P.underlying dT = some (.slice elem)) (k : Nat) (hsz : (P.info? elem).map (·.size) = some k)
    (ad : Addr) (dLen dCap sLen sCap g off : Nat) (hd : a.eval d = .slice (some ⟨g, off / k * k, none⟩) dLen dCap) (hs : a.eval s = .slice (some ad) sLen sCap) (hoff : off / k * k = off)
    (cur : List Value) (t : TypeId) (hg : w.heap[g]? = some (.cells cur.toArray t (0, 0))) (n : Nat) (cs : List Value) (hn : n = Nat.min sLen dLen) (hl : cs.length = n * k)
    (hsrc : ∀ j v, cs[j]? = some v → w.cell? (ad.add j) = some v)
    (hfit : off + cs.length ≤ cur.length) (h1 : ∀ v ∈ cs, v.oneCell' = true) (B : Nat) (w0 : World) (hb : RowKit.Below B w0 w) (hBg : B ≤ g)
    (h : ∀ w', RowKit.Hid (w'.heap[g]? = some (.cells (splice cur off cs).toArray t (0, 0))) → RowKit.Below B w0 w' → K (a.put o.dst (goInt n)) w') :
    if Region.wanted o (yielded ops a.tmps) = true then Oper.wp P o a w K Q else E := by
  have hw : Region.wanted o (yielded ops a.tmps) = true := by simp [Region.wanted, hgd]
  rw [if_pos hw]
  rw [hoff] at hd
  have hrun := run_copy_rowK (P := P) w dT sT o.type elem k n g off dLen dCap ad sLen sCap cur.toArray t cs hu hsz hg hn hl hsrc (by simpa using hfit) h1
  unfold Oper.wp
  simp [execOp, ho, resolve, invoke, builtin, hd, hs, hrun, Result.andThen]
  exact h _ (show _ = _ by simpa [splice] using setRow_heap w g _ _ t _ hg) (below_setRow hb hBg _)
end Go
namespace Go.Proofs.YtkpieakgpnnonaaGreat.Dfl
open Go.ChangeShapes Go.WideShapes Go.ChangeAt Go.RowKit
open Go.Proofs.YtkpieakgpnnonaaGreat.Def
set_option linter.unusedVariables false
set_option maxRecDepth 100000

theorem info_run : (Tryz.prog.info? 83).map (fun i => (i.zero, i.size, i.bytes)) = some (some (.agg #[.int .i64 0, .int .i64 0, .int .i64 0]), 3, 24) := by kernel_rfl

/-- Runs as cells. -/
def cellsR : List (Nat × Nat) → List Value
  | [] => []
  | y :: Y => .int .i64 (y.1 : Nat) :: .int .i64 (y.2 : Nat) :: .int .i64 (xb y.1 : Nat) :: cellsR Y
theorem cellsR_length (l : List (Nat × Nat)) : (cellsR l).length = l.length * 3 := by
  induction l with
  | nil => rfl
  | cons t l ih => simp [cellsR, ih]; omega
theorem cellsR_append (l m : List (Nat × Nat)) : cellsR (l ++ m) = cellsR l ++ cellsR m := by
  induction l with
  | nil => rfl
  | cons t l ih => simp [cellsR, ih]
theorem cellsR_one (l : List (Nat × Nat)) : ∀ u ∈ cellsR l, u.oneCell' = true := by
  induction l with
  | nil => intro u hu; simp [cellsR] at hu
  | cons t l ih =>
    intro u hu
    simp only [cellsR, List.mem_cons] at hu
    rcases hu with rfl | rfl | rfl | h
    · rfl
    · rfl
    · rfl
    · exact ih u h
theorem cellsR_get (l : List (Nat × Nat)) : ∀ i (h : i < l.length), (cellsR l)[i * 3]? = some (.int .i64 (l[i].1 : Nat)) ∧ (cellsR l)[i * 3 + 1]? = some (.int .i64 (l[i].2 : Nat)) ∧ (cellsR l)[i * 3 + 2]? = some (.int .i64 (xb l[i].1 : Nat)) := by
  induction l with
  | nil => intro i h; simp at h
  | cons t l ih =>
    intro i h
    cases i with
    | zero => exact ⟨rfl, rfl, rfl⟩
    | succ i =>
      have := ih i (by simpa using h)
      rw [show (i + 1) * 3 = i * 3 + 3 by omega]
      simpa [cellsR] using this
theorem cellsR_made (n : Nat) : (madeCells #[.int .i64 0, .int .i64 0, .int .i64 0] (n * 3)).toList = cellsR (List.replicate n (0, 0)) := by
  apply List.ext_getElem?
  intro j
  by_cases hj : j < n * 3
  · obtain ⟨i, r, hr, rfl⟩ : ∃ i r, r < 3 ∧ j = i * 3 + r := ⟨j / 3, j % 3, Nat.mod_lt _ (by decide), by omega⟩
    obtain ⟨g0, g1, g2⟩ := cellsR_get (List.replicate n (0, 0)) i (by simp; omega)
    simp only [List.getElem_replicate] at g0 g1 g2
    have hm : (madeCells #[.int .i64 0, .int .i64 0, .int .i64 0] (n * 3)).toList[i * 3 + r]? = some (Value.int .i64 0) := by
      unfold madeCells
      simp [hj]
      obtain rfl | rfl | rfl : r = 0 ∨ r = 1 ∨ r = 2 := by omega
      · simp
      · simp
      · simp
    rw [hm]
    obtain rfl | rfl | rfl : r = 0 ∨ r = 1 ∨ r = 2 := by omega
    · exact g0.symm
    · exact g1.symm
    · exact g2.symm
  · rw [List.getElem?_eq_none (show (madeCells #[.int .i64 0, .int .i64 0, .int .i64 0] (n * 3)).toList.length ≤ j by simp [madeCells]; omega), List.getElem?_eq_none (by rw [cellsR_length]; simp; omega)]

/-- The first n runs filled. -/
def filR (x m n : Nat) : List Value := cellsR (List.replicate n (x, 0) ++ List.replicate (m - n) (0, 0))
theorem filR_length (x m n : Nat) (h : n ≤ m) : (filR x m n).length = m * 3 := by unfold filR; rw [cellsR_length]; simp; omega
theorem filR_get (x m n j : Nat) (h : j < n * 3) : (filR x m n)[j]? = (cellsR (List.replicate n (x, 0)))[j]? := by
  unfold filR
  rw [cellsR_append, List.getElem?_append_left (by rw [cellsR_length]; simpa using h)]
theorem filR_more (x m n c : Nat) (h : n + c ≤ m) : splice (filR x m n) (n * 3) (cellsR (List.replicate c (x, 0))) = filR x m (n + c) := by
  have l1 : (cellsR (List.replicate n (x, 0))).length = n * 3 := by rw [cellsR_length, List.length_replicate]
  have e1 : (filR x m n).take (n * 3) = cellsR (List.replicate n (x, 0)) := by
    unfold filR
    rw [cellsR_append, List.take_left' l1]
  have e2 : (filR x m n).drop (n * 3 + c * 3) = cellsR (List.replicate (m - (n + c)) (0, 0)) := by
    unfold filR
    rw [cellsR_append, ← List.drop_drop, List.drop_left' l1, show m - n = c + (m - (n + c)) by omega, ← List.replicate_append_replicate, cellsR_append, List.drop_left' (by rw [cellsR_length, List.length_replicate])]
  unfold splice
  rw [cellsR_length, List.length_replicate, e1, e2, ← List.append_assoc, ← cellsR_append, List.replicate_append_replicate, ← cellsR_append]
  rfl
theorem cellsR_rep (x c j : Nat) : (cellsR (List.replicate c (x, 0)))[j]? = if j < c * 3 then some (.int .i64 ((if j % 3 = 0 then x else if j % 3 = 1 then 0 else xb x : Nat) : Int)) else none := by
  by_cases hj : j < c * 3
  · rw [if_pos hj]
    obtain ⟨i, r, hr, rfl⟩ : ∃ i r, r < 3 ∧ j = i * 3 + r := ⟨j / 3, j % 3, Nat.mod_lt _ (by decide), by omega⟩
    obtain ⟨g0, g1, g2⟩ := cellsR_get (List.replicate c (x, 0)) i (by simp; omega)
    simp only [List.getElem_replicate] at g0 g1 g2
    rw [show (i * 3 + r) % 3 = r by omega]
    obtain rfl | rfl | rfl : r = 0 ∨ r = 1 ∨ r = 2 := by omega
    · simpa using g0
    · simpa using g1
    · simpa using g2
  · rw [if_neg hj, List.getElem?_eq_none (by rw [cellsR_length, List.length_replicate]; omega)]
/-- What is read of a row that is filled. -/
theorem rep_srcR {w : World} {g x m n c : Nat} (hB : w.heap[g]? = some (.cells (filR x m n).toArray 83 (0, 0))) (hc : c ≤ n) : ∀ j v, (cellsR (List.replicate c (x, 0)))[j]? = some v → w.cell? ((⟨g, 0, none⟩ : Addr).add j) = some v := by
  intro j v hj
  rw [cellsR_rep] at hj
  by_cases hjc : j < c * 3
  · rw [if_pos hjc] at hj
    rw [Go.WideShapes.add_plain, Nat.zero_add, cell_of_row _ _ _ _ _ _ hB, List.getElem?_toArray, filR_get _ _ _ _ (by omega), cellsR_rep, if_pos (by omega)]
    exact hj
  · rw [if_neg hjc] at hj; cases hj

theorem run_copy_filR (W : World) (ty : TypeId) (x B m dLen dCap sLen sCap c : Nat) (a : Addr) (hB : W.heap[B]? = some (.cells (filR x m 0).toArray 83 (0, 0))) (hc : c = Nat.min sLen dLen) (hm : c ≤ m)
    (hsrc : ∀ j v, (cellsR (List.replicate c (x, 0)))[j]? = some v → W.cell? (a.add j) = some v) :
    ∃ W2, (Builtin.copy_ #[78, 78] ty #[.slice (some ⟨B, 0, none⟩) dLen dCap, .slice (some a) sLen sCap]).run Tryz.prog W = .ok (.int .i64 c) W2 ∧ W2.heap[B]? = some (.cells (filR x m c).toArray 83 (0, 0)) ∧ W.grownBy W2 (some B) := by
  have hl : (cellsR (List.replicate c (x, 0))).length = c * 3 := by rw [cellsR_length, List.length_replicate]
  have h := run_copy_rowK (P := Tryz.prog) W 78 78 ty 83 3 c B 0 dLen dCap a sLen sCap (filR x m 0).toArray 83 (cellsR (List.replicate c (x, 0))) Tryz.underlying78 (by kernel_rfl) hB hc hl hsrc (by rw [hl, List.size_toArray, filR_length _ _ _ (by omega)]; omega) (cellsR_one _)
  have e : ((filR x m 0).toArray.toList.take 0 ++ cellsR (List.replicate c (x, 0)) ++ (filR x m 0).toArray.toList.drop (0 + (cellsR (List.replicate c (x, 0))).length)) = filR x m c := by
    have := filR_more x m 0 c (by omega)
    rw [Nat.zero_add, Nat.zero_mul] at this
    rw [← this]
    unfold splice
    rw [List.append_assoc]
  rw [e] at h
  refine ⟨_, h, setRow_heap W B _ _ _ _ hB, ⟨rfl, rfl, rfl, by simp [World.setRow], fun k hk hne => setRow_other W B k _ (fun e => hne (by rw [e]))⟩⟩

set_option maxHeartbeats 2000000 in
theorem repR_any (g0 x m : Nat) (w : World) (hx : x < 16) (hc : w.heap[g0]? = some (.cells #[.int .i64 x, .int .i64 0, .int .i64 0] 83 (0, 0))) (hm : m ≤ 100000) :
    Calls Tryz.prog 101 #[.slice (some ⟨g0, 0, none⟩) 1 1, .int .i64 m] w fun e w' => e = .returned (.slice (some ⟨w.heap.size, 0, none⟩) m m) ∧
      w'.heap[w.heap.size]? = some (.cells (cellsR (List.replicate m (x, 0))).toArray 83 (0, 0)) ∧ Below w.heap.size w w' := by
  have hend : filR x m m = cellsR (List.replicate m (x, 0)) := by unfold filR; rw [Nat.sub_self, List.replicate_zero, List.append_nil]
  rw [← hend]
  clear hend
  have C1 := Lib.hid (Lz.mul_any m w (by omega))
  obtain ⟨i0, hi, hz0, hz1, hz2⟩ := Huf.info_parts info_run
  have hms : IntKind.u64.wrap (m : Int) = m := by
    have e3 : IntKind.u64.bits = 64 := rfl
    have e4 : IntKind.u64.signed = false := rfl
    simp [IntKind.wrap, e3, e4]
    omega
  have hmk : (Instr.makeSlice 78 (.int .i64 m) (.int .i64 m)).run Tryz.prog w = .ok (.slice (some ⟨w.heap.size, 0, none⟩) m m) (w.alloc (.cells (filR x m 0).toArray 83)) := by
    have := run_make (P := Tryz.prog) w 78 83 i0 (.agg #[.int .i64 0, .int .i64 0, .int .i64 0]) Tryz.underlying78 hi hz0 .i64 .i64 m m (by omega) (by omega) (by rw [hz2]; omega) (by omega)
    rw [this, hz1]
    have e : (madeCells (Value.agg #[.int .i64 0, .int .i64 0, .int .i64 0]).cells (((m : Nat) : Int).toNat * 3)) = (filR x m 0).toArray := by
      apply Array.toList_inj.1
      rw [show (Value.agg #[.int .i64 0, .int .i64 0, .int .i64 0]).cells = #[Value.int .i64 0, Value.int .i64 0, Value.int .i64 0] from rfl, Int.toNat_natCast, cellsR_made]
      simp [filR]
    rw [e]
    simp
  obtain ⟨c, hcm⟩ : ∃ c : Nat, c = Nat.min 1 m := ⟨_, rfl⟩
  have hc1 : c ≤ 1 ∧ c ≤ m ∧ (c = 0 → m = 0) := by
    rw [hcm]; simp only [Nat.min_def]; split <;> omega
  obtain ⟨A1, hA1⟩ : ∃ A1, w.alloc (.cells (filR x m 0).toArray 83) = A1 := ⟨_, rfl⟩
  have hA2 : A1.heap[w.heap.size]? = some (.cells (filR x m 0).toArray 83 (0, 0)) := by rw [← hA1]; exact heap_alloc_new _ _
  have hA3 : Below w.heap.size w A1 := by rw [← hA1]; exact (Below.refl _ _).alloc (Nat.le_refl _) _
  have hg : g0 < w.heap.size := (Array.getElem?_eq_some_iff.1 hc).1
  have hA4 : A1.heap[g0]? = some (.cells #[.int .i64 x, .int .i64 0, .int .i64 0] 83 (0, 0)) := (hA3.block g0 hg).trans hc
  have hxb : xb x = 0 := by unfold xb; rw [if_pos hx]
  obtain ⟨A2, hcp, hB2, hb2⟩ := run_copy_filR A1 3 x w.heap.size m m m 1 1 c ⟨g0, 0, none⟩ hA2 hcm hc1.2.1 (by
      intro j v hj
      rw [cellsR_rep] at hj
      by_cases hjc : j < c * 3
      · rw [if_pos hjc] at hj
        rw [Go.WideShapes.add_plain, Nat.zero_add, cell_of_row _ _ _ _ _ _ hA4, ← hj]
        obtain rfl | rfl | rfl : j = 0 ∨ j = 1 ∨ j = 2 := by omega
        · rfl
        · rfl
        · simp [hxb]
      · rw [if_neg hjc] at hj; cases hj)
  have HB2 := Lib.hid hB2
  have HBL := Lib.hid (hA3.grown hb2 hA3.size (fun j hj => by simp at hj; omega))
  rw [hA1] at hmk
  have d8 : decide ((m : Int) < 0) = false := decide_eq_false (by omega)
  have d9 : decide ((9223372036854775807 : Int) < (m : Int)) = false := decide_eq_false (by omega)
  clear hA1 hA2 hA3 hA4 hc hcm hB2 hb2 hxb
  go_enter Tryz.func101, Tryz.ntmps101
  go_wp2_with fail
  refine C1.out.mono ?_
  rintro r w1 ⟨rfl, rfl⟩
  clear C1
  go_wp2_with fail
  go_loopw [8] (fun i wr => ∃ n : Nat, n ≤ m ∧ (n = 0 → m = 0) ∧ i = .int .i64 n ∧ wr.heap[w.heap.size]? = some (.cells (filR x m n).toArray 83 (0, 0)) ∧ Below w.heap.size w wr) (fun i _ => m - (intOf i).toNat)
  case atStart => exact ⟨c, hc1.2.1, hc1.2.2, rfl, HB2.out, HBL.out⟩
  case round =>
    obtain ⟨n, hn, hn0, rfl, hB, hb⟩ := hrel
    clear HB2 HBL hcp hmk
    by_cases hlt : n < m
    · have HB := Lib.hid hB
      have HL := Lib.hid hb
      clear hB hb
      obtain ⟨d, hdm⟩ : ∃ d : Nat, d = Nat.min n (m - n) := ⟨_, rfl⟩
      have hd1 : 1 ≤ d ∧ n + d ≤ m := by
        rw [hdm]; simp only [Nat.min_def]; split <;> omega
      have hdn : d ≤ n := by rw [hdm]; exact Nat.min_le_left _ _
      have HBD : Hid (wr.drew.heap[w.heap.size]? = some (.cells (filR x m n).toArray 83 (0, 0))) := Lib.hid HB.out
      have HP2 := Lib.hid (rep_srcR HBD.out hdn)
      have HLN : Hid ((cellsR (List.replicate d (x, 0))).length = d * 3) := Lib.hid (by rw [cellsR_length, List.length_replicate])
      have HF2 : Hid (n * 3 + (cellsR (List.replicate d (x, 0))).length ≤ (filR x m n).length) := Lib.hid (by rw [HLN.out, filR_length _ _ _ hn]; omega)
      have HM2 := Lib.hid (filR_more x m n d hd1.2)
      have HN2 := Lib.hid hdm
      have HO := Lib.hid (cellsR_one (List.replicate d (x, 0)))
      have HOF : Hid (n * 3 / 3 * 3 = n * 3) := Lib.hid (by omega)
      clear hdm
      obtain ⟨CS, hCS⟩ : ∃ CS, cellsR (List.replicate d (x, 0)) = CS := ⟨_, rfl⟩
      rw [hCS] at HP2 HLN HF2 HM2 HO
      clear hCS
      have hnm : ¬ m = n := by omega
      go_wp2_with fail
      go_region_law (refine step_copy_rowK rfl (.tmp 41) (.tmp 44) 78 78 rfl 83 Tryz.underlying78 3 (by kernel_rfl) ⟨w.heap.size, 0, none⟩ (m - n) (m - n) n m w.heap.size (n * 3) (by rw [HOF.out]; simp [Act.eval, Act.put]) (by simp [Act.eval, Act.put]) HOF.out (filR x m n) 83 HBD.out d CS HN2.out HLN.out HP2.out HF2.out HO.out w.heap.size w HL.out.drew (Nat.le_refl _) ?_; intro w3 hg3 hb3)
      have HB3 : Hid (w3.heap[w.heap.size]? = some (.cells (filR x m (n + d)).toArray 83 (0, 0))) := Lib.hid (by rw [← HM2.out]; exact hg3.out)
      have HL3 := Lib.hid hb3
      have hw : IntKind.i64.wrap ((n : Int) + d) = n + d := IntWalk.i64_in _ (by omega)
      rw [hw]
      simp only [List.getElem_toArray, List.getElem_cons_succ, List.getElem_cons_zero, Act.put, List.setIfInBounds_toArray, List.set_cons_succ, List.set_cons_zero]
      clear hg3 hb3 HB HL HBD HP2 HLN HF2 HM2 HN2 HO HOF
      go_wp2_with fail
      exact ⟨⟨n + d, hd1.2, by omega, by go_num, HB3.out, HL3.out⟩, by simp [intOf]; omega⟩
    · obtain rfl : n = m := by omega
      have HB := Lib.hid hB
      have HL := Lib.hid hb
      clear hB hb
      go_wp2_with fail
      go_ret
      exact ⟨rfl, HB.out, HL.out⟩
end Go.Proofs.YtkpieakgpnnonaaGreat.Dfl
