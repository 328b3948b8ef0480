/-
  Contracts of the library's slices.Grow and slices.Concat, at packages and at numbers.
-/
import Derived.Test.YtildikdoimobhaaHufPack
import Derived.Test.YtildikdoimobhaaHufNew
import Derived.Lib.AppendZerosOnto
namespace Go.Proofs.Ytildikdoimobhaa.Huf
open Go.ChangeShapes Go.WideShapes Go.ChangeAt Go.RowKit
set_option linter.unusedVariables false

theorem infoP : (Try.prog.info? 80).map (fun i => (i.zero, i.size, i.bytes)) = some (some (.agg #[.int .i64 0, .slice none 0 0]), 2, 32) := by kernel_rfl
theorem infoI : (Try.prog.info? 3).map (fun i => (i.zero, i.size, i.bytes)) = some (some (.int .i64 0), 1, 8) := info_int

theorem zeros_size (z : Array Value) (n : Nat) : (Builtin.zeroCells z n).size = n * z.size := by
  simp [Builtin.zeroCells]

/-- What is told of a slice that is read. -/
def Sees (w : World) (size : Nat) (v : Value) (n : Nat) (cs : List Value) : Prop :=
  cs.length = n * size ∧ (∀ u ∈ cs, u.oneCell' = true) ∧ ((v = .slice none 0 0 ∧ n = 0) ∨ ∃ g off cap, v = .slice (some ⟨g, off, none⟩) n cap ∧ g < w.heap.size ∧ ∀ j u, cs[j]? = some u → w.cell? ⟨g, off + j, none⟩ = some u)
theorem Sees.form {w : World} {size : Nat} {v : Value} {n : Nat} {cs : List Value} (h : Sees w size v n cs) : ∃ a cap, v = .slice a n cap := by
  rcases h.2.2 with ⟨h1, h2⟩ | ⟨g, off, cap, h1, _⟩
  · exact ⟨none, 0, by rw [h1, h2]⟩
  · exact ⟨_, cap, h1⟩
theorem Sees.below {w w' : World} {size B : Nat} {v : Value} {n : Nat} {cs : List Value} (h : Sees w size v n cs) (k : Below B w w') (hB : w.heap.size ≤ B) : Sees w' size v n cs := by
  refine ⟨h.1, h.2.1, ?_⟩
  rcases h.2.2 with h1 | ⟨g, off, cap, h1, h2, h3⟩
  · exact .inl h1
  · exact .inr ⟨g, off, cap, h1, Nat.lt_of_lt_of_le h2 k.size, fun j u hj => (k.cell (p := ⟨g, off + j, none⟩) (show g < B by omega)).trans (h3 j u hj)⟩

theorem run_append_sees2 {P : Program} (w : World) (t ty e : TypeId) (i : TypeInfo) (z : Value) (size bytes : Nat) (ht : P.underlying t = some (.slice e)) (hi : P.info? e = some i) (hz : i.zero = some z)
    (hsize : i.size = size) (hby : i.bytes = bytes) (hzs : z.cells.size = size) (hsz : 0 < size)
    (v : Value) (n : Nat) (xs : List Value) (hown : w.ownsRow 0 e size v n xs) (src : Value) (m : Nat) (cs : List Value) (hs : Sees w size src m cs) (h63 : n + m ≤ maxLen) (hbytes : (n + m) * bytes ≤ 140737488355328) :
    ∃ v' w', (Builtin.append_ #[t, t] ty #[v, src]).run P w = .ok v' w' ∧ w'.ownsRow 0 e size v' (n + m) (xs ++ cs) ∧ w.grownBy w' v.ownBlock ∧ Bit.Near w v v' := by
  rcases hs.2.2 with ⟨rfl, rfl⟩ | ⟨g, off, cap, rfl, _, hc⟩
  · have : cs = [] := List.length_eq_zero_iff.1 (by have := hs.1; omega)
    subst this
    exact ⟨v, w, run_append_owned_none (P := P) (w := w) 0 t ty e i size ht hi v n xs hown, by simpa using hown, World.grownBy.refl _ _, Bit.Near.refl _ _⟩
  · exact Bit.run_append_near (P := P) w t ty e i z size bytes ht hi hz hsize hby hzs hsz v n xs hown ⟨g, off, none⟩ m cap cs hs.1 (fun j u hj => by rw [Go.WideShapes.add_plain]; exact hc j u hj) hs.2.1 h63 hbytes

theorem wpl_append_sees {P : Program} (w : World) {ops : Array Oper} {rest : List Oper} {o : Oper} {a : Act} {Q : Exit → Act → World → Prop} (hgd : o.guard = none) (s x : Operand) (t : TypeId)
    (ho : o.op = .call { callee := .builtin .append, args := #[s, x], argTypes := #[t, t] })
    (e : TypeId) (i : TypeInfo) (z : Value) (size bytes : Nat) (ht : P.underlying t = some (.slice e)) (hi : P.info? e = some i) (hz : i.zero = some z)
    (hsize : i.size = size) (hby : i.bytes = bytes) (hzs : z.cells.size = size) (hsz : 0 < size)
    (v : Value) (n : Nat) (xs : List Value) (hv : a.eval s = v) (hown : w.ownsRow 0 e size v n xs) (src : Value) (m : Nat) (cs : List Value) (hx : a.eval x = src) (hs : Sees w size src m cs) (h63 : n + m ≤ maxLen) (hbytes : (n + m) * bytes ≤ 140737488355328)
    (h : ∀ v' w', w'.ownsRow 0 e size v' (n + m) (xs ++ cs) → w.grownBy w' v.ownBlock → Bit.Near w v v' → wpList P ops Q rest (a.put o.dst v') w') : wpList P ops Q (o :: rest) a w := by
  refine wpList_plain hgd fun K hK => ?_
  obtain ⟨v', w', hr, h2, h3, h4⟩ := run_append_sees2 (P := P) w t o.type e i z size bytes ht hi hz hsize hby hzs hsz v n xs hown src m cs hs h63 hbytes
  unfold Oper.wp execOp
  simp only [ho, resolve, invoke, builtin, Sem.run_bind, Sem.run_pure, Result.andThen_ok, List.map_toArray, List.map_cons, List.map_nil, hv, hx, hr]
  exact hK _ _ (h v' w' h2 h3 h4)

set_option maxRecDepth 10000 in
theorem growP_any (n : Nat) (w : World) (hn : n ≤ 1000000) :
    Calls Try.prog 56 #[.slice none 0 0, .int .i64 n] w fun e w' => ∃ v, e = .returned v ∧ w'.ownsRow w.heap.size 80 2 v 0 [] ∧ Below w.heap.size w w' := by
  obtain ⟨i0, hi, hz0, hz1, hz2⟩ := info_parts infoP
  have h1 : ¬ ((n : Int) < 0) := by omega
  by_cases h0 : n = 0
  · subst h0
    go_enter Try.func56, Try.ntmps56
    go_wp2_with fail
    go_ret
    exact ⟨_, rfl, World.ownsRow_nil _ _ _ _, Below.refl _ _⟩
  · have hb : (0 + n) * i0.bytes ≤ 140737488355328 := by rw [hz2, Nat.zero_add]; omega
    have hr : ∀ ty, (Builtin.append_ #[76, 3] ty #[.slice none 0 0, .int .i64 n]).run Try.prog w =
        .ok (.slice (some ⟨w.heap.size, 0, none⟩) n (grownCap w n 0 80)) (w.drew.alloc (.cells (Builtin.zeroCells (Value.agg #[.int .i64 0, .slice none 0 0]).cells n ++ Builtin.zeroCells (Value.agg #[.int .i64 0, .slice none 0 0]).cells (grownCap w n 0 80 - n)) 80)) := fun ty => by
      have h := Lib.run_append_grow_zeros (P := Try.prog) w 76 3 ty 80 i0 (Value.agg #[.int .i64 0, .slice none 0 0]) .i64 .i64 Try.underlying76 Try.underlying3 hi hz0 none 0 0 [] (by exact run_firstCells_none w.drew i0.size 0 0 0) n (by omega) (by rw [hz1]; decide) (by omega) (by omega)
        (by rw [hz2]; omega) (growslice_fits (by omega) hb)
      simpa using h
    have hG := grownCap_ge w n 0 80
    have hM := grownCap_le_maxLen w n 0 80 (by unfold maxLen; omega)
    generalize grownCap w n 0 80 = G at *
    have hn0 : (0 : Int) < (n : Int) := by omega
    have hp : (n : Int) > 0 := hn0
    have HF : Hid ((w.drew.alloc (.cells (Builtin.zeroCells (Value.agg #[.int .i64 0, .slice none 0 0]).cells n ++ Builtin.zeroCells (Value.agg #[.int .i64 0, .slice none 0 0]).cells (G - n)) 80)).ownsRow w.heap.size 80 2 (.slice (some ⟨w.heap.size, 0, none⟩) 0 G) 0 [] ∧ Below w.heap.size w (w.drew.alloc (.cells (Builtin.zeroCells (Value.agg #[.int .i64 0, .slice none 0 0]).cells n ++ Builtin.zeroCells (Value.agg #[.int .i64 0, .slice none 0 0]).cells (G - n)) 80))) := by
      refine ⟨⟨rfl, .inr ⟨w.heap.size, G, _, rfl, Nat.le_refl _, heap_alloc_new _ _, Nat.zero_le _, hM, ?_, by simp⟩⟩, (Below.refl _ _).drew.alloc (Nat.le_refl _) _⟩
      rw [Array.size_append, zeros_size, zeros_size]
      show n * 2 + (G - n) * 2 = G * 2
      omega
    have hG63 : G ≤ 9223372036854775807 := hM
    clear hb hM
    go_enter Try.func56, Try.ntmps56
    go_wp2_with (at_builtin; refine Lib.wpList_append_run _ rfl _ _ _ _ rfl _ _ rfl rfl _ _ (hr _) ?_)
    go_ret
    exact ⟨_, rfl, HF.out⟩

set_option maxRecDepth 10000 in
set_option maxHeartbeats 2000000 in
theorem concatP_any (v1 v2 : Value) (n1 n2 : Nat) (c1 c2 : List Value) (B : Nat) (w : World) (h1 : Sees w 2 v1 n1 c1) (h2 : Sees w 2 v2 n2 c2) (k1 : w.cell? ⟨B, 0, none⟩ = some v1) (k2 : w.cell? ⟨B, 1, none⟩ = some v2)
    (hB : B < w.heap.size) (hn1 : n1 ≤ 500000) (hn2 : n2 ≤ 500000) :
    Calls Try.prog 52 #[.slice (some ⟨B, 0, none⟩) 2 2] w fun e w' => ∃ v, e = .returned v ∧ w'.ownsRow 0 80 2 v (n1 + n2) (c1 ++ c2) ∧ Below w.heap.size w w' ∧ ∀ j, v.ownBlock = some j → w.heap.size ≤ j := by
  obtain ⟨i0, hi, hz0, hz1, hz2⟩ := info_parts infoP
  obtain ⟨a1, p1, e1⟩ := h1.form
  obtain ⟨a2, p2, e2⟩ := h2.form
  subst e1
  subst e2
  have H1 := Lib.hid h1
  have H2 := Lib.hid h2
  have K1 := Lib.hid k1
  have K2 := Lib.hid k2
  clear h1 h2
  go_enter Try.func52, Try.ntmps52
  go_wp2_with fail
  go_loop [3, 11] (fun x i => ∃ k : Nat, k ≤ 2 ∧ i = .int .i64 k ∧ x = .int .i64 ((if k = 0 then 0 else if k = 1 then n1 else n1 + n2 : Nat) : Int)) (fun _ i => 2 - (intOf i).toNat)
  case atStart => exact ⟨0, Nat.zero_le _, rfl, rfl⟩
  case round =>
    obtain ⟨k, hk, rfl, rfl⟩ := hrel
    obtain rfl | rfl | rfl : k = 0 ∨ k = 1 ∨ k = 2 := by omega
    · go_wp2_with fail
      refine ⟨⟨1, by omega, by go_num, by simp⟩, ?_⟩
      simp [intOf]
    · go_wp2_with fail
      refine ⟨⟨2, by omega, by go_num, by simp⟩, ?_⟩
      simp [intOf]
    · have e12 : ((n1 + n2 : Nat) : Int) = (n1 : Int) + n2 := by omega
      go_wp2_with fail
      have C1 := Lib.hid (growP_any (n1 + n2) w (by omega))
      rw [e12] at C1
      refine C1.out.mono ?_
      rintro r w1 ⟨v, rfl, ho, hb⟩
      have HV : Hid (∀ j, v.ownBlock = some j → w.heap.size ≤ j) := fun j hj => (ho.lt j hj).1
      have HO := Lib.hid (show w1.ownsRow 0 80 2 v 0 [] from ⟨ho.1, by
        rcases ho.2 with h | ⟨g, cap, cur, h1, _, h2⟩
        · exact .inl h
        · exact .inr ⟨g, cap, cur, h1, Nat.zero_le _, h2⟩⟩)
      have HB := Lib.hid hb
      clear ho hb C1 e12 k1 k2 hk
      go_wp2_with fail
      go_loopw [6, 27] (fun x i wr => ∃ k : Nat, k ≤ 2 ∧ i = .int .i64 k ∧ wr.ownsRow 0 80 2 x (if k = 0 then 0 else if k = 1 then n1 else n1 + n2) (if k = 0 then [] else if k = 1 then c1 else c1 ++ c2) ∧ Below w.heap.size w wr ∧ ∀ j, x.ownBlock = some j → w.heap.size ≤ j) (fun _ i _ => 2 - (intOf i).toNat)
      case atStart => exact ⟨0, Nat.zero_le _, rfl, HO.out, HB.out, HV.out⟩
      case round =>
        obtain ⟨k, hk, rfl, ho, hb, hv⟩ := hrel
        clear HO HB HV
        have q1 := (hb.cell (p := ⟨B, 0, none⟩) hB).trans K1.out
        have q2 := (hb.cell (p := ⟨B, 1, none⟩) hB).trans K2.out
        have S1 := Lib.hid (H1.out.below hb (Nat.le_refl _))
        have S2 := Lib.hid (H2.out.below hb (Nat.le_refl _))
        have HO := Lib.hid ho
        have HB := Lib.hid hb
        have HV := Lib.hid hv
        clear ho hb hv
        have NEXT : Hid (∀ wr' v', wr.grownBy wr' u6.ownBlock → Bit.Near wr u6 v' → Below w.heap.size w wr' ∧ ∀ j, v'.ownBlock = some j → w.heap.size ≤ j) := fun wr' v' hg hn =>
          ⟨HB.out.grown hg HB.out.size HV.out, fun j hj => by
            rcases hn j hj with h | h
            · exact HV.out j h
            · exact Nat.le_trans HB.out.size h⟩
        obtain rfl | rfl | rfl : k = 0 ∨ k = 1 ∨ k = 2 := by omega
        · have HO2 : Hid (wr.ownsRow 0 80 2 u6 0 []) := HO.out
          clear HO q2
          go_wp2_with (at_builtin; refine wpl_append_sees _ rfl (.tmp 31) (.tmp 32) 76 rfl 80 i0 (Value.agg #[.int .i64 0, .slice none 0 0]) 2 32 Try.underlying76 hi hz0 hz1 hz2 rfl (by decide) u6 0 [] rfl HO2.out _ n1 c1 rfl S1.out (by unfold maxLen; omega) (by omega) ?_; intro v3 w3 o3 g3 n3)
          have N3 := Lib.hid (NEXT.out _ _ g3 n3)
          have O3 := Lib.hid o3
          clear g3 n3 o3
          refine ⟨⟨1, by omega, by go_num, ?_, N3.out.1, N3.out.2⟩, ?_⟩
          · have := O3.out
            rw [Nat.zero_add, List.nil_append] at this
            exact this
          · simp [intOf]
        · have HO2 : Hid (wr.ownsRow 0 80 2 u6 n1 c1) := HO.out
          clear HO q1
          go_wp2_with (at_builtin; refine wpl_append_sees _ rfl (.tmp 31) (.tmp 32) 76 rfl 80 i0 (Value.agg #[.int .i64 0, .slice none 0 0]) 2 32 Try.underlying76 hi hz0 hz1 hz2 rfl (by decide) u6 n1 c1 rfl HO2.out _ n2 c2 rfl S2.out (by unfold maxLen; omega) (by omega) ?_; intro v3 w3 o3 g3 n3)
          have N3 := Lib.hid (NEXT.out _ _ g3 n3)
          have O3 := Lib.hid o3
          clear g3 n3 o3
          refine ⟨⟨2, by omega, by go_num, O3.out, N3.out.1, N3.out.2⟩, ?_⟩
          simp [intOf]
        · have HO2 : Hid (wr.ownsRow 0 80 2 u6 (n1 + n2) (c1 ++ c2)) := HO.out
          clear HO q1 q2
          go_wp2_with fail
          go_ret
          exact ⟨_, rfl, HO2.out, HB.out, HV.out⟩

set_option maxRecDepth 10000 in
theorem growI_any (n : Nat) (w : World) (hn : n ≤ 1000000) :
    Calls Try.prog 61 #[.slice none 0 0, .int .i64 n] w fun e w' => ∃ v, e = .returned v ∧ w'.ownsRow w.heap.size 3 1 v 0 [] ∧ Below w.heap.size w w' := by
  obtain ⟨i0, hi, hz0, hz1, hz2⟩ := info_parts infoI
  have h1 : ¬ ((n : Int) < 0) := by omega
  by_cases h0 : n = 0
  · subst h0
    go_enter Try.func61, Try.ntmps61
    go_wp2_with fail
    go_ret
    exact ⟨_, rfl, World.ownsRow_nil _ _ _ _, Below.refl _ _⟩
  · have hb : (0 + n) * i0.bytes ≤ 140737488355328 := by rw [hz2, Nat.zero_add]; omega
    have hr : ∀ ty, (Builtin.append_ #[22, 3] ty #[.slice none 0 0, .int .i64 n]).run Try.prog w =
        .ok (.slice (some ⟨w.heap.size, 0, none⟩) n (grownCap w n 0 3)) (w.drew.alloc (.cells (Builtin.zeroCells (Value.int .i64 0).cells n ++ Builtin.zeroCells (Value.int .i64 0).cells (grownCap w n 0 3 - n)) 3)) := fun ty => by
      have h := Lib.run_append_grow_zeros (P := Try.prog) w 22 3 ty 3 i0 (Value.int .i64 0) .i64 .i64 Try.underlying22 Try.underlying3 hi hz0 none 0 0 [] (by exact run_firstCells_none w.drew i0.size 0 0 0) n (by omega) (by rw [hz1]; decide) (by omega) (by omega)
        (by rw [hz2]; omega) (growslice_fits (by omega) hb)
      simpa using h
    have hG := grownCap_ge w n 0 3
    have hM := grownCap_le_maxLen w n 0 3 (by unfold maxLen; omega)
    generalize grownCap w n 0 3 = G at *
    have hn0 : (0 : Int) < (n : Int) := by omega
    have hp : (n : Int) > 0 := hn0
    have HF : Hid ((w.drew.alloc (.cells (Builtin.zeroCells (Value.int .i64 0).cells n ++ Builtin.zeroCells (Value.int .i64 0).cells (G - n)) 3)).ownsRow w.heap.size 3 1 (.slice (some ⟨w.heap.size, 0, none⟩) 0 G) 0 [] ∧ Below w.heap.size w (w.drew.alloc (.cells (Builtin.zeroCells (Value.int .i64 0).cells n ++ Builtin.zeroCells (Value.int .i64 0).cells (G - n)) 3))) := by
      refine ⟨⟨rfl, .inr ⟨w.heap.size, G, _, rfl, Nat.le_refl _, heap_alloc_new _ _, Nat.zero_le _, hM, ?_, by simp⟩⟩, (Below.refl _ _).drew.alloc (Nat.le_refl _) _⟩
      rw [Array.size_append, zeros_size, zeros_size]
      show n * 1 + (G - n) * 1 = G * 1
      omega
    have hG63 : G ≤ 9223372036854775807 := hM
    clear hb hM
    go_enter Try.func61, Try.ntmps61
    go_wp2_with (at_builtin; refine Lib.wpList_append_run _ rfl _ _ _ _ rfl _ _ rfl rfl _ _ (hr _) ?_)
    go_ret
    exact ⟨_, rfl, HF.out⟩

set_option maxRecDepth 10000 in
set_option maxHeartbeats 2000000 in
theorem concatI_any (v1 v2 : Value) (n1 n2 : Nat) (c1 c2 : List Value) (B : Nat) (w : World) (h1 : Sees w 1 v1 n1 c1) (h2 : Sees w 1 v2 n2 c2) (k1 : w.cell? ⟨B, 0, none⟩ = some v1) (k2 : w.cell? ⟨B, 1, none⟩ = some v2)
    (hB : B < w.heap.size) (hn1 : n1 ≤ 500000) (hn2 : n2 ≤ 500000) :
    Calls Try.prog 55 #[.slice (some ⟨B, 0, none⟩) 2 2] w fun e w' => ∃ v, e = .returned v ∧ w'.ownsRow 0 3 1 v (n1 + n2) (c1 ++ c2) ∧ Below w.heap.size w w' ∧ ∀ j, v.ownBlock = some j → w.heap.size ≤ j := by
  obtain ⟨i0, hi, hz0, hz1, hz2⟩ := info_parts infoI
  obtain ⟨a1, p1, e1⟩ := h1.form
  obtain ⟨a2, p2, e2⟩ := h2.form
  subst e1
  subst e2
  have H1 := Lib.hid h1
  have H2 := Lib.hid h2
  have K1 := Lib.hid k1
  have K2 := Lib.hid k2
  clear h1 h2
  go_enter Try.func55, Try.ntmps55
  go_wp2_with fail
  go_loop [3, 11] (fun x i => ∃ k : Nat, k ≤ 2 ∧ i = .int .i64 k ∧ x = .int .i64 ((if k = 0 then 0 else if k = 1 then n1 else n1 + n2 : Nat) : Int)) (fun _ i => 2 - (intOf i).toNat)
  case atStart => exact ⟨0, Nat.zero_le _, rfl, rfl⟩
  case round =>
    obtain ⟨k, hk, rfl, rfl⟩ := hrel
    obtain rfl | rfl | rfl : k = 0 ∨ k = 1 ∨ k = 2 := by omega
    · go_wp2_with fail
      refine ⟨⟨1, by omega, by go_num, by simp⟩, ?_⟩
      simp [intOf]
    · go_wp2_with fail
      refine ⟨⟨2, by omega, by go_num, by simp⟩, ?_⟩
      simp [intOf]
    · have e12 : ((n1 + n2 : Nat) : Int) = (n1 : Int) + n2 := by omega
      go_wp2_with fail
      have C1 := Lib.hid (growI_any (n1 + n2) w (by omega))
      rw [e12] at C1
      refine C1.out.mono ?_
      rintro r w1 ⟨v, rfl, ho, hb⟩
      have HV : Hid (∀ j, v.ownBlock = some j → w.heap.size ≤ j) := fun j hj => (ho.lt j hj).1
      have HO := Lib.hid (show w1.ownsRow 0 3 1 v 0 [] from ⟨ho.1, by
        rcases ho.2 with h | ⟨g, cap, cur, h1, _, h2⟩
        · exact .inl h
        · exact .inr ⟨g, cap, cur, h1, Nat.zero_le _, h2⟩⟩)
      have HB := Lib.hid hb
      clear ho hb C1 e12 k1 k2 hk
      go_wp2_with fail
      go_loopw [6, 27] (fun x i wr => ∃ k : Nat, k ≤ 2 ∧ i = .int .i64 k ∧ wr.ownsRow 0 3 1 x (if k = 0 then 0 else if k = 1 then n1 else n1 + n2) (if k = 0 then [] else if k = 1 then c1 else c1 ++ c2) ∧ Below w.heap.size w wr ∧ ∀ j, x.ownBlock = some j → w.heap.size ≤ j) (fun _ i _ => 2 - (intOf i).toNat)
      case atStart => exact ⟨0, Nat.zero_le _, rfl, HO.out, HB.out, HV.out⟩
      case round =>
        obtain ⟨k, hk, rfl, ho, hb, hv⟩ := hrel
        clear HO HB HV
        have q1 := (hb.cell (p := ⟨B, 0, none⟩) hB).trans K1.out
        have q2 := (hb.cell (p := ⟨B, 1, none⟩) hB).trans K2.out
        have S1 := Lib.hid (H1.out.below hb (Nat.le_refl _))
        have S2 := Lib.hid (H2.out.below hb (Nat.le_refl _))
        have HO := Lib.hid ho
        have HB := Lib.hid hb
        have HV := Lib.hid hv
        clear ho hb hv
        have NEXT : Hid (∀ wr' v', wr.grownBy wr' u6.ownBlock → Bit.Near wr u6 v' → Below w.heap.size w wr' ∧ ∀ j, v'.ownBlock = some j → w.heap.size ≤ j) := fun wr' v' hg hn =>
          ⟨HB.out.grown hg HB.out.size HV.out, fun j hj => by
            rcases hn j hj with h | h
            · exact HV.out j h
            · exact Nat.le_trans HB.out.size h⟩
        obtain rfl | rfl | rfl : k = 0 ∨ k = 1 ∨ k = 2 := by omega
        · have HO2 : Hid (wr.ownsRow 0 3 1 u6 0 []) := HO.out
          clear HO q2
          go_wp2_with (at_builtin; refine wpl_append_sees _ rfl (.tmp 31) (.tmp 32) 22 rfl 3 i0 (Value.int .i64 0) 1 8 Try.underlying22 hi hz0 hz1 hz2 rfl (by decide) u6 0 [] rfl HO2.out _ n1 c1 rfl S1.out (by unfold maxLen; omega) (by omega) ?_; intro v3 w3 o3 g3 n3)
          have N3 := Lib.hid (NEXT.out _ _ g3 n3)
          have O3 := Lib.hid o3
          clear g3 n3 o3
          refine ⟨⟨1, by omega, by go_num, ?_, N3.out.1, N3.out.2⟩, ?_⟩
          · have := O3.out
            rw [Nat.zero_add, List.nil_append] at this
            exact this
          · simp [intOf]
        · have HO2 : Hid (wr.ownsRow 0 3 1 u6 n1 c1) := HO.out
          clear HO q1
          go_wp2_with (at_builtin; refine wpl_append_sees _ rfl (.tmp 31) (.tmp 32) 22 rfl 3 i0 (Value.int .i64 0) 1 8 Try.underlying22 hi hz0 hz1 hz2 rfl (by decide) u6 n1 c1 rfl HO2.out _ n2 c2 rfl S2.out (by unfold maxLen; omega) (by omega) ?_; intro v3 w3 o3 g3 n3)
          have N3 := Lib.hid (NEXT.out _ _ g3 n3)
          have O3 := Lib.hid o3
          clear g3 n3 o3
          refine ⟨⟨2, by omega, by go_num, O3.out, N3.out.1, N3.out.2⟩, ?_⟩
          simp [intOf]
        · have HO2 : Hid (wr.ownsRow 0 3 1 u6 (n1 + n2) (c1 ++ c2)) := HO.out
          clear HO q1 q2
          go_wp2_with fail
          go_ret
          exact ⟨_, rfl, HO2.out, HB.out, HV.out⟩

end Go.Proofs.Ytildikdoimobhaa.Huf
