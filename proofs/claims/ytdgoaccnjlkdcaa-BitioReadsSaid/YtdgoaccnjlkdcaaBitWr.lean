/-
  Contracts of bitio.Writer's methods, over the row of bits that was put in.
-/
import Derived.Test.YtdgoaccnjlkdcaaBitPut
import Derived.Test.YtdgoaccnjlkdcaaOctMath
namespace Go.Proofs.Ytdgoaccnjlkdcaa.Bit
open Go.ChangeShapes Go.WideShapes Go.ChangeAt Go.RowKit
set_option linter.unusedVariables false

/-- Block b holds a writer into which the bits l were put; its bytes lie in v. -/
def WrAt (w : World) (b : Nat) (v : Value) (l : List Bool) : Prop := WrRaw w b v (pack l) (fre l : Nat)

theorem fre_zero {l : List Bool} (h : l.length % 8 = 0) : fre l = 0 := by unfold fre; omega

theorem put_any (b : Nat) (v : Value) (l : List Bool) (bb : Bool) (w : World) (h : WrAt w b v l) (hm : l.length ≤ 1099511627776) :
    Calls Try.prog 33 #[.pointer (some ⟨b, 0, none⟩), .int .i64 bb.toNat] w fun r w' => r = .returned (.tuple #[]) ∧
      ∃ v', WrAt w' b v' (l ++ [bb]) ∧ But b v w w' ∧ Near w v v' := by
  have hl := pack_length l
  by_cases h8 : l.length % 8 = 0
  · have h0 : WrRaw w b v (pack l) 0 := by have := h; unfold WrAt at this; rw [fre_zero h8] at this; exact this
    refine (put_none b v (pack l) bb w h0 (by omega)).mono ?_
    rintro r w' ⟨rfl, v', h1, h2, h3⟩
    refine ⟨rfl, v', ?_, h2, h3⟩
    unfold WrAt
    rw [pack_new l bb h8, show fre (l ++ [bb]) = 7 by unfold fre; rw [List.length_append]; simp; omega]
    exact h1
  · obtain ⟨g, cap, rfl, _⟩ := h.shape (by omega)
    have hi : l.length / 8 = (pack l).length - 1 := by omega
    have hx := pack_last l h8
    have hb : bb.toNat ≤ 1 := by cases bb <;> simp
    have hlt := last_lt l
    have hp : (2 : Nat) ^ (l.length % 8) ≤ 2 ^ 7 := Nat.pow_le_pow_right (by decide) (by omega)
    have h2 : 2 ^ (l.length % 8) * bb.toNat ≤ 2 ^ (l.length % 8) * 1 := Nat.mul_le_mul_left _ hb
    have hf : 8 - fre l = l.length % 8 := by unfold fre; omega
    have hy := u8_or_more (num (l.drop (8 * (l.length / 8)))) bb.toNat (l.length % 8) hlt hb (by omega)
    have n1 : (UInt8.ofNat (num (l.drop (8 * (l.length / 8))))).toNat = num (l.drop (8 * (l.length / 8))) := by
      rw [UInt8.toNat_ofNat']; exact Nat.mod_eq_of_lt (by omega)
    have n2 : (UInt8.ofNat (num (l.drop (8 * (l.length / 8))) + 2 ^ (l.length % 8) * bb.toNat)).toNat = num (l.drop (8 * (l.length / 8))) + 2 ^ (l.length % 8) * bb.toNat := by
      rw [UInt8.toNat_ofNat']; exact Nat.mod_eq_of_lt (by omega)
    refine (put_some b g cap (pack l) (fre l) bb w h (by omega) (by unfold fre; omega) (by unfold fre; omega) (by omega) _ (by rw [← hi]; exact hx)
      (UInt8.ofNat (num (l.drop (8 * (l.length / 8))) + 2 ^ (l.length % 8) * bb.toNat)) (by rw [hf, n1, n2]; exact hy)).mono ?_
    rintro r w' ⟨rfl, h3, h4⟩
    refine ⟨rfl, _, ?_, h4, Near.refl _ _⟩
    unfold WrAt
    rw [pack_more l bb h8, show fre (l ++ [bb]) = fre l - 1 by unfold fre; rw [List.length_append]; simp; omega]
    rw [← hi] at h3
    exact h3

set_option maxHeartbeats 1000000 in
theorem wbits_any (b : Nat) (v : Value) (l : List Bool) (n x : Int) (w : World) (h : WrAt w b v l) (hm : l.length ≤ 1099511627000) :
    Calls Try.prog 10 #[.pointer (some ⟨b, 0, none⟩), .int .i64 n, .int .i64 x] w fun r w' => r = .returned (.tuple #[]) ∧
      ∃ v', WrAt w' b v' (l ++ bitsOf (cnt n) x) ∧ But b v w w' ∧ Near w v v' := by
  have hle := cnt_le n
  generalize hn : cnt n = m at *
  have HN := Lib.hid hn
  clear hn
  go_enter Try.func10, Try.ntmps10
  go_wp2_with fail
  refine (within_any _ _).mono ?_
  rintro r w' ⟨rfl, rfl⟩
  rw [HN.out]
  go_wp2_with fail
  go_loopw [11] (fun i wr => ∃ (k : Nat) (u : Value), k ≤ m ∧ i = .int .i64 k ∧ WrAt wr b u (l ++ bitsOf k x) ∧ But b v w wr ∧ Near w v u) (fun i _ => m - (intOf i).toNat)
  case atStart => exact ⟨0, v, Nat.zero_le _, rfl, by simpa [bitsOf] using h, But.refl _ _ _, Near.refl _ _⟩
  case round =>
    obtain ⟨k, u, hk, rfl, h1, h2, h3⟩ := hrel
    by_cases hlt : k < m
    · go_wp2_with fail
      refine (bit_any _ _ (by omega) _).mono ?_
      rintro r w' ⟨rfl, rfl⟩
      go_wp2_with fail
      refine (put_any b u _ (ibit x k) _ h1 (by rw [List.length_append, bitsOf_length]; omega)).mono ?_
      rintro r w' ⟨rfl, u', h4, h5, h6⟩
      have h7 := h2.trans h3 h5
      have h8 := h3.trans h6 h2.size
      rw [List.append_assoc, ← bitsOf_succ] at h4
      have HH := Lib.hid (And.intro h4 (And.intro h7 h8))
      clear h1 h2 h3 h4 h5 h6 h7 h8
      go_wp2_with fail
      refine ⟨⟨k + 1, u', by omega, by go_num, HH.out.1, HH.out.2.1, HH.out.2.2⟩, ?_⟩
      simp [intOf]; omega
    · obtain rfl : k = m := by omega
      have HH := Lib.hid (And.intro h1 (And.intro h2 h3))
      clear h1 h2 h3
      go_wp2_with fail
      go_end0
      exact ⟨rfl, u, HH.out.1, HH.out.2.1, HH.out.2.2⟩

theorem align_any (b : Nat) (v : Value) (l : List Bool) (w : World) (h : WrAt w b v l) :
    Calls Try.prog 15 #[.pointer (some ⟨b, 0, none⟩)] w fun r w' => r = .returned (.tuple #[]) ∧ WrAt w' b v (pad l) ∧ But b v w w' := by
  obtain ⟨c0, c1, f0, f1⟩ := h.cells
  have h1 := h.setFree 0
  have h2 : WrAt (w.setCell ⟨b, 1, none⟩ (.int .i64 0)) b v (pad l) := by
    unfold WrAt
    rw [pack_pad, fre_zero (pad_mod l)]
    exact h1
  have H := Lib.hid h2
  clear h h1 h2
  go_enter Try.func15, Try.ntmps15
  go_wp2
  go_end0
  exact ⟨rfl, H.out, But.setCell _ _ _⟩

theorem WrAt.len8 (l : List Bool) : 8 * ((pack l).length : Int) - (fre l : Nat) = l.length := by
  rw [pack_length]; unfold fre; omega

theorem wlen_any (b : Nat) (v : Value) (l : List Bool) (w : World) (h : WrAt w b v l) (hm : l.length ≤ 1099511627776) :
    Calls Try.prog 19 #[.pointer (some ⟨b, 0, none⟩)] w fun r w' => r = .returned (.int .i64 l.length) ∧ ∃ n, w' = w.drewN n := by
  obtain ⟨c0, c1, f0, f1⟩ := h.cells
  have hl := WrAt.len8 l
  have hp := pack_length l
  obtain ⟨a, cap, rfl⟩ : ∃ a cap, v = .slice a (pack l).length cap := by
    rcases h.own.2 with ⟨rfl, h0⟩ | ⟨g, cap, cur, rfl, _⟩
    · exact ⟨none, 0, by rw [h0]⟩
    · exact ⟨_, cap, rfl⟩
  clear h
  have hfr : fre l ≤ 7 := by unfold fre; omega
  generalize (pack l).length = n at *
  generalize fre l = f at *
  have k1 : IntKind.i64.wrap (8 * (n : Int)) = 8 * n := IntWalk.i64_in _ (by omega)
  have k2 : IntKind.i64.wrap (8 * (n : Int) - f) = l.length := by rw [hl]; exact IntWalk.i64_in _ (by omega)
  clear hl hp
  go_enter Try.func19, Try.ntmps19
  go_wp2
  go_quiet (fail)
  go_wp2
  go_ret
  exact ⟨rfl, _, rfl⟩

theorem run_string_nil {P : Program} (w : World) (src dst e : TypeId) (hs : P.underlying src = some (.slice e)) (he : P.underlying e = some (.int .u8)) (hd : P.underlying dst = some .string) :
    (convert src dst (.slice none 0 0)).run P w = .ok (.string ⟨#[]⟩) w := by
  rw [run_convert_bytes_string w src dst e _ _ _ hs he hd]
  rfl

theorem wstring_any (b : Nat) (v : Value) (l : List Bool) (w : World) (h : WrAt w b v l) :
    Calls Try.prog 20 #[.pointer (some ⟨b, 0, none⟩)] w fun r w' => r = .returned (.string ⟨(pack l).toArray⟩) ∧ w = w' := by
  obtain ⟨c0, c1, f0, f1⟩ := h.cells
  have hcv : (convert 26 9 v).run Try.prog w = .ok (.string ⟨(pack l).toArray⟩) w := by
    rcases h.own.2 with ⟨rfl, h0⟩ | ⟨g, cap, cur, rfl, _⟩
    · rw [List.eq_nil_of_length_eq_zero h0]
      exact run_string_nil w 26 9 5 Try.underlying26 Try.underlying5 Try.underlying9
    · refine Oct.run_string_of w 26 9 5 ⟨g, 0, none⟩ cap (pack l) _ rfl Try.underlying26 Try.underlying5 Try.underlying9 ?_
      intro j hj
      rw [Oct.addr_add]
      exact h.own.cellAt j (by omega)
  clear h
  go_enter Try.func20, Try.ntmps20
  go_wp2
  go_ret
  exact ⟨rfl, rfl⟩

/-- 'append(b, s...)' onto what is owned: the row is the old one, or a new one. -/
theorem run_append_string_near {P : Program} (w : World) (t u ty e : TypeId) (i : TypeInfo) (ht : P.underlying t = some (.slice e)) (hu : P.underlying u = some .string) (hi : P.info? e = some i) (hz : i.zero = some (.int .u8 0))
    (hsize : i.size = 1) (hby : i.bytes = 1) (v : Value) (n : Nat) (xs : List Value) (hown : w.ownsRow 0 e 1 v n xs) (s : ByteArray) (h63 : n + s.size ≤ maxLen) (hbytes : n + s.size ≤ 140737488355328) :
    ∃ v' w', (Builtin.append_ #[t, u] ty #[v, .string s]).run P w = .ok v' w' ∧ w'.ownsRow 0 e 1 v' (n + s.size) (xs ++ Lib.strCells s) ∧ w.grownBy w' v.ownBlock ∧ Near w v v' := by
  obtain ⟨v', w', hr, h2, h3, _⟩ := Lib.run_append_own_string (P := P) w 0 t u ty e i ht hu hi hz hsize hby v n xs hown s h63 hbytes (Nat.zero_le _)
  refine ⟨v', w', hr, h2, h3, ?_⟩
  rcases hown.2 with ⟨rfl, rfl⟩ | ⟨g, cap, cur, rfl, hbg, hg, hnc, hcm, hcs, htake⟩
  · obtain ⟨v2, w2, hr2, h4, _⟩ := Lib.run_append_own_string (P := P) w w.heap.size t u ty e i ht hu hi hz hsize hby (.slice none 0 0) 0 xs ⟨hown.1, .inl ⟨rfl, rfl⟩⟩ s h63 hbytes (Nat.le_refl _)
    rw [hr] at hr2
    injection hr2 with e1 e2
    subst e1 e2
    exact fun k hk => .inr (h4.lt k hk).1
  · by_cases hroom : n + s.size ≤ cap
    · have hr2 := Lib.run_append_room_string (P := P) w t u ty e i ht hu hi hsize g n cap cur hg s hroom (by omega)
      rw [hr] at hr2
      injection hr2 with e1 e2
      subst e1
      exact fun k hk => .inl hk
    · have holds : ∀ j u, xs[j]? = some u → w.cell? ((⟨g, 0, none⟩ : Addr).add j) = some u := hown.cells (g := g) rfl
      have hr2 := Lib.run_append_grow_string (P := P) w t u ty e i (.int .u8 0) ht hu hi hz ⟨g, 0, none⟩ n cap xs (by rw [hsize]; simpa using hown.1) holds s (by omega) (by unfold maxLen at h63; omega) (by rw [hby]; exact growslice_fits (by omega) (by omega))
      rw [hr] at hr2
      injection hr2 with e1 e2
      subst e1
      intro k hk
      simp only [Value.ownBlock, Option.some.injEq] at hk
      exact .inr (by omega)

theorem strCells_eq (s : ByteArray) : Lib.strCells s = cellsU s.data.toList := rfl

theorem wpList_append_string_near {P : Program} (w : World) {ops : Array Oper} {rest : List Oper} {o : Oper} {a : Act} {Q : Exit → Act → World → Prop} (hgd : o.guard = none) (sl x : Operand) (t u : TypeId)
    (ho : o.op = .call { callee := .builtin .append, args := #[sl, x], argTypes := #[t, u] })
    (e : TypeId) (i : TypeInfo) (ht : P.underlying t = some (.slice e)) (hu : P.underlying u = some .string) (hi : P.info? e = some i) (hz : i.zero = some (.int .u8 0))
    (hsize : i.size = 1) (hby : i.bytes = 1)
    (v : Value) (n : Nat) (xs : List Value) (hs : a.eval sl = v) (hown : w.ownsRow 0 e 1 v n xs) (s : ByteArray) (hx : a.eval x = .string s)
    (h63 : n + s.size ≤ maxLen) (hbytes : n + s.size ≤ 140737488355328)
    (h : ∀ v' w', w'.ownsRow 0 e 1 v' (n + s.size) (xs ++ Lib.strCells s) → w.grownBy w' v.ownBlock → Near w v v' → wpList P ops Q rest (a.put o.dst v') w') : wpList P ops Q (o :: rest) a w := by
  refine wpList_plain hgd fun K hK => ?_
  obtain ⟨v', w', hr, h2, h3, h4⟩ := run_append_string_near (P := P) w t u o.type e i ht hu hi hz hsize hby v n xs hown s h63 hbytes
  unfold Oper.wp execOp
  simp only [ho, resolve, invoke, builtin, Sem.run_bind, Sem.run_pure, Result.andThen_ok, List.map_toArray, List.map_cons, List.map_nil, hs, hx, hr]
  exact hK _ _ (h v' w' h2 h3 h4)

theorem WrRaw.moreS {w w1 : World} {b : Nat} {v v' : Value} {bs : List UInt8} {f : Int} {s : ByteArray} (h : WrRaw w b v bs f) (hg : w.grownBy w1 v.ownBlock) (hn : Near w v v')
    (ho : w1.ownsRow 0 5 1 v' (bs.length + s.size) (cellsU bs ++ Lib.strCells s)) :
    ∃ ao nn cap, v' = .slice ao nn cap ∧ w1.cell? ⟨b, 0, none⟩ = some v ∧ w1.frozen? ⟨b, 0, none⟩ = false ∧
      WrRaw (w1.setCell ⟨b, 0, none⟩ v') b v' (bs ++ s.data.toList) f ∧ But b v w (w1.setCell ⟨b, 0, none⟩ v') := by
  have e1 : (bs ++ s.data.toList).length = bs.length + s.size := by simp
  have e2 : cellsU (bs ++ s.data.toList) = cellsU bs ++ Lib.strCells s := by rw [strCells_eq]; simp [cellsU]
  obtain ⟨h2, b2⟩ := h.appended (bs' := bs ++ s.data.toList) hg hn (by rw [e1, e2]; exact ho)
  have hb : w1.heap[b]? = w.heap[b]? := hg.block b h.lt (fun e => h.ne e.symm)
  obtain ⟨c0, _, f0, _⟩ := h.cells
  obtain ⟨ao, nn, cap, rfl⟩ : ∃ ao nn cap, v' = .slice ao nn cap := by
    rcases ho.2 with ⟨rfl, _⟩ | ⟨g, cap, cur, rfl, _⟩
    · exact ⟨_, _, _, rfl⟩
    · exact ⟨_, _, _, rfl⟩
  refine ⟨ao, nn, cap, rfl, ?_, ?_, h2, b2⟩
  · rw [World.cell?_of_block (a := ⟨b, 0, none⟩) hb]; exact c0
  · rw [World.frozen?_of_block (a := ⟨b, 0, none⟩) hb]; exact f0

set_option maxHeartbeats 1000000 in
theorem wbytes_any (b : Nat) (v : Value) (l : List Bool) (s : ByteArray) (w : World) (h : WrAt w b v l) (hm : l.length ≤ 1099511627776) (hs : s.size ≤ 1099511627776) :
    Calls Try.prog 17 #[.pointer (some ⟨b, 0, none⟩), .string s] w fun r w' => r = .returned (.tuple #[]) ∧
      ∃ v', WrAt w' b v' (pad l ++ tbits s.data.toList) ∧ But b v w w' ∧ Near w v v' := by
  obtain ⟨i0, hi, hz0, hz1, hz2⟩ := info_parts info_u8
  have hpl := pack_length l
  have key : pack (pad l ++ tbits s.data.toList) = pack l ++ s.data.toList := by
    rw [pack_append ((pad l).length / 8) _ _ (by have := pad_mod l; omega), pack_pad, pack_tbits]
  have kf : fre (pad l ++ tbits s.data.toList) = 0 := fre_zero (by rw [List.length_append, tbits_length]; have := pad_mod l; omega)
  have KEY := Lib.hid (And.intro key kf)
  clear key kf
  go_enter Try.func17, Try.ntmps17
  go_wp2_with fail
  refine (align_any _ _ _ _ h).mono ?_
  rintro r w1 ⟨rfl, h1, b1⟩
  have h1' : WrRaw w1 b v (pack l) 0 := by
    have := h1
    unfold WrAt at this
    rw [pack_pad, fre_zero (pad_mod l)] at this
    exact this
  obtain ⟨c0, c1, f0, f1⟩ := h1'.cells
  have hown := h1'.own
  have H1 := Lib.hid h1'
  have B1 := Lib.hid b1
  clear h h1 b1 h1'
  go_wp2_with (at_builtin; refine wpList_append_string_near _ rfl _ _ 26 9 rfl 5 i0 Try.underlying26 Try.underlying9 hi hz0 hz1 hz2 v (pack l).length (cellsU (pack l)) rfl hown s rfl (by unfold maxLen; omega) (by omega) ?_; intro v' w2 ho hg hn; obtain ⟨ao, nn, cap, rfl, c3, f3, h3, b3⟩ := H1.out.moreS hg hn ho; clear hown ho hg c0 c1 f0 f1 hi hz0 hz1 hz2; have H3 := Lib.hid h3; have B3 := Lib.hid b3; have N3 := Lib.hid hn; clear h3 b3 hn)
  go_end0
  refine ⟨rfl, .slice ao nn cap, ?_, B1.out.trans (Near.refl _ _) B3.out, ?_⟩
  · unfold WrAt
    rw [KEY.out.1, KEY.out.2]
    exact H3.out
  · intro k hk
    rcases N3.out k hk with h | h
    · exact .inl h
    · have := B1.out.size; exact .inr (by omega)

/-- A code's bits, the greatest one first. -/
def codeBits (bt len : Int) : List Bool := (bitsOf (cnt len) bt).reverse
theorem codeBits_length (bt len : Int) : (codeBits bt len).length = cnt len := by simp [codeBits, bitsOf]
theorem bits_rev (bt len : Int) : bitsOf (cnt len) (revV bt len : Nat) = codeBits bt len := by
  have := bitsOf_num (codeBits bt len)
  rw [codeBits_length] at this
  exact this

theorem But.below {b : Nat} {v : Value} {w w' : World} (h : Below w.heap.size w w') : But b v w w' := ⟨h.os, h.tape, h.output, h.size, fun k hk _ _ => h.block k hk⟩
theorem WrRaw.below {w w' : World} {b : Nat} {v : Value} {bs : List UInt8} {f : Int} (h : WrRaw w b v bs f) (hb : Below w.heap.size w w') : WrRaw w' b v bs f := by
  refine ⟨by rw [hb.block b h.lt]; exact h.blk, ownsRow_block h.own fun k hk => hb.block k (h.own.lt k hk).2⟩

set_option maxHeartbeats 1000000 in
theorem wcode_any (b : Nat) (v : Value) (l : List Bool) (bt len : Int) (w : World) (h : WrAt w b v l) (hm : l.length ≤ 1099511627000) :
    Calls Try.prog 12 #[.pointer (some ⟨b, 0, none⟩), .agg #[.int .i64 bt, .int .i64 len]] w fun r w' => r = .returned (.tuple #[]) ∧
      ∃ v', WrAt w' b v' (l ++ codeBits bt len) ∧ But b v w w' ∧ Near w v v' := by
  go_enter Try.func12, Try.ntmps12
  go_wp2_with fail
  have ha := WrRaw.alloc h (.cells #[.int .i64 bt, .int .i64 len] 35)
  have ba := But.alloc b v w (.cells #[.int .i64 bt, .int .i64 len] 35)
  have hc0 : (w.alloc (.cells #[.int .i64 bt, .int .i64 len] 35)).heap[w.heap.size]? = some (.cells #[.int .i64 bt, .int .i64 len] 35 (0, 0)) := heap_alloc_new _ _
  have sz : w.heap.size < (w.alloc (.cells #[.int .i64 bt, .int .i64 len] 35)).heap.size := by simp
  have hbB : w.heap.size ≠ b := by have := WrRaw.lt h; omega
  have hvB : some w.heap.size ≠ v.ownBlock := fun e => by have := (h.own.lt _ e.symm).2; omega
  clear h
  generalize w.alloc (.cells #[.int .i64 bt, .int .i64 len] 35) = w1 at *
  have c0 : w1.cell? ⟨w.heap.size, 0, none⟩ = some (.int .i64 bt) := by rw [cell_of_row w1 _ 0 _ _ _ hc0]; rfl
  have c1 : w1.cell? ⟨w.heap.size, 1, none⟩ = some (.int .i64 len) := by rw [cell_of_row w1 _ 1 _ _ _ hc0]; rfl
  generalize w.heap.size = B at *
  go_region_held3 (fun w' => w'.cell? ⟨B, 0, none⟩ = some (.int .i64 bt) ∧ w'.cell? ⟨B, 1, none⟩ = some (.int .i64 len)) (first | exact ⟨c0, c1⟩ | exact hk2 | exact hk3)
    (first
      | (go_at_call 14; refine (reverse_any _ _ _).mono ?_; rintro r w2 ⟨rfl, b2⟩; have hk2 : w2.cell? ⟨B, 0, none⟩ = some (.int .i64 bt) ∧ w2.cell? ⟨B, 1, none⟩ = some (.int .i64 len) := ⟨(World.cell?_of_block (w := w1) (w' := w2) (a := ⟨B, 0, none⟩) (b2.block B sz)).trans c0, (World.cell?_of_block (w := w1) (w' := w2) (a := ⟨B, 1, none⟩) (b2.block B sz)).trans c1⟩; have h2 : WrAt w2 b v l := WrRaw.below (w := w1) ha ⟨b2.os, b2.tape, b2.output, b2.size, b2.block⟩)
      | (go_at_call 10; refine (wbits_any b v l _ _ _ h2 hm).mono ?_; rintro r w3 ⟨rfl, v', h3, b3, n3⟩; have b4 := (But.below (b := b) (v := v) (w := w1) (w' := w2) ⟨b2.os, b2.tape, b2.output, b2.size, b2.block⟩).trans (Near.refl _ _) b3; have hk3 : w3.cell? ⟨B, 0, none⟩ = some (.int .i64 bt) ∧ w3.cell? ⟨B, 1, none⟩ = some (.int .i64 len) := ⟨(World.cell?_of_block (w := w1) (w' := w3) (a := ⟨B, 0, none⟩) (b4.block B sz hbB hvB)).trans c0, (World.cell?_of_block (w := w1) (w' := w3) (a := ⟨B, 1, none⟩) (b4.block B sz hbB hvB)).trans c1⟩))
  rw [bits_rev] at h3
  have HH := Lib.hid (And.intro h3 (And.intro (ba.trans (Near.refl _ _) b4) (show Near w v v' from fun k hk => by
    rcases n3 k hk with h | h
    · exact .inl h
    · have := b2.size; have := ba.size; exact .inr (by have e : w1.drew.heap.size = w1.heap.size := rfl; omega))))
  clear h3 ba b4 n3 b2 b3 hk3 hk2 h2 ha hc0 sz c0 c1
  go_wp2
  go_end0
  exact ⟨rfl, v', HH.out.1, HH.out.2.1, HH.out.2.2⟩
end Go.Proofs.Ytdgoaccnjlkdcaa.Bit
