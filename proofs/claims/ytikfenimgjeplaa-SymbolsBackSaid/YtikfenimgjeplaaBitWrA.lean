/-
  Contracts of bitio.Writer's methods, over the row of bits that was put in.
-/
import Derived.Test.YtikfenimgjeplaaBitPut
import Derived.Test.YtikfenimgjeplaaOctMath
namespace Go.Proofs.Ytikfenimgjeplaa.Bit
open Go.ChangeShapes Go.WideShapes Go.ChangeAt Go.RowKit
set_option linter.unusedVariables false

/-- Block b holds a writer into which the bits l were put; its bytes lie in v. -/
def WrAt (w : World) (b : Nat) (v : Value) (l : List Bool) : Prop := WrRaw w b v (pack l) (fre l : Nat)

theorem fre_zero {l : List Bool} (h : l.length % 8 = 0) : fre l = 0 := by unfold fre; omega

theorem put_any (b : Nat) (v : Value) (l : List Bool) (bb : Bool) (w : World) (h : WrAt w b v l) (hm : l.length ≤ 1099511627776) :
    Calls Try.prog 46 #[.pointer (some ⟨b, 0, none⟩), .int .i64 bb.toNat] w fun r w' => r = .returned (.tuple #[]) ∧
      ∃ v', WrAt w' b v' (l ++ [bb]) ∧ But b v w w' ∧ Near w v v' := by
  have hl := pack_length l
  by_cases h8 : l.length % 8 = 0
  · have h0 : WrRaw w b v (pack l) 0 := by have := h; unfold WrAt at this; rw [fre_zero h8] at this; exact this
    refine (put_none b v (pack l) bb w h0 (by omega)).mono ?_
    rintro r w' ⟨rfl, v', h1, h2, h3⟩
    refine ⟨rfl, v', ?_, h2, h3⟩
    unfold WrAt
    rw [pack_new l bb h8, show fre (l ++ [bb]) = 7 by unfold fre; rw [List.length_append]; simp; omega]
    exact h1
  · obtain ⟨g, cap, rfl, _⟩ := h.shape (by omega)
    have hi : l.length / 8 = (pack l).length - 1 := by omega
    have hx := pack_last l h8
    have hb : bb.toNat ≤ 1 := by cases bb <;> simp
    have hlt := last_lt l
    have hp : (2 : Nat) ^ (l.length % 8) ≤ 2 ^ 7 := Nat.pow_le_pow_right (by decide) (by omega)
    have h2 : 2 ^ (l.length % 8) * bb.toNat ≤ 2 ^ (l.length % 8) * 1 := Nat.mul_le_mul_left _ hb
    have hf : 8 - fre l = l.length % 8 := by unfold fre; omega
    have hy := u8_or_more (num (l.drop (8 * (l.length / 8)))) bb.toNat (l.length % 8) hlt hb (by omega)
    have n1 : (UInt8.ofNat (num (l.drop (8 * (l.length / 8))))).toNat = num (l.drop (8 * (l.length / 8))) := by
      rw [UInt8.toNat_ofNat']; exact Nat.mod_eq_of_lt (by omega)
    have n2 : (UInt8.ofNat (num (l.drop (8 * (l.length / 8))) + 2 ^ (l.length % 8) * bb.toNat)).toNat = num (l.drop (8 * (l.length / 8))) + 2 ^ (l.length % 8) * bb.toNat := by
      rw [UInt8.toNat_ofNat']; exact Nat.mod_eq_of_lt (by omega)
    refine (put_some b g cap (pack l) (fre l) bb w h (by omega) (by unfold fre; omega) (by unfold fre; omega) (by omega) _ (by rw [← hi]; exact hx)
      (UInt8.ofNat (num (l.drop (8 * (l.length / 8))) + 2 ^ (l.length % 8) * bb.toNat)) (by rw [hf, n1, n2]; exact hy)).mono ?_
    rintro r w' ⟨rfl, h3, h4⟩
    refine ⟨rfl, _, ?_, h4, Near.refl _ _⟩
    unfold WrAt
    rw [pack_more l bb h8, show fre (l ++ [bb]) = fre l - 1 by unfold fre; rw [List.length_append]; simp; omega]
    rw [← hi] at h3
    exact h3

set_option maxHeartbeats 1000000 in
theorem wbits_any (b : Nat) (v : Value) (l : List Bool) (n x : Int) (w : World) (h : WrAt w b v l) (hm : l.length ≤ 1099511627000) :
    Calls Try.prog 24 #[.pointer (some ⟨b, 0, none⟩), .int .i64 n, .int .i64 x] w fun r w' => r = .returned (.tuple #[]) ∧
      ∃ v', WrAt w' b v' (l ++ bitsOf (cnt n) x) ∧ But b v w w' ∧ Near w v v' := by
  have hle := cnt_le n
  generalize hn : cnt n = m at *
  have HN := Lib.hid hn
  clear hn
  go_enter Try.func24, Try.ntmps24
  go_wp2_with fail
  refine (within_any _ _).mono ?_
  rintro r w' ⟨rfl, rfl⟩
  rw [HN.out]
  go_wp2_with fail
  go_loopw [11] (fun i wr => ∃ (k : Nat) (u : Value), k ≤ m ∧ i = .int .i64 k ∧ WrAt wr b u (l ++ bitsOf k x) ∧ But b v w wr ∧ Near w v u) (fun i _ => m - (intOf i).toNat)
  case atStart => exact ⟨0, v, Nat.zero_le _, rfl, by simpa [bitsOf] using h, But.refl _ _ _, Near.refl _ _⟩
  case round =>
    obtain ⟨k, u, hk, rfl, h1, h2, h3⟩ := hrel
    by_cases hlt : k < m
    · go_wp2_with fail
      refine (bit_any _ _ (by omega) _).mono ?_
      rintro r w' ⟨rfl, rfl⟩
      go_wp2_with fail
      refine (put_any b u _ (ibit x k) _ h1 (by rw [List.length_append, bitsOf_length]; omega)).mono ?_
      rintro r w' ⟨rfl, u', h4, h5, h6⟩
      have h7 := h2.trans h3 h5
      have h8 := h3.trans h6 h2.size
      rw [List.append_assoc, ← bitsOf_succ] at h4
      have HH := Lib.hid (And.intro h4 (And.intro h7 h8))
      clear h1 h2 h3 h4 h5 h6 h7 h8
      go_wp2_with fail
      refine ⟨⟨k + 1, u', by omega, by go_num, HH.out.1, HH.out.2.1, HH.out.2.2⟩, ?_⟩
      simp [intOf]; omega
    · obtain rfl : k = m := by omega
      have HH := Lib.hid (And.intro h1 (And.intro h2 h3))
      clear h1 h2 h3
      go_wp2_with fail
      go_end0
      exact ⟨rfl, u, HH.out.1, HH.out.2.1, HH.out.2.2⟩

theorem WrAt.len8 (l : List Bool) : 8 * ((pack l).length : Int) - (fre l : Nat) = l.length := by
  rw [pack_length]; unfold fre; omega

theorem wlen_any (b : Nat) (v : Value) (l : List Bool) (w : World) (h : WrAt w b v l) (hm : l.length ≤ 1099511627776) :
    Calls Try.prog 28 #[.pointer (some ⟨b, 0, none⟩)] w fun r w' => r = .returned (.int .i64 l.length) ∧ ∃ n, w' = w.drewN n := by
  obtain ⟨c0, c1, f0, f1⟩ := h.cells
  have hl := WrAt.len8 l
  have hp := pack_length l
  obtain ⟨a, cap, rfl⟩ : ∃ a cap, v = .slice a (pack l).length cap := by
    rcases h.own.2 with ⟨rfl, h0⟩ | ⟨g, cap, cur, rfl, _⟩
    · exact ⟨none, 0, by rw [h0]⟩
    · exact ⟨_, cap, rfl⟩
  clear h
  have hfr : fre l ≤ 7 := by unfold fre; omega
  generalize (pack l).length = n at *
  generalize fre l = f at *
  have k1 : IntKind.i64.wrap (8 * (n : Int)) = 8 * n := IntWalk.i64_in _ (by omega)
  have k2 : IntKind.i64.wrap (8 * (n : Int) - f) = l.length := by rw [hl]; exact IntWalk.i64_in _ (by omega)
  clear hl hp
  go_enter Try.func28, Try.ntmps28
  go_wp2
  go_quiet (fail)
  go_wp2
  go_ret
  exact ⟨rfl, _, rfl⟩

theorem run_string_nil {P : Program} (w : World) (src dst e : TypeId) (hs : P.underlying src = some (.slice e)) (he : P.underlying e = some (.int .u8)) (hd : P.underlying dst = some .string) :
    (convert src dst (.slice none 0 0)).run P w = .ok (.string ⟨#[]⟩) w := by
  rw [run_convert_bytes_string w src dst e _ _ _ hs he hd]
  rfl

theorem wstring_any (b : Nat) (v : Value) (l : List Bool) (w : World) (h : WrAt w b v l) :
    Calls Try.prog 29 #[.pointer (some ⟨b, 0, none⟩)] w fun r w' => r = .returned (.string ⟨(pack l).toArray⟩) ∧ w = w' := by
  obtain ⟨c0, c1, f0, f1⟩ := h.cells
  have hcv : (convert 37 9 v).run Try.prog w = .ok (.string ⟨(pack l).toArray⟩) w := by
    rcases h.own.2 with ⟨rfl, h0⟩ | ⟨g, cap, cur, rfl, _⟩
    · rw [List.eq_nil_of_length_eq_zero h0]
      exact run_string_nil w 37 9 5 Try.underlying37 Try.underlying5 Try.underlying9
    · refine Oct.run_string_of w 37 9 5 ⟨g, 0, none⟩ cap (pack l) _ rfl Try.underlying37 Try.underlying5 Try.underlying9 ?_
      intro j hj
      rw [Oct.addr_add]
      exact h.own.cellAt j (by omega)
  clear h
  go_enter Try.func29, Try.ntmps29
  go_wp2
  go_ret
  exact ⟨rfl, rfl⟩

/-- A code's bits, the greatest one first. -/
def codeBits (bt len : Int) : List Bool := (bitsOf (cnt len) bt).reverse
theorem codeBits_length (bt len : Int) : (codeBits bt len).length = cnt len := by simp [codeBits, bitsOf]
theorem bits_rev (bt len : Int) : bitsOf (cnt len) (revV bt len : Nat) = codeBits bt len := by
  have := bitsOf_num (codeBits bt len)
  rw [codeBits_length] at this
  exact this

theorem But.below {b : Nat} {v : Value} {w w' : World} (h : Below w.heap.size w w') : But b v w w' := ⟨h.os, h.tape, h.output, h.size, fun k hk _ _ => h.block k hk⟩
theorem WrRaw.below {w w' : World} {b : Nat} {v : Value} {bs : List UInt8} {f : Int} (h : WrRaw w b v bs f) (hb : Below w.heap.size w w') : WrRaw w' b v bs f := by
  refine ⟨by rw [hb.block b h.lt]; exact h.blk, ownsRow_block h.own fun k hk => hb.block k (h.own.lt k hk).2⟩

set_option maxHeartbeats 1000000 in
theorem wcode_any (b : Nat) (v : Value) (l : List Bool) (bt len : Int) (w : World) (h : WrAt w b v l) (hm : l.length ≤ 1099511627000) :
    Calls Try.prog 50 #[.pointer (some ⟨b, 0, none⟩), .agg #[.int .i64 bt, .int .i64 len]] w fun r w' => r = .returned (.tuple #[]) ∧
      ∃ v', WrAt w' b v' (l ++ codeBits bt len) ∧ But b v w w' ∧ Near w v v' := by
  go_enter Try.func50, Try.ntmps50
  go_wp2_with fail
  have ha := WrRaw.alloc h (.cells #[.int .i64 bt, .int .i64 len] 81)
  have ba := But.alloc b v w (.cells #[.int .i64 bt, .int .i64 len] 81)
  have hc0 : (w.alloc (.cells #[.int .i64 bt, .int .i64 len] 81)).heap[w.heap.size]? = some (.cells #[.int .i64 bt, .int .i64 len] 81 (0, 0)) := heap_alloc_new _ _
  have sz : w.heap.size < (w.alloc (.cells #[.int .i64 bt, .int .i64 len] 81)).heap.size := by simp
  have hbB : w.heap.size ≠ b := by have := WrRaw.lt h; omega
  have hvB : some w.heap.size ≠ v.ownBlock := fun e => by have := (h.own.lt _ e.symm).2; omega
  clear h
  generalize w.alloc (.cells #[.int .i64 bt, .int .i64 len] 81) = w1 at *
  have c0 : w1.cell? ⟨w.heap.size, 0, none⟩ = some (.int .i64 bt) := by rw [cell_of_row w1 _ 0 _ _ _ hc0]; rfl
  have c1 : w1.cell? ⟨w.heap.size, 1, none⟩ = some (.int .i64 len) := by rw [cell_of_row w1 _ 1 _ _ _ hc0]; rfl
  generalize w.heap.size = B at *
  go_region_held3 (fun w' => w'.cell? ⟨B, 0, none⟩ = some (.int .i64 bt) ∧ w'.cell? ⟨B, 1, none⟩ = some (.int .i64 len)) (first | exact ⟨c0, c1⟩ | exact hk2 | exact hk3)
    (first
      | (go_at_call 68; refine (reverse_any _ _ _).mono ?_; rintro r w2 ⟨rfl, b2⟩; have hk2 : w2.cell? ⟨B, 0, none⟩ = some (.int .i64 bt) ∧ w2.cell? ⟨B, 1, none⟩ = some (.int .i64 len) := ⟨(World.cell?_of_block (w := w1) (w' := w2) (a := ⟨B, 0, none⟩) (b2.block B sz)).trans c0, (World.cell?_of_block (w := w1) (w' := w2) (a := ⟨B, 1, none⟩) (b2.block B sz)).trans c1⟩; have h2 : WrAt w2 b v l := WrRaw.below (w := w1) ha ⟨b2.os, b2.tape, b2.output, b2.size, b2.block⟩)
      | (go_at_call 24; refine (wbits_any b v l _ _ _ h2 hm).mono ?_; rintro r w3 ⟨rfl, v', h3, b3, n3⟩; have b4 := (But.below (b := b) (v := v) (w := w1) (w' := w2) ⟨b2.os, b2.tape, b2.output, b2.size, b2.block⟩).trans (Near.refl _ _) b3; have hk3 : w3.cell? ⟨B, 0, none⟩ = some (.int .i64 bt) ∧ w3.cell? ⟨B, 1, none⟩ = some (.int .i64 len) := ⟨(World.cell?_of_block (w := w1) (w' := w3) (a := ⟨B, 0, none⟩) (b4.block B sz hbB hvB)).trans c0, (World.cell?_of_block (w := w1) (w' := w3) (a := ⟨B, 1, none⟩) (b4.block B sz hbB hvB)).trans c1⟩))
  rw [bits_rev] at h3
  have HH := Lib.hid (And.intro h3 (And.intro (ba.trans (Near.refl _ _) b4) (show Near w v v' from fun k hk => by
    rcases n3 k hk with h | h
    · exact .inl h
    · have := b2.size; have := ba.size; exact .inr (by have e : w1.drew.heap.size = w1.heap.size := rfl; omega))))
  clear h3 ba b4 n3 b2 b3 hk3 hk2 h2 ha hc0 sz c0 c1
  go_wp2
  go_end0
  exact ⟨rfl, v', HH.out.1, HH.out.2.1, HH.out.2.2⟩
end Go.Proofs.Ytikfenimgjeplaa.Bit
