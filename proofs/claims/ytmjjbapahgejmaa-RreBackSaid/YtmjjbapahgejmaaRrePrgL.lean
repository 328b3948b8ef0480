/-
  The program of layer 17 (rre): bytes that are written behind each other.
-/
import Derived.Test.YtmjjbapahgejmaaRrePrgE
import Derived.Test.YtmjjbapahgejmaaRrePrgG
import Derived.Test.YtmjjbapahgejmaaPlnBld
import Derived.Test.YtmjjbapahgejmaaAllFmtP
import Derived.Test.YtmjjbapahgejmaaAllOct17
namespace Go.Proofs.Ytmjjbapahgejmaa.Rre
open Go.ChangeShapes Go.WideShapes Go.ChangeAt Go.RowKit Lz RowG RegVal Pln
open Go.Proofs.Ytmjjbapahgejmaa.Fmt (Fm FmAt size_any fput_any)
open Go.Proofs.Ytmjjbapahgejmaa.Oct (putS putE put_any)
set_option linter.unusedVariables false
set_option linter.unusedSimpArgs false
set_option maxRecDepth 100000

/-- What isn't bytes, nor the builder, is as it was. -/
def KD (c : Nat) (W w' : World) : Prop := ∀ k cs T z, W.heap[k]? = some (.cells cs T z) → T ≠ 5 → k ≠ c → w'.heap[k]? = some (.cells cs T z)
theorem KD.refl (c : Nat) (W : World) : KD c W W := fun _ _ _ _ h _ _ => h
theorem KD.trans {c : Nat} {A B C : World} (h : KD c A B) (k : KD c B C) : KD c A C := fun i cs T z hi hT hc => k i cs T z (h i cs T z hi hT hc) hT hc
theorem KD.of_below {c : Nat} {W w' : World} (h : Below W.heap.size W w') : KD c W w' := fun k cs T z hk _ _ => (h.block k (Array.getElem?_eq_some_iff.1 hk).1).trans hk
/-- A builder at c, with so many bytes in it. -/
structure EnJ (w2 : World) (c m : Nat) (S : ByteArray) (W : World) : Prop where
  bd : ∃ v, Bld.BdAt W c c (.pointer (some ⟨c, 0, none⟩)) v S.data.toList m
  low : Below c w2 W
theorem EnJ.sz {w2 W : World} {c m : Nat} {S : ByteArray} (h : EnJ w2 c m S W) : c < W.heap.size := by
  obtain ⟨v, h1⟩ := h.bd
  exact h1.lt
theorem EnJ.below {w2 W W' : World} {c m : Nat} {S : ByteArray} (h : EnJ w2 c m S W) (k : Below W.heap.size W W') : EnJ w2 c m S W' := by
  obtain ⟨v, h1⟩ := h.bd
  exact ⟨⟨v, h1.below k⟩, h.low.trans (k.mono (Nat.le_of_lt h1.lt))⟩
theorem oth_keep {Wb w1 : World} {c m : Nat} {p v : Value} {l : List UInt8} (hb : Bld.BdAt Wb c c p v l m) (ho : Bld.Oth Wb w1 c v) : KD c Wb w1 := fun k cs T z hk hT hne => by
  refine (ho k (Array.getElem?_eq_some_iff.1 hk).1 hne (fun e => ?_)).trans hk
  rcases hb.own.2 with ⟨rfl, _⟩ | ⟨g, cap, cur, fz, rfl, _, hg, _⟩
  · simp [Value.ownBlock] at e
  · simp [Value.ownBlock] at e
    subst e
    rw [hg] at hk
    cases hk
    exact hT rfl
theorem data_app (S s : ByteArray) : S.data.toList ++ s.data.toList = (S ++ s).data.toList := by simp
theorem write_en (w2 : World) (c m : Nat) (S s : ByteArray) (W : World) (h : EnJ w2 c m S W) (hl : S.size + s.size ≤ 100000000) (hm : 0 < m) :
    Calls Try.prog 34 #[.pointer (some ⟨c, 0, none⟩), .string s] W fun e w' => e = .returned (.tuple #[.int .i64 s.size, .nilIface]) ∧ EnJ w2 c m (S ++ s) w' ∧ KD c W w' := by
  obtain ⟨v, hv⟩ := h.bd
  have hsl : S.data.toList.length = S.size := by simp
  refine (Bld.write_any c c m _ v S.data.toList s W hv (.inr rfl) (Nat.le_of_lt hv.lt) (by omega) (fun _ => hm)).mono ?_
  rintro e w' ⟨he, v', g1, g2, g3⟩
  rw [data_app] at g1
  exact ⟨he, ⟨⟨v', g1⟩, h.low.trans g2⟩, oth_keep hv g3⟩
set_option maxHeartbeats 1000000 in
theorem writeNumber_any (w2 : World) (c m : Nat) (S : ByteArray) (s n : Int) (W : World) (h : EnJ w2 c m S W) (hl : S.size + (putS s n).size ≤ 100000000) (hm : 0 < m) :
    Calls Try.prog 33 #[.pointer (some ⟨c, 0, none⟩), .int .i64 s, .int .i64 n] W fun e w' => e = .returned (.tuple #[]) ∧ EnJ w2 c m (S ++ putS s n) w' ∧ KD c W w' := by
  have PU := Lib.hid (put_any s n W)
  have WR := Lib.hid (fun W h => write_en w2 c m S (putS s n) W h hl hm)
  have HH := Lib.hid h
  generalize putS s n = T at *
  generalize putE s n = E at *
  clear h hl
  go_enter Try.func33, Try.ntmps33
  go_wp2_with fail
  refine PU.out.mono ?_
  rintro r w3 ⟨rfl, b3⟩
  have W3 := Lib.hid (WR.out w3 (HH.out.below b3))
  have K3 := Lib.hid (KD.of_below (c := c) b3)
  clear b3 PU WR HH
  go_wp2_with fail
  refine W3.out.mono ?_
  rintro r w4 ⟨rfl, h4, k4⟩
  have H4 := Lib.hid h4
  have K4 := Lib.hid (K3.out.trans k4)
  clear h4 k4 W3 K3
  go_wp2_with fail
  go_end0
  exact ⟨rfl, H4.out, K4.out⟩
set_option maxHeartbeats 1000000 in
theorem pieceSize_any (f : Fm) (hf : f.Wf) (w : World) :
    Calls Try.prog 32 #[f.v] w fun e w' => e = .returned (.int .i64 ((f.size : Nat) + 8 : Int)) ∧ Below w.heap.size w w' := by
  have Z := Lib.hid (fun w => size_any f hf w)
  have hs := (Fmt.size_le4 f).1
  generalize f.size = z at *
  have AT := FmAt.box f w 37
  have bel := (Below.refl w.heap.size w).alloc (Nat.le_refl _) (.cells #[.int .i64 f.B, .int .i64 f.D, .bool f.big, .bool f.tr, .int .i64 f.rm, .int .i64 f.gm, .int .i64 f.bm, .int .i64 f.rs, .int .i64 f.gs, .int .i64 f.bs] 37)
  obtain ⟨w1, hw1⟩ : ∃ w1, w.alloc (.cells #[.int .i64 f.B, .int .i64 f.D, .bool f.big, .bool f.tr, .int .i64 f.rm, .int .i64 f.gm, .int .i64 f.bm, .int .i64 f.rs, .int .i64 f.gs, .int .i64 f.bs] 37) = w1 := ⟨_, rfl⟩
  rw [hw1] at AT bel
  have HF : f.v = .agg #[.int .i64 f.B, .int .i64 f.D, .bool f.big, .bool f.tr, .int .i64 f.rm, .int .i64 f.gm, .int .i64 f.bm, .int .i64 f.rs, .int .i64 f.gs, .int .i64 f.bs] := rfl
  rw [HF] at Z ⊢
  obtain ⟨d0, d1, d2, d3, d4, d5, d6, d7, d8, d9⟩ := AT
  have HB := Lib.hid bel
  clear bel HF hf
  go_enter Try.func32, Try.ntmps32
  go_wp2_with fail
  refine (Z.out w1).mono ?_
  rintro r w2 ⟨rfl, b2⟩
  have HB2 := Lib.hid (HB.out.trans (b2.mono HB.out.size))
  clear b2 Z d0 d1 d2 d3 d4 d5 d6 d7 d8 d9
  go_wp2_with fail
  go_ret
  exact ⟨rfl, HB2.out⟩
set_option maxHeartbeats 1000000 in
theorem numbers_any (x y n m : Int) (w : World) :
    Calls Try.prog 36 #[.agg #[.int .i64 x, .int .i64 y, .int .i64 n, .int .i64 m]] w fun e w' => e = .returned (.agg #[.int .i64 x, .int .i64 y, .int .i64 n, .int .i64 m]) ∧ Below w.heap.size w w' := by
  have n1 := heap_alloc_new w (.cells #[.int .i64 x, .int .i64 y, .int .i64 n, .int .i64 m] 29)
  have z1 := Pln.alloc_size w (.cells #[.int .i64 x, .int .i64 y, .int .i64 n, .int .i64 m] 29)
  have k1 := (Below.refl w.heap.size w).alloc (Nat.le_refl _) (.cells #[.int .i64 x, .int .i64 y, .int .i64 n, .int .i64 m] 29)
  obtain ⟨w1, hw1⟩ : ∃ w1, w.alloc (.cells #[.int .i64 x, .int .i64 y, .int .i64 n, .int .i64 m] 29) = w1 := ⟨_, rfl⟩
  rw [hw1] at n1 z1 k1
  have n2 := heap_alloc_new w1 (.cells #[.int .i64 0, .int .i64 0, .int .i64 0, .int .i64 0] 71)
  have o2 : (w1.alloc (.cells #[.int .i64 0, .int .i64 0, .int .i64 0, .int .i64 0] 71)).heap[w.heap.size]? = some (.cells #[.int .i64 x, .int .i64 y, .int .i64 n, .int .i64 m] 29 (0, 0)) := by
    rw [Below.heap_alloc _ _ _ (by omega)]; exact n1
  have k2 := k1.alloc (by omega) (.cells #[.int .i64 0, .int .i64 0, .int .i64 0, .int .i64 0] 71)
  obtain ⟨w2, hw2⟩ : ∃ w2, w1.alloc (.cells #[.int .i64 0, .int .i64 0, .int .i64 0, .int .i64 0] 71) = w2 := ⟨_, rfl⟩
  rw [hw2] at n2 o2 k2
  rw [z1] at n2
  have e0 := cellAt (o := 0) o2 rfl
  have e1 := cellAt (o := 1) o2 rfl
  have e2 := cellAt (o := 2) o2 rfl
  have e3 := cellAt (o := 3) o2 rfl
  have c0 := cellAt (o := 0) n2 rfl
  have c1 := cellAt (o := 1) n2 rfl
  have c2 := cellAt (o := 2) n2 rfl
  have c3 := cellAt (o := 3) n2 rfl
  have g0 := frozenAt (o := 0) n2
  have g1 := frozenAt (o := 1) n2
  have g2 := frozenAt (o := 2) n2
  have g3 := frozenAt (o := 3) n2
  have HS := Lib.hid (setRowAt (i := 3) (v := .int .i64 m) (setRowAt (i := 2) (v := .int .i64 n) (setRowAt (i := 1) (v := .int .i64 y) (setRowAt (i := 0) (v := .int .i64 x) n2 rfl) rfl) rfl) rfl)
  have HK := Lib.hid (below_set (below_set (below_set (below_set k2 (Nat.le_succ w.heap.size) 0 (.int .i64 x)) (Nat.le_succ w.heap.size) 1 (.int .i64 y)) (Nat.le_succ w.heap.size) 2 (.int .i64 n)) (Nat.le_succ w.heap.size) 3 (.int .i64 m))
  clear n1 n2 o2 k1 k2
  go_enter Try.func36, Try.ntmps36
  go_wp2_with fail
  refine bodyPost_ret (Ret.ret_cell rfl _ _ (w.heap.size + 1) 71 _ (0, 0) _ rfl HS.out Try.underlying71 rfl (by kernel_rfl)) rfl ⟨rfl, HK.out⟩
end Go.Proofs.Ytmjjbapahgejmaa.Rre
