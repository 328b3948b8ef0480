/-
  The program of layer 17 (rre): the next value, the next rectangle.
-/
import Derived.Test.YtmjjbapahgejmaaRrePrgE
import Derived.Test.YtmjjbapahgejmaaAllFmtP
namespace Go.Proofs.Ytmjjbapahgejmaa.Rre
open Go.ChangeShapes Go.WideShapes Go.ChangeAt Go.RowKit Lz RowG RegVal Pln
open Go.Proofs.Ytmjjbapahgejmaa.Fmt (Fm FmAt size_any fget_any)
open Go.Proofs.Ytmjjbapahgejmaa.Oct (CurAt grown_trans grown_drew grown_of_below below_of_grown byS byI byE intV numI numE sizeB valL keepE intV_bd)
set_option linter.unusedVariables false
set_option linter.unusedSimpArgs false
set_option maxRecDepth 100000

theorem FmAt.grown {w w' : World} {b k : Nat} {f : Fm} (h : FmAt w b f) (g : w.grownBy w' (some k)) (hb : b ≠ k) : FmAt w' b f := by
  have key : ∀ i v, w.cell? ⟨b, i, none⟩ = some v → w'.cell? ⟨b, i, none⟩ = some v := fun i v hv => g.cell hv (by simp; omega)
  obtain ⟨h0, h1, h2, h3, h4, h5, h6, h7, h8, h9⟩ := h
  exact ⟨key _ _ h0, key _ _ h1, key _ _ h2, key _ _ h3, key _ _ h4, key _ _ h5, key _ _ h6, key _ _ h7, key _ _ h8, key _ _ h9⟩
def rvV (F p : Value) (z X E : Int) (S : ByteArray) : Nat → Value
  | 0 => F
  | 1 => p
  | 2 => F
  | 3 => .int .i64 z
  | 4 => .string S
  | 5 => .tuple #[.int .i64 X, .int .i64 E]
  | 6 => .tuple #[.int .i64 X, .int .i64 E]
  | 7 => .int .i64 X
  | 8 => .int .i64 E
  | 9 => .int .i64 X
  | _ => .int .i64 E
def rvS (w1 : World) (b : Nat) (t : ByteArray) (i e i' e' : Int) (ℓ : Nat → Bool) (W : World) : Prop :=
  w1.grownBy W (some b) ∧ (ℓ 4 = false → CurAt 99 W b t i e) ∧ (ℓ 4 = true → CurAt 99 W b t i' e')
theorem rvS_keep {w1 W : World} {b : Nat} {t : ByteArray} {i e i' e' : Int} {ℓ : Nat → Bool} {j : Nat} (h : rvS w1 b t i e i' e' ℓ W) (hj : j ≠ 4) : rvS w1 b t i e i' e' (fun q => if q = j then true else ℓ q) W :=
  ⟨h.1, fun hl => h.2.1 (by simpa [Ne.symm hj] using hl), fun hl => h.2.2 (by simpa [Ne.symm hj] using hl)⟩
theorem rvS_below {w1 W W' : World} {b : Nat} {t : ByteArray} {i e i' e' : Int} {ℓ : Nat → Bool} (hb : b < w1.heap.size) (h : rvS w1 b t i e i' e' ℓ W) (k : Below W.heap.size W W') : rvS w1 b t i e i' e' ℓ W' := by
  have hbW : b < W.heap.size := Nat.lt_of_lt_of_le hb h.1.size
  exact ⟨grown_trans h.1 (grown_of_below k _), fun hl => (h.2.1 hl).below k hbW, fun hl => (h.2.2 hl).below k hbW⟩
set_option maxHeartbeats 2000000 in
theorem readValue_any (f : Fm) (hf : f.Wf) (b : Nat) (t : ByteArray) (i e : Int) (w : World) (h : CurAt 99 w b t i e) (h0 : 0 ≤ i) (h1 : i ≤ t.size) (ht : t.size ≤ 100000) :
    Calls Try.prog 45 #[.pointer (some ⟨b, 0, none⟩), f.v] w fun r w' => r = .returned (.int .i64 (f.get (byS t i e f.size))) ∧ CurAt 99 w' b t (byI t i e f.size) (byE t i e f.size) ∧ w.grownBy w' (some b) := by
  have Z := Lib.hid (fun w => size_any f hf w)
  have hsz : (byS t i e f.size).size ≤ 100000 := by
    unfold byS
    split
    · rw [ByteArray.size_extract]; omega
    · exact Nat.zero_le _
  have G := Lib.hid (fun w => fget_any f hf (byS t i e f.size) hsz w)
  have BY := Lib.hid (fun W hW => Oct.bytes_any b t i e f.size W hW h0 h1 (by omega))
  clear hsz
  generalize byS t i e f.size = S at *
  generalize byI t i e f.size = I' at *
  generalize byE t i e f.size = E' at *
  generalize f.get S = X at *
  generalize f.getE S = XE at *
  generalize f.size = z at *
  have hlt := h.lt
  have AT := FmAt.box f w 37
  have k1 := World.grownBy_alloc w (.cells #[.int .i64 f.B, .int .i64 f.D, .bool f.big, .bool f.tr, .int .i64 f.rm, .int .i64 f.gm, .int .i64 f.bm, .int .i64 f.rs, .int .i64 f.gs, .int .i64 f.bs] 37) (some b)
  have C1 := Oct.CurAt.alloc h (.cells #[.int .i64 f.B, .int .i64 f.D, .bool f.big, .bool f.tr, .int .i64 f.rm, .int .i64 f.gm, .int .i64 f.bm, .int .i64 f.rs, .int .i64 f.gs, .int .i64 f.bs] 37)
  have z1 := Pln.alloc_size w (.cells #[.int .i64 f.B, .int .i64 f.D, .bool f.big, .bool f.tr, .int .i64 f.rm, .int .i64 f.gm, .int .i64 f.bm, .int .i64 f.rs, .int .i64 f.gs, .int .i64 f.bs] 37)
  have HF : f.v = .agg #[.int .i64 f.B, .int .i64 f.D, .bool f.big, .bool f.tr, .int .i64 f.rm, .int .i64 f.gm, .int .i64 f.bm, .int .i64 f.rs, .int .i64 f.gs, .int .i64 f.bs] := rfl
  rw [HF] at Z G ⊢
  clear h HF hf
  go_enter Try.func45, Try.ntmps45
  go_wp2_with fail
  generalize w.alloc (.cells #[.int .i64 f.B, .int .i64 f.D, .bool f.big, .bool f.tr, .int .i64 f.rm, .int .i64 f.gm, .int .i64 f.bm, .int .i64 f.rs, .int .i64 f.gs, .int .i64 f.bs] 37) = w1 at *
  have hb1 : b < w1.heap.size := by omega
  have HFA := Lib.hid (fun W (g : w1.grownBy W (some b)) => FmAt.grown AT g (by omega))
  obtain ⟨c0, hc0⟩ : ∃ c0, w.heap.size = c0 := ⟨_, rfl⟩
  rw [hc0] at HFA ⊢
  have HK1 := Lib.hid k1
  have HC1 := Lib.hid C1
  clear AT C1 k1 hc0
  refine region_alls (by kernel_rfl) (rvV (.agg #[.int .i64 f.B, .int .i64 f.D, .bool f.big, .bool f.tr, .int .i64 f.rm, .int .i64 f.gm, .int .i64 f.bm, .int .i64 f.rs, .int .i64 f.gs, .int .i64 f.bs]) (.pointer (some ⟨b, 0, none⟩)) z X XE S) (rvS w1 b t i e I' E') [0, 3] [none, none, none, none, none, some 9, some 10, some 6, some 0, some 1, some 2, some 3, some 4, some 5, some 7, some 8, none] (by kernel_rfl) (by kernel_rfl) (by rfl) (by kernel_rfl) (by kernel_rfl) (by kernel_rfl) ⟨grown_drew (World.grownBy.refl w1 _), fun _ => HC1.out, fun h => by cases h⟩ ⟨?_, ?_, ?_, ?_, ?_, ?_, ?_, ?_, ?_, ?_, ?_, trivial⟩ ?_
  case refine_12 =>
    intro ℓ W hl hS
    have HS := Lib.hid (And.intro (hS.2.2 (hl 4 (by decide))) (grown_trans HK1.out hS.1))
    clear hS hl
    simp only [zipF, rvV]
    go_wp2_with fail
    go_ret
    exact ⟨rfl, HS.out.1, HS.out.2⟩
  case refine_5 =>
    intro ℓ act Wd hl hS hw hr hd
    clear hw
    simp [readFacts, depFacts, dstOf, Region.binds, rvV] at hr hd
    refine ⟨wanted_none (by rfl), fun K hK => ?_⟩
    go_simp
    refine (BY.out Wd (hS.2.1 hl)).mono ?_
    rintro r w' ⟨rfl, hc, hg⟩
    exact hK _ ⟨grown_trans hS.1 hg, fun h => by simp at h, fun _ => hc⟩
  all_goals
    intro ℓ act Wd hl hS hw hr hd
    obtain ⟨d0, d1, d2, d3, d4, d5, d6, d7, d8, d9⟩ := HFA.out Wd hS.1
    clear hw
    simp [readFacts, depFacts, dstOf, Region.binds, rvV] at hr hd
    refine ⟨wanted_none (by rfl), fun K hK => ?_⟩
    go_simp
    first
      | exact hK _ (rvS_keep hS (by decide))
      | (with_reducible refine (Z.out _).mono ?_
         rintro r w' ⟨rfl, bb⟩
         exact hK _ (rvS_keep (rvS_below hb1 hS bb) (by decide)))
      | (with_reducible refine (G.out _).mono ?_
         rintro r w' ⟨rfl, bb⟩
         exact hK _ (rvS_keep (rvS_below hb1 hS bb) (by decide)))
end Go.Proofs.Ytmjjbapahgejmaa.Rre
