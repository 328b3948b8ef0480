/-
  Contracts of the reference of layer 16 (plain): what is left of colours.
-/
import Derived.Test.YtmjjbapahgejmaaPlnRefA
namespace Go.Proofs.Ytmjjbapahgejmaa.Pln
open Go.ChangeShapes Go.WideShapes Go.ChangeAt Go.RowKit Lz RowG RegVal Fmt
set_option linter.unusedVariables false
set_option maxRecDepth 100000

def qsV (F vp : Value) : Nat → Option Value
  | 0 => some F
  | 1 => some F
  | 2 => some vp
  | _ => none
def qsR (B : Nat) (R1 R2 : List Int) (i : Nat) (v : Value) (w : World) : Prop := (i = 3 → SW w v R1) ∧ (i = 4 ∨ i = 5 → IntsAt B w v R2)
theorem qsR_below {B : Nat} {R1 R2 : List Int} {i : Nat} {v : Value} {w w' : World} (h : qsR B R1 R2 i v w) (k : Below w.heap.size w w') : qsR B R1 R2 i v w' :=
  ⟨fun e => (h.1 e).below k, fun e => RowAt.below (h.2 e) k⟩
theorem refQuants_any (f : Fm) (hf : f.ok = true) (vp : Value) (L : List Int) (w : World) (hL : SW w vp L) (hn : L.length ≤ 1000000) :
    Calls Try.prog 22 #[f.v, vp] w fun e w' => ∃ u, e = .returned u ∧ IntsAt w.heap.size w' u (L.map (fun c => ((f.left c : Nat) : Int))) ∧ Below w.heap.size w w' := by
  have V := Lib.hid (fun w (h : SW w vp L) => refValues_any f hf vp L w h hn)
  have C := Lib.hid (fun v w (h : SW w v (L.map (fun c => ((f.val c : Nat) : Int)))) => refColours_any f hf v _ w h (by rw [List.length_map]; exact hn))
  have HL : RowKit.Hid (L.map (fun c => ((f.left c : Nat) : Int)) = (L.map (fun c => ((f.val c : Nat) : Int))).map (fun c => ((f.col c : Nat) : Int))) := Lib.hid (by rw [List.map_map]; rfl)
  rw [← HL.out] at C
  generalize L.map (fun c => ((f.left c : Nat) : Int)) = R2 at *
  generalize L.map (fun c => ((f.val c : Nat) : Int)) = R1 at *
  clear HL
  have AT := FmAt.box f w 37
  have bel := (Below.refl w.heap.size w).alloc (Nat.le_refl _) (.cells #[.int .i64 f.B, .int .i64 f.D, .bool f.big, .bool f.tr, .int .i64 f.rm, .int .i64 f.gm, .int .i64 f.bm, .int .i64 f.rs, .int .i64 f.gs, .int .i64 f.bs] 37)
  have hsz : (w.alloc (.cells #[.int .i64 f.B, .int .i64 f.D, .bool f.big, .bool f.tr, .int .i64 f.rm, .int .i64 f.gm, .int .i64 f.bm, .int .i64 f.rs, .int .i64 f.gs, .int .i64 f.bs] 37)).heap.size = w.heap.size + 1 := alloc_size _ _
  obtain ⟨w1, hw1⟩ : ∃ w1, w.alloc (.cells #[.int .i64 f.B, .int .i64 f.D, .bool f.big, .bool f.tr, .int .i64 f.rm, .int .i64 f.gm, .int .i64 f.bm, .int .i64 f.rs, .int .i64 f.gs, .int .i64 f.bs] 37) = w1 := ⟨_, rfl⟩
  rw [hw1] at AT bel hsz
  have HA := Lib.hid (fun W (hW : Below w1.heap.size w1 W) => AT.below hW (by omega))
  have HF : f.v = .agg #[.int .i64 f.B, .int .i64 f.D, .bool f.big, .bool f.tr, .int .i64 f.rm, .int .i64 f.gm, .int .i64 f.bm, .int .i64 f.rs, .int .i64 f.gs, .int .i64 f.bs] := rfl
  rw [HF] at V C ⊢
  have HSL := Lib.hid (hL.below bel)
  obtain ⟨a, cap, rfl, _⟩ := hL.cells
  have BEL := Lib.hid bel
  clear AT hf HF hsz hL bel
  obtain ⟨B, D, big, tr, rm, gm, bm, rs, gs, bs⟩ := f
  simp only at *
  go_enter Try.func22, Try.ntmps22
  go_wp2_with fail
  refine region_preds (by kernel_rfl) (qsV (.agg #[.int .i64 B, .int .i64 D, .bool big, .bool tr, .int .i64 rm, .int .i64 gm, .int .i64 bm, .int .i64 rs, .int .i64 gs, .int .i64 bs]) (.slice a L.length cap)) (qsR w.heap.size R1 R2) (fun _ W => Below w1.heap.size w1 W) [2, 1] [none, none, none, none, some 5, some 0, some 1, some 2, some 3, some 4] (by kernel_rfl) (by kernel_rfl) (by rfl) (by kernel_rfl) (by kernel_rfl) (by kernel_rfl) ((Below.refl _ _).drew) ⟨?_, ?_, ?_, ?_, ?_, ?_, trivial⟩ ?_
  case refine_7 =>
    intro vs ℓ W3 hl hS hR
    have hq : qsR w.heap.size R1 R2 5 (vs 5) W3 := hR 5 4 (by rfl) rfl
    have HQ := Lib.hid (hq.2 (.inr rfl))
    have HZ3 := Lib.hid (BEL.out.trans (hS.mono BEL.out.size))
    clear hR hS hl hq
    simp only [zipF, qsV, Option.getD_some, Option.getD_none]
    generalize vs 5 = nb at *
    generalize vs 4 = nb2 at *
    generalize vs 3 = nb3 at *
    go_wp2_with fail
    go_ret
    exact ⟨_, rfl, HQ.out, HZ3.out⟩
  case refine_4 =>
    intro ℓ act W9 hl hS hw hx hr hd
    clear hw hx
    simp [readFacts, depFactsP, dstOf, Region.binds, qsV] at hr hd
    refine ⟨wanted_none (by rfl), fun K hK => ?_⟩
    go_simp
    refine (V.out _ (HSL.out.below hS)).mono ?_
    rintro r w' ⟨u, rfl, h1, b⟩
    exact hK _ _ (show qsR w.heap.size R1 R2 3 u w' from ⟨fun _ => (IntsAt.si h1).sw, fun h => by omega⟩) (hS.trans (b.mono hS.size)) (fun _ _ _ _ h => qsR_below h b)
  case refine_5 =>
    intro ℓ act W9 hl hS hw hx hr hd
    clear hw hx
    simp [readFacts, depFactsP, dstOf, Region.binds, qsV] at hr hd
    refine ⟨wanted_none (by rfl), fun K hK => ?_⟩
    obtain ⟨e5, v, e8, hv⟩ := hd
    go_simp
    refine (C.out _ _ (hv.1 rfl)).mono ?_
    rintro r w' ⟨u, rfl, h1, b⟩
    have hB : w.heap.size ≤ W9.heap.size := Nat.le_trans BEL.out.size hS.size
    exact hK _ _ (show qsR w.heap.size R1 R2 4 u w' from ⟨fun h => by omega, fun _ => RowAt.base h1 hB⟩) (hS.trans (b.mono hS.size)) (fun _ _ _ _ h => qsR_below h b)
  case refine_6 =>
    intro ℓ act W9 hl hS hw hx hr hd
    clear hw hx
    simp [readFacts, depFactsP, dstOf, Region.binds, qsV] at hr hd
    refine ⟨wanted_none (by rfl), fun K hK => ?_⟩
    obtain ⟨⟨v, e9, y9⟩, hd2⟩ := hd
    clear hd2
    go_simp
    exact hK _ _ (show qsR w.heap.size R1 R2 5 v W9 from ⟨fun h => by omega, fun _ => y9.2 (.inl rfl)⟩) hS (fun _ _ _ _ h => h)
  all_goals
    intro ℓ act W9 hl hS hw hx hr hd
    clear hw hx
    clear hd
    simp [readFacts] at hr
    refine ⟨wanted_none (by rfl), fun K hK => ?_⟩
    obtain ⟨d0, d1, d2, d3, d4, d5, d6, d7, d8, d9⟩ := HA.out W9 hS
    dsimp only at d0 d1 d2 d3 d4 d5 d6 d7 d8 d9
    go_simp
    exact hK _ _ rfl hS (fun _ _ _ _ h => h)
end Go.Proofs.Ytmjjbapahgejmaa.Pln
