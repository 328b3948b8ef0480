/-
  Contracts of the reference of layer 16 (plain): rows of values, of colours.
-/
import Derived.Test.YtmjjbapahgejmaaPlnRow
import Derived.Test.YtmjjbapahgejmaaAllRow17
import Derived.Test.YtmjjbapahgejmaaAllFmtM
namespace Go.Proofs.Ytmjjbapahgejmaa.Pln
open Go.ChangeShapes Go.WideShapes Go.ChangeAt Go.RowKit Lz RowG RegVal Fmt
set_option linter.unusedVariables false
set_option maxRecDepth 100000

/-- 'append' of one number that stands in a block, as one operation of a region in open order. -/
theorem wp_int1 {w : World} {o : Oper} {a : Act} {K : Act → World → Prop} {Q : Exit → Act → World → Prop} (s x : Operand)
    (ho : o.op = .call { callee := .builtin .append, args := #[s, x], argTypes := #[22, 22] })
    (v : Value) (B : Nat) (l : List Int) (hs : a.eval s = v) (hown : IntsAt B w v l) (hB : B ≤ w.heap.size) (hl : l.length ≤ 1000000000) (y : Int) (g : Nat) (hx : a.eval x = .slice (some ⟨g, 0, none⟩) 1 1) (hg : w.cell? ⟨g, 0, none⟩ = some (.int .i64 y))
    (h : ∀ v' w', IntsAt B w' v' (l ++ [y]) → Below B w w' → w.grownBy w' v.ownBlock → K (a.put o.dst v') w') : o.wp Try.prog a w K Q := by
  obtain ⟨i0, hi, hz0, hz1, hz2⟩ := info_parts info_num
  refine wp_append_near s x 22 ho 3 i0 (.int .i64 0) 1 8 Try.underlying22 hi hz0 hz1 hz2 rfl (by decide) v l.length (ints l) hs hown.1 ⟨g, 0, none⟩ 1 1 (ints [y]) hx rfl (fun j u hj => ?_) (fun u hu => ?_) (by unfold maxLen; omega) (by omega) ?_
  · rw [Go.WideShapes.add_plain]
    cases j with
    | zero => simp [ints] at hj; subst hj; exact hg
    | succ j => simp [ints] at hj
  · simp [ints] at hu; subst hu; rfl
  · intro v' w' h1 h2 h3
    refine h v' w' ⟨?_, fun k hk => ?_, fun u hu => ?_⟩ (grown_below h2 hown.2.1 hB) h2
    · rw [List.length_append, ints_append]; exact h1
    · rcases h3 k hk with h4 | h4
      · exact hown.2.1 k h4
      · omega
    · unfold ints at hu
      obtain ⟨q, _, rfl⟩ := List.mem_map.1 hu
      rfl
def plV (vo F vp p : Value) (k c z : Int) : Nat → Option Value
  | 0 => some vo
  | 1 => some F
  | 2 => some vp
  | 3 => some (.int .i64 k)
  | 4 => some p
  | 5 => some (.int .i64 c)
  | 6 => some (.int .i64 z)
  | _ => none
def plR (B N : Nat) (z : Int) (R1 : List Int) (i : Nat) (v : Value) (w : World) : Prop :=
  (i = 7 → ∃ g, N ≤ g ∧ v = .slice (some ⟨g, 0, none⟩) 1 1 ∧ w.cell? ⟨g, 0, none⟩ = some (.int .i64 z)) ∧ (i = 8 ∨ i = 9 → IntsAt B w v R1)
theorem plR_below {B N : Nat} {z : Int} {R1 : List Int} {i : Nat} {v : Value} {w w' : World} (h : plR B N z R1 i v w) (k : Below w.heap.size w w') : plR B N z R1 i v w' := by
  refine ⟨fun e => ?_, fun e => RowAt.below (h.2 e) k⟩
  obtain ⟨g, h1, h2, h3⟩ := h.1 e
  exact ⟨g, h1, h2, (k.cell (World.block_lt_of_cell? w _ h3)).trans h3⟩
def plS (B : Nat) (Wd : World) (ℓ : Nat → Bool) (W : World) : Prop :=
  Below B Wd W ∧ (ℓ 8 = false → Below Wd.heap.size Wd W ∧ ℓ 9 = false)
theorem plS_keep {B : Nat} {Wd W W' : World} {ℓ : Nat → Bool} {i : Nat} (h8 : i ≠ 8) (h9 : i ≠ 9) (h : plS B Wd ℓ W) (hB : B ≤ Wd.heap.size) (k : Below W.heap.size W W') : plS B Wd (fun j => if j = i then true else ℓ j) W' := by
  refine ⟨h.1.trans (k.mono (Nat.le_trans hB h.1.size)), fun e => ?_⟩
  simp only [if_neg (Ne.symm h8), if_neg (Ne.symm h9)] at e ⊢
  exact ⟨(h.2 e).1.trans (k.mono (h.2 e).1.size), (h.2 e).2⟩
set_option maxHeartbeats 1000000 in
theorem refValues_any (f : Fm) (hf : f.ok = true) (vp : Value) (L : List Int) (w : World) (hL : SW w vp L) (hn : L.length ≤ 1000000) :
    Calls Try.prog 38 #[f.v, vp] w fun e w' => ∃ u, e = .returned u ∧ IntsAt w.heap.size w' u (L.map (fun c => ((f.val c : Nat) : Int))) ∧ Below w.heap.size w w' := by
  have V := Lib.hid (fun (c : Int) w => refValue_f f hf c w)
  obtain ⟨G, hG⟩ : ∃ G : Int → Int, (fun c => ((f.val c : Nat) : Int)) = G := ⟨_, rfl⟩
  have HG := Lib.hid (fun c => (congrFun hG c : ((f.val c : Nat) : Int) = G c))
  have V2 : RowKit.Hid (∀ (c : Int) w, Calls Try.prog 63 #[f.v, .int .i64 c] w fun e w' => e = .returned (.int .i64 (G c)) ∧ Below w.heap.size w w') := Lib.hid (fun c w => by have := V.out c w; rw [HG.out] at this; exact this)
  rw [hG]
  clear V HG hG
  have AT := FmAt.box f w 37
  have bel := (Below.refl w.heap.size w).alloc (Nat.le_refl _) (.cells #[.int .i64 f.B, .int .i64 f.D, .bool f.big, .bool f.tr, .int .i64 f.rm, .int .i64 f.gm, .int .i64 f.bm, .int .i64 f.rs, .int .i64 f.gs, .int .i64 f.bs] 37)
  have hsz : (w.alloc (.cells #[.int .i64 f.B, .int .i64 f.D, .bool f.big, .bool f.tr, .int .i64 f.rm, .int .i64 f.gm, .int .i64 f.bm, .int .i64 f.rs, .int .i64 f.gs, .int .i64 f.bs] 37)).heap.size = w.heap.size + 1 := alloc_size _ _
  obtain ⟨w1, hw1⟩ : ∃ w1, w.alloc (.cells #[.int .i64 f.B, .int .i64 f.D, .bool f.big, .bool f.tr, .int .i64 f.rm, .int .i64 f.gm, .int .i64 f.bm, .int .i64 f.rs, .int .i64 f.gs, .int .i64 f.bs] 37) = w1 := ⟨_, rfl⟩
  rw [hw1] at AT bel hsz
  have HA := Lib.hid (fun W (hW : Below w1.heap.size w1 W) => AT.below hW (by omega))
  have HF : f.v = .agg #[.int .i64 f.B, .int .i64 f.D, .bool f.big, .bool f.tr, .int .i64 f.rm, .int .i64 f.gm, .int .i64 f.bm, .int .i64 f.rs, .int .i64 f.gs, .int .i64 f.bs] := rfl
  rw [HF] at V2 ⊢
  obtain ⟨a, n, cap, rfl, hLn, hcell⟩ := hL.read
  have HC := Lib.hid (fun W (hW : Below w1.heap.size w1 W) => hcell W (bel.trans (hW.mono bel.size)))
  have BEL := Lib.hid bel
  have HLn := Lib.hid hLn
  rw [hLn] at hn
  have hle : w.heap.size ≤ w1.heap.size := bel.size
  clear AT hf HF hsz hL hcell bel hLn
  obtain ⟨B, D, big, tr, rm, gm, bm, rs, gs, bs⟩ := f
  simp only at *
  go_enter Try.func38, Try.ntmps38
  go_wp2_with fail
  go_loopw [5, 6] (fun vo vi wz => ∃ k : Nat, k ≤ n ∧ vi = .int .i64 k ∧ IntsAt w1.heap.size wz vo ((L.take k).map G) ∧ Below w1.heap.size w1 wz) (fun _ vi _ => n - (intOf vi).toNat)
  case atStart => exact ⟨0, Nat.zero_le _, rfl, RowAt.nil _ _ _ _, Below.refl _ _⟩
  case round =>
    obtain ⟨k, hk, rfl, hO, hbz⟩ := hrel
    by_cases hlt : k < n
    · have dk : decide ((k : Int) < n) = true := decide_eq_true (by omega)
      have dk2 : decide (k < n) = true := decide_eq_true hlt
      obtain ⟨c, hc⟩ : ∃ c, px L k = c := ⟨_, rfl⟩
      have HR1 : (L.take (k + 1)).map G = (L.take k).map G ++ [G c] := by
        rw [List.take_succ_eq_append_getElem (by rw [HLn.out]; exact hlt), List.map_append, ← hc, px_get (by rw [HLn.out]; exact hlt)]
        rfl
      have ER1 : RowKit.Hid (∀ W v, IntsAt w1.heap.size W v ((L.take k).map G ++ [G c]) → IntsAt w1.heap.size W v ((L.take (k + 1)).map G)) := Lib.hid (fun W v h => by rw [HR1]; exact h)
      obtain ⟨b, off, rfl, hcc⟩ := HC.out _ hbz (by omega)
      have CELL : RowKit.Hid (∀ W', Below w1.heap.size w1 W' → W'.cell? ⟨b, off + k, none⟩ = some (.int .i64 c)) := Lib.hid (fun W' h => by
        obtain ⟨b', off', e, hcc'⟩ := HC.out W' h (by omega)
        simp only [Option.some.injEq, Addr.mk.injEq, and_true] at e
        obtain ⟨rfl, rfl⟩ := e
        rw [← hc]
        exact hcc' k hlt)
      obtain ⟨vn, cn, rfl⟩ := RowAt.shape hO
      have hol : ((L.take k).map G).length ≤ 1000000 := by simp; omega
      have VC := Lib.hid (V2.out c)
      clear hcc HR1 hc
      generalize (L.take k).map G = R at *
      generalize G c = z at *
      have HBd : RowKit.Hid (IntsAt w1.heap.size wr.drew (.slice vn R.length cn) R) := Lib.hid hO
      have HZ := Lib.hid hbz.drew
      have hqs : w1.heap.size ≤ wr.drew.heap.size := hbz.size
      clear hO hbz
      go_wp2_with fail
      refine region_preds (by kernel_rfl) (plV (.slice vn R.length cn) (.agg #[.int .i64 B, .int .i64 D, .bool big, .bool tr, .int .i64 rm, .int .i64 gm, .int .i64 bm, .int .i64 rs, .int .i64 gs, .int .i64 bs]) (.slice (some ⟨b, off, none⟩) n cap) (.pointer (some ⟨b, off + k, none⟩)) (k : Nat) c z) (plR w1.heap.size wr.drew.heap.size z (R ++ [z])) (plS w1.heap.size wr.drew) [2, 1, 6] [none, none, none, none, none, some 9, none, none, none, none, none, none, none, some 0, some 1, some 2, some 3, some 4, some 5, some 6, some 7, some 8, none] (by kernel_rfl) (by kernel_rfl) (by rfl) (by kernel_rfl) (by kernel_rfl) (by kernel_rfl) ⟨Below.refl _ _, fun _ => ⟨Below.refl _ _, rfl⟩⟩ ⟨?_, ?_, ?_, ?_, ?_, ?_, ?_, ?_, ?_, ?_, trivial⟩ ?_
      case refine_11 =>
        intro vs ℓ W3 hl hS hR
        have hq : plR w1.heap.size wr.drew.heap.size z (R ++ [z]) 9 (vs 9) W3 := hR 9 5 (by rfl) rfl
        have HQ := Lib.hid (hq.2 (.inr rfl))
        have HZ3 := Lib.hid (HZ.out.trans hS.1)
        clear hR hS hl hq
        simp only [zipF, plV, Option.getD_some, Option.getD_none]
        generalize vs 9 = nb at *
        generalize vs 8 = nb2 at *
        generalize vs 7 = nb3 at *
        go_wp2_with fail
        exact ⟨⟨k + 1, by omega, by go_num, ER1.out _ _ HQ.out, HZ3.out⟩, by simp [intOf]; omega⟩
      case refine_1 =>
        intro ℓ act W9 hl hS hw hx hr hd
        have e5 : act.tmps[5]? = some (.slice vn R.length cn) := hx 5 9 (by rfl) (by kernel_rfl)
        clear hw hx hr hd
        refine ⟨wanted_none (by rfl), fun K hK => ?_⟩
        go_simp
        exact hK _ _ rfl (plS_keep (by decide) (by decide) hS hqs (Below.refl _ _)) (fun _ _ _ _ h => h)
      case refine_7 =>
        intro ℓ act W9 hl hS hw hx hr hd
        clear hw hx
        simp [readFacts, depFactsP, dstOf, Region.binds, plV] at hr hd
        refine ⟨wanted_none (by rfl), fun K hK => ?_⟩
        go_simp
        refine (VC.out _).mono ?_
        rintro r w' ⟨rfl, b⟩
        exact hK _ _ rfl (plS_keep (by decide) (by decide) hS hqs b) (fun _ _ _ _ h => plR_below h b)
      case refine_8 =>
        intro ℓ act W9 hl hS hw hx hr hd
        clear hw hx
        simp [readFacts, depFactsP, dstOf, Region.binds, plV] at hr hd
        refine ⟨wanted_none (by rfl), fun K hK => ?_⟩
        go_simp
        refine hK _ _ (show plR w1.heap.size wr.drew.heap.size z (R ++ [z]) 7 (.slice (some ⟨W9.heap.size, 0, none⟩) 1 1) (W9.alloc (.cells #[.int .i64 z] 3)) from ⟨fun _ => ⟨W9.heap.size, hS.1.size, rfl, (box1 W9 #[.int .i64 z] 3).2 0 _ rfl⟩, fun h => by omega⟩) (plS_keep (by decide) (by decide) hS hqs (box1 W9 #[.int .i64 z] 3).1) (fun _ _ _ _ h => plR_below h (box1 W9 #[.int .i64 z] 3).1)
      case refine_9 =>
        intro ℓ act W9 hl hS hw hx hr hd
        clear hw hx
        simp [readFacts, depFactsP, dstOf, Region.binds, plV] at hr hd
        refine ⟨wanted_none (by rfl), fun K hK => ?_⟩
        obtain ⟨e13, ⟨u, e20, hu⟩, _⟩ := hd
        obtain ⟨g, hg1, rfl, hg3⟩ := hu.1 rfl
        obtain ⟨hb9, h99⟩ := hS.2 hl
        have hown := RowAt.below HBd.out hb9
        refine wp_int1 (.tmp 13) (.tmp 20) rfl (.slice vn R.length cn) w1.heap.size R (eval_tmp e13) hown (Nat.le_trans hqs hb9.size) (by omega) z g (eval_tmp e20) hg3 ?_
        intro v' w' h1 h2 h3
        refine hK _ _ (show plR w1.heap.size wr.drew.heap.size z (R ++ [z]) 8 v' w' from ⟨fun h => by omega, fun _ => h1⟩) ⟨(hb9.mono hqs).trans h2, fun h => ?_⟩ (fun j u _ hj h => ⟨fun e => ?_, fun e => ?_⟩)
        · simp at h
        · obtain ⟨g', q1, q2, q3⟩ := h.1 e
          refine ⟨g', q1, q2, h3.cell q3 (fun e2 => ?_)⟩
          have := (HBd.out.1.lt g' e2.symm).2
          omega
        · rcases e with rfl | rfl
          · rw [hl] at hj; cases hj
          · rw [h99] at hj; cases hj
      case refine_10 =>
        intro ℓ act W9 hl hS hw hx hr hd
        have h8 : ℓ 8 = true := hw ⟨8, .data⟩ (by simp) (by rfl)
        clear hw hx
        simp [readFacts, depFactsP, dstOf, Region.binds, plV] at hr hd
        refine ⟨wanted_none (by rfl), fun K hK => ?_⟩
        obtain ⟨⟨v, e21, y21⟩, hd2⟩ := hd
        clear hd2
        go_simp
        refine hK _ _ (show plR w1.heap.size wr.drew.heap.size z (R ++ [z]) 9 v W9 from ⟨fun h => by omega, fun _ => y21.2 (.inl rfl)⟩) ⟨hS.1, fun h => ?_⟩ (fun _ _ _ _ h => h)
        simp [h8] at h
      all_goals
        intro ℓ act W9 hl hS hw hx hr hd
        clear hw hx
        simp [readFacts, depFactsP, dstOf, Region.binds, plV] at hr hd
        refine ⟨wanted_none (by rfl), fun K hK => ?_⟩
        have hcW := CELL.out W9 (HZ.out.trans hS.1)
        obtain ⟨d0, d1, d2, d3, d4, d5, d6, d7, d8, d9⟩ := HA.out W9 (HZ.out.trans hS.1)
        dsimp only at d0 d1 d2 d3 d4 d5 d6 d7 d8 d9
        go_simp
        exact hK _ _ rfl (plS_keep (by decide) (by decide) hS hqs (Below.refl _ _)) (fun _ _ _ _ h => h)
    · obtain rfl : k = n := by omega
      have e : L.take k = L := List.take_of_length_le (by rw [HLn.out]; exact Nat.le_refl _)
      rw [e] at hO
      have dk : decide ((k : Int) < k) = false := decide_eq_false (by omega)
      have HQ := Lib.hid (And.intro (RowAt.base hO hle) (BEL.out.trans (hbz.mono hle)))
      clear hO hbz
      go_wp2_with fail
      go_ret
      exact ⟨_, rfl, HQ.out.1, HQ.out.2⟩
set_option maxHeartbeats 1000000 in
theorem refColours_any (f : Fm) (hf : f.ok = true) (vp : Value) (L : List Int) (w : World) (hL : SW w vp L) (hn : L.length ≤ 1000000) :
    Calls Try.prog 54 #[f.v, vp] w fun e w' => ∃ u, e = .returned u ∧ IntsAt w.heap.size w' u (L.map (fun c => ((f.col c : Nat) : Int))) ∧ Below w.heap.size w w' := by
  have V := Lib.hid (fun (c : Int) w => refColour_f f hf c w)
  obtain ⟨G, hG⟩ : ∃ G : Int → Int, (fun c => ((f.col c : Nat) : Int)) = G := ⟨_, rfl⟩
  have HG := Lib.hid (fun c => (congrFun hG c : ((f.col c : Nat) : Int) = G c))
  have V2 : RowKit.Hid (∀ (c : Int) w, Calls Try.prog 77 #[f.v, .int .i64 c] w fun e w' => e = .returned (.int .i64 (G c)) ∧ Below w.heap.size w w') := Lib.hid (fun c w => by have := V.out c w; rw [HG.out] at this; exact this)
  rw [hG]
  clear V HG hG
  have AT := FmAt.box f w 37
  have bel := (Below.refl w.heap.size w).alloc (Nat.le_refl _) (.cells #[.int .i64 f.B, .int .i64 f.D, .bool f.big, .bool f.tr, .int .i64 f.rm, .int .i64 f.gm, .int .i64 f.bm, .int .i64 f.rs, .int .i64 f.gs, .int .i64 f.bs] 37)
  have hsz : (w.alloc (.cells #[.int .i64 f.B, .int .i64 f.D, .bool f.big, .bool f.tr, .int .i64 f.rm, .int .i64 f.gm, .int .i64 f.bm, .int .i64 f.rs, .int .i64 f.gs, .int .i64 f.bs] 37)).heap.size = w.heap.size + 1 := alloc_size _ _
  obtain ⟨w1, hw1⟩ : ∃ w1, w.alloc (.cells #[.int .i64 f.B, .int .i64 f.D, .bool f.big, .bool f.tr, .int .i64 f.rm, .int .i64 f.gm, .int .i64 f.bm, .int .i64 f.rs, .int .i64 f.gs, .int .i64 f.bs] 37) = w1 := ⟨_, rfl⟩
  rw [hw1] at AT bel hsz
  have HA := Lib.hid (fun W (hW : Below w1.heap.size w1 W) => AT.below hW (by omega))
  have HF : f.v = .agg #[.int .i64 f.B, .int .i64 f.D, .bool f.big, .bool f.tr, .int .i64 f.rm, .int .i64 f.gm, .int .i64 f.bm, .int .i64 f.rs, .int .i64 f.gs, .int .i64 f.bs] := rfl
  rw [HF] at V2 ⊢
  obtain ⟨a, n, cap, rfl, hLn, hcell⟩ := hL.read
  have HC := Lib.hid (fun W (hW : Below w1.heap.size w1 W) => hcell W (bel.trans (hW.mono bel.size)))
  have BEL := Lib.hid bel
  have HLn := Lib.hid hLn
  rw [hLn] at hn
  have hle : w.heap.size ≤ w1.heap.size := bel.size
  clear AT hf HF hsz hL hcell bel hLn
  obtain ⟨B, D, big, tr, rm, gm, bm, rs, gs, bs⟩ := f
  simp only at *
  go_enter Try.func54, Try.ntmps54
  go_wp2_with fail
  go_loopw [5, 6] (fun vo vi wz => ∃ k : Nat, k ≤ n ∧ vi = .int .i64 k ∧ IntsAt w1.heap.size wz vo ((L.take k).map G) ∧ Below w1.heap.size w1 wz) (fun _ vi _ => n - (intOf vi).toNat)
  case atStart => exact ⟨0, Nat.zero_le _, rfl, RowAt.nil _ _ _ _, Below.refl _ _⟩
  case round =>
    obtain ⟨k, hk, rfl, hO, hbz⟩ := hrel
    by_cases hlt : k < n
    · have dk : decide ((k : Int) < n) = true := decide_eq_true (by omega)
      have dk2 : decide (k < n) = true := decide_eq_true hlt
      obtain ⟨c, hc⟩ : ∃ c, px L k = c := ⟨_, rfl⟩
      have HR1 : (L.take (k + 1)).map G = (L.take k).map G ++ [G c] := by
        rw [List.take_succ_eq_append_getElem (by rw [HLn.out]; exact hlt), List.map_append, ← hc, px_get (by rw [HLn.out]; exact hlt)]
        rfl
      have ER1 : RowKit.Hid (∀ W v, IntsAt w1.heap.size W v ((L.take k).map G ++ [G c]) → IntsAt w1.heap.size W v ((L.take (k + 1)).map G)) := Lib.hid (fun W v h => by rw [HR1]; exact h)
      obtain ⟨b, off, rfl, hcc⟩ := HC.out _ hbz (by omega)
      have CELL : RowKit.Hid (∀ W', Below w1.heap.size w1 W' → W'.cell? ⟨b, off + k, none⟩ = some (.int .i64 c)) := Lib.hid (fun W' h => by
        obtain ⟨b', off', e, hcc'⟩ := HC.out W' h (by omega)
        simp only [Option.some.injEq, Addr.mk.injEq, and_true] at e
        obtain ⟨rfl, rfl⟩ := e
        rw [← hc]
        exact hcc' k hlt)
      obtain ⟨vn, cn, rfl⟩ := RowAt.shape hO
      have hol : ((L.take k).map G).length ≤ 1000000 := by simp; omega
      have VC := Lib.hid (V2.out c)
      clear hcc HR1 hc
      generalize (L.take k).map G = R at *
      generalize G c = z at *
      have HBd : RowKit.Hid (IntsAt w1.heap.size wr.drew (.slice vn R.length cn) R) := Lib.hid hO
      have HZ := Lib.hid hbz.drew
      have hqs : w1.heap.size ≤ wr.drew.heap.size := hbz.size
      clear hO hbz
      go_wp2_with fail
      refine region_preds (by kernel_rfl) (plV (.slice vn R.length cn) (.agg #[.int .i64 B, .int .i64 D, .bool big, .bool tr, .int .i64 rm, .int .i64 gm, .int .i64 bm, .int .i64 rs, .int .i64 gs, .int .i64 bs]) (.slice (some ⟨b, off, none⟩) n cap) (.pointer (some ⟨b, off + k, none⟩)) (k : Nat) c z) (plR w1.heap.size wr.drew.heap.size z (R ++ [z])) (plS w1.heap.size wr.drew) [2, 1, 6] [none, none, none, none, none, some 9, none, none, none, none, none, none, none, some 0, some 1, some 2, some 3, some 4, some 5, some 6, some 7, some 8, none] (by kernel_rfl) (by kernel_rfl) (by rfl) (by kernel_rfl) (by kernel_rfl) (by kernel_rfl) ⟨Below.refl _ _, fun _ => ⟨Below.refl _ _, rfl⟩⟩ ⟨?_, ?_, ?_, ?_, ?_, ?_, ?_, ?_, ?_, ?_, trivial⟩ ?_
      case refine_11 =>
        intro vs ℓ W3 hl hS hR
        have hq : plR w1.heap.size wr.drew.heap.size z (R ++ [z]) 9 (vs 9) W3 := hR 9 5 (by rfl) rfl
        have HQ := Lib.hid (hq.2 (.inr rfl))
        have HZ3 := Lib.hid (HZ.out.trans hS.1)
        clear hR hS hl hq
        simp only [zipF, plV, Option.getD_some, Option.getD_none]
        generalize vs 9 = nb at *
        generalize vs 8 = nb2 at *
        generalize vs 7 = nb3 at *
        go_wp2_with fail
        exact ⟨⟨k + 1, by omega, by go_num, ER1.out _ _ HQ.out, HZ3.out⟩, by simp [intOf]; omega⟩
      case refine_1 =>
        intro ℓ act W9 hl hS hw hx hr hd
        have e5 : act.tmps[5]? = some (.slice vn R.length cn) := hx 5 9 (by rfl) (by kernel_rfl)
        clear hw hx hr hd
        refine ⟨wanted_none (by rfl), fun K hK => ?_⟩
        go_simp
        exact hK _ _ rfl (plS_keep (by decide) (by decide) hS hqs (Below.refl _ _)) (fun _ _ _ _ h => h)
      case refine_7 =>
        intro ℓ act W9 hl hS hw hx hr hd
        clear hw hx
        simp [readFacts, depFactsP, dstOf, Region.binds, plV] at hr hd
        refine ⟨wanted_none (by rfl), fun K hK => ?_⟩
        go_simp
        refine (VC.out _).mono ?_
        rintro r w' ⟨rfl, b⟩
        exact hK _ _ rfl (plS_keep (by decide) (by decide) hS hqs b) (fun _ _ _ _ h => plR_below h b)
      case refine_8 =>
        intro ℓ act W9 hl hS hw hx hr hd
        clear hw hx
        simp [readFacts, depFactsP, dstOf, Region.binds, plV] at hr hd
        refine ⟨wanted_none (by rfl), fun K hK => ?_⟩
        go_simp
        refine hK _ _ (show plR w1.heap.size wr.drew.heap.size z (R ++ [z]) 7 (.slice (some ⟨W9.heap.size, 0, none⟩) 1 1) (W9.alloc (.cells #[.int .i64 z] 3)) from ⟨fun _ => ⟨W9.heap.size, hS.1.size, rfl, (box1 W9 #[.int .i64 z] 3).2 0 _ rfl⟩, fun h => by omega⟩) (plS_keep (by decide) (by decide) hS hqs (box1 W9 #[.int .i64 z] 3).1) (fun _ _ _ _ h => plR_below h (box1 W9 #[.int .i64 z] 3).1)
      case refine_9 =>
        intro ℓ act W9 hl hS hw hx hr hd
        clear hw hx
        simp [readFacts, depFactsP, dstOf, Region.binds, plV] at hr hd
        refine ⟨wanted_none (by rfl), fun K hK => ?_⟩
        obtain ⟨e13, ⟨u, e20, hu⟩, _⟩ := hd
        obtain ⟨g, hg1, rfl, hg3⟩ := hu.1 rfl
        obtain ⟨hb9, h99⟩ := hS.2 hl
        have hown := RowAt.below HBd.out hb9
        refine wp_int1 (.tmp 13) (.tmp 20) rfl (.slice vn R.length cn) w1.heap.size R (eval_tmp e13) hown (Nat.le_trans hqs hb9.size) (by omega) z g (eval_tmp e20) hg3 ?_
        intro v' w' h1 h2 h3
        refine hK _ _ (show plR w1.heap.size wr.drew.heap.size z (R ++ [z]) 8 v' w' from ⟨fun h => by omega, fun _ => h1⟩) ⟨(hb9.mono hqs).trans h2, fun h => ?_⟩ (fun j u _ hj h => ⟨fun e => ?_, fun e => ?_⟩)
        · simp at h
        · obtain ⟨g', q1, q2, q3⟩ := h.1 e
          refine ⟨g', q1, q2, h3.cell q3 (fun e2 => ?_)⟩
          have := (HBd.out.1.lt g' e2.symm).2
          omega
        · rcases e with rfl | rfl
          · rw [hl] at hj; cases hj
          · rw [h99] at hj; cases hj
      case refine_10 =>
        intro ℓ act W9 hl hS hw hx hr hd
        have h8 : ℓ 8 = true := hw ⟨8, .data⟩ (by simp) (by rfl)
        clear hw hx
        simp [readFacts, depFactsP, dstOf, Region.binds, plV] at hr hd
        refine ⟨wanted_none (by rfl), fun K hK => ?_⟩
        obtain ⟨⟨v, e21, y21⟩, hd2⟩ := hd
        clear hd2
        go_simp
        refine hK _ _ (show plR w1.heap.size wr.drew.heap.size z (R ++ [z]) 9 v W9 from ⟨fun h => by omega, fun _ => y21.2 (.inl rfl)⟩) ⟨hS.1, fun h => ?_⟩ (fun _ _ _ _ h => h)
        simp [h8] at h
      all_goals
        intro ℓ act W9 hl hS hw hx hr hd
        clear hw hx
        simp [readFacts, depFactsP, dstOf, Region.binds, plV] at hr hd
        refine ⟨wanted_none (by rfl), fun K hK => ?_⟩
        have hcW := CELL.out W9 (HZ.out.trans hS.1)
        obtain ⟨d0, d1, d2, d3, d4, d5, d6, d7, d8, d9⟩ := HA.out W9 (HZ.out.trans hS.1)
        dsimp only at d0 d1 d2 d3 d4 d5 d6 d7 d8 d9
        go_simp
        exact hK _ _ rfl (plS_keep (by decide) (by decide) hS hqs (Below.refl _ _)) (fun _ _ _ _ h => h)
    · obtain rfl : k = n := by omega
      have e : L.take k = L := List.take_of_length_le (by rw [HLn.out]; exact Nat.le_refl _)
      rw [e] at hO
      have dk : decide ((k : Int) < k) = false := decide_eq_false (by omega)
      have HQ := Lib.hid (And.intro (RowAt.base hO hle) (BEL.out.trans (hbz.mono hle)))
      clear hO hbz
      go_wp2_with fail
      go_ret
      exact ⟨_, rfl, HQ.out.1, HQ.out.2⟩
end Go.Proofs.Ytmjjbapahgejmaa.Pln
