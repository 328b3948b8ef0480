/-
  The program's rows, joined: a loop over the borders of two rows, side by side.
-/
import Derived.Test.YtedlhfemmofbpaaRegPrgD
namespace Go.Proofs.Ytedlhfemmofbpaa.Reg
open Go.ChangeShapes Go.WideShapes Go.ChangeAt Go.RowKit Go.Shelf Lz RowG RegVal OwnL
set_option linter.unusedVariables false
set_option maxRecDepth 100000
attribute [local go_sem] Oper.semAt_some

def foldR (f : Bool → Bool → Bool) (L : List Stp) (pre : List (Fin L.length)) : List (Int × Bool) := foldJ (rowT f) false [] (pre.map fun x => L[x.1])
theorem foldR_all (f : Bool → Bool → Bool) (L : List Stp) : foldR f L (List.finRange L.length) = foldJ (rowT f) false [] L := by
  unfold foldR
  congr 1
  apply List.ext_getElem
  · simp
  · intro i h1 h2
    simp
theorem foldR_snoc (f : Bool → Bool → Bool) (L : List Stp) (pre : List (Fin L.length)) (x : Fin L.length) : foldR f L (pre ++ [x]) = stepJ (rowT f) false (foldR f L pre) L[x.1] := by
  unfold foldR
  rw [List.map_append, List.map_cons, List.map_nil, foldJ_snoc]
theorem foldR_len (f : Bool → Bool → Bool) (L : List Stp) (pre : List (Fin L.length)) : (foldR f L pre).length ≤ pre.length := by
  have := foldJ_length (rowT f) false [] (pre.map fun x => L[x.1])
  rw [List.length_map] at this
  simpa [foldR] using this
theorem foldR_odd (f : Bool → Bool → Bool) (L : List Stp) (pre : List (Fin L.length)) : lastV false (foldR f L pre) = oddB (foldR f L pre).length := by
  have h : alt (oddB 0) (foldR f L pre) := foldJ_alt (rowT f) false (S := []) trivial _
  have := alt_odd h
  rw [Nat.zero_add] at this
  exact this
/-- What the loop that joins two rows holds. -/
structure RowI (f : Bool → Bool → Bool) (L : List Stp) (w : World) (n0 : Nat) (kv va vb : Value) (pre : List (Fin L.length)) (W : World) : Prop where
  keep : W.heap[n0]? = some (.cells #[kv] 43 (0, 0))
  row : ∃ v, W.heap[n0 + 2]? = some (.cells #[v] 38 (0, 0)) ∧ IntsAt (n0 + 1) W v ((foldR f L pre).map (·.1))
  ba : W.heap[n0 + 3]? = some (.cells #[va] 38 (0, 0))
  bb : W.heap[n0 + 4]? = some (.cells #[vb] 38 (0, 0))
  low : Below n0 w W
theorem RowI.turn {f : Bool → Bool → Bool} {L : List Stp} {w : World} {n0 : Nat} {kv va vb : Value} {pre : List (Fin L.length)} {W W' : World} {B : Nat} (h : RowI f L w n0 kv va vb pre W) (t : Turn (mine 62) B W W') (hB : n0 ≤ B) : RowI f L w n0 kv va vb pre W' := by
  obtain ⟨v, h1, h2⟩ := h.row
  have hw : n0 ≤ W.heap.size := by have := (Array.getElem?_eq_some_iff.1 h.keep).1; omega
  exact ⟨box_turn t h.keep (by decide), ⟨v, box_turn t h1 (by decide), h2.turn t⟩, box_turn t h.ba (by decide), box_turn t h.bb (by decide), h.low.trans (t.below hB hw)⟩
theorem cellAt {w : World} {k o : Nat} {cs : Array Value} {T : TypeId} {z : Nat × Nat} {v : Value} (h : w.heap[k]? = some (.cells cs T z)) (hv : cs[o]? = some v) : w.cell? ⟨k, o, none⟩ = some v := by
  simp only [World.cell?, h]
  simpa using hv
theorem odd_int (n : Nat) : ((n : Int) % 2 == 1) = oddB n := by
  unfold oddB
  rw [Bool.eq_iff_iff, beq_iff_eq, decide_eq_true_iff]
  omega
set_option maxHeartbeats 8000000 in
theorem joinRows_any {g : Nat} {f : Bool → Bool → Bool} (K : Keeps g f) (a b : List Int) (va vb : Value) (w : World) (hla : a.length ≤ 100000) (hlb : b.length ≤ 100000) (ha : IR w va a) (hb : IR w vb b) :
    Calls Try.prog 49 #[va, vb, .func (.func g) #[] #[]] w fun e w' => ∃ u, e = .returned u ∧ IntsAt w.heap.size w' u (rowJ f a b) ∧ Below w.heap.size w w' := by
  obtain ⟨pa, na, ca, rfl, hna, _⟩ := ha.sw.read
  obtain ⟨pb, nb, cb, rfl, hnb, _⟩ := hb.sw.read
  obtain ⟨n0, hn0⟩ : ∃ n0, w.heap.size = n0 := ⟨_, rfl⟩
  have z1 := alloc_size w (.cells #[.func (.func g) #[] #[]] 43)
  have o1 := heap_alloc_new w (.cells #[.func (.func g) #[] #[]] 43)
  have b1 := (Below.refl w.heap.size w).alloc (Nat.le_refl _) (.cells #[.func (.func g) #[] #[]] 43)
  obtain ⟨w1, hw1⟩ : ∃ w1, w.alloc (.cells #[.func (.func g) #[] #[]] 43) = w1 := ⟨_, rfl⟩
  rw [hw1] at z1 o1 b1
  obtain ⟨c, hc⟩ : ∃ c, na + nb = c := ⟨_, rfl⟩
  have f1 : IntKind.i64.wrap ((na : Int) + (nb : Int)) = c := (IntWalk.i64_in _ (by omega)).trans (by omega)
  obtain ⟨w2, hmk, r2, b2, z2⟩ := make_row c (by omega) w1
  have z3 := alloc_size w2 (.cells #[.slice (some ⟨w1.heap.size, 0, none⟩) 0 c] 38)
  have o3 := heap_alloc_new w2 (.cells #[.slice (some ⟨w1.heap.size, 0, none⟩) 0 c] 38)
  have b3 := (Below.refl w2.heap.size w2).alloc (Nat.le_refl _) (.cells #[.slice (some ⟨w1.heap.size, 0, none⟩) 0 c] 38)
  obtain ⟨w3, hw3⟩ : ∃ w3, w2.alloc (.cells #[.slice (some ⟨w1.heap.size, 0, none⟩) 0 c] 38) = w3 := ⟨_, rfl⟩
  rw [hw3] at z3 o3 b3
  have C0 := Lib.hid (side_any pa pb na ca nb cb w3)
  have z4 := alloc_size w3 (.cells #[.slice pa na ca] 38)
  have o4 := heap_alloc_new w3 (.cells #[.slice pa na ca] 38)
  have b4 := (Below.refl w3.heap.size w3).alloc (Nat.le_refl _) (.cells #[.slice pa na ca] 38)
  obtain ⟨w4, hw4⟩ : ∃ w4, w3.alloc (.cells #[.slice pa na ca] 38) = w4 := ⟨_, rfl⟩
  rw [hw4] at z4 o4 b4 C0
  have z5 := alloc_size w4 (.cells #[.slice pb nb cb] 38)
  have o5 := heap_alloc_new w4 (.cells #[.slice pb nb cb] 38)
  have b5 := (Below.refl w4.heap.size w4).alloc (Nat.le_refl _) (.cells #[.slice pb nb cb] 38)
  obtain ⟨w5, hw5⟩ : ∃ w5, w4.alloc (.cells #[.slice pb nb cb] 38) = w5 := ⟨_, rfl⟩
  rw [hw5] at z5 o5 b5 C0
  rw [hn0] at z1 o1 b1
  rw [z1] at z2 r2 b2 hw3 o3 hmk
  replace z2 : w2.heap.size = n0 + 2 := by omega
  rw [z2] at z3 o3 b3
  replace z3 : w3.heap.size = n0 + 3 := by omega
  rw [z3] at z4 o4 b4 C0
  replace z4 : w4.heap.size = n0 + 4 := by omega
  rw [z4] at z5 o5 b5
  replace z5 : w5.heap.size = n0 + 5 := by omega
  rw [show n0 + 3 + 1 = n0 + 4 from rfl] at C0
  have s0 : w5.heap[n0]? = some (.cells #[.func (.func g) #[] #[]] 43 (0, 0)) := (b5.block _ (by omega)).trans ((b4.block _ (by omega)).trans ((b3.block _ (by omega)).trans ((b2.block _ (by omega)).trans o1)))
  have s2 : w5.heap[n0 + 2]? = some (.cells #[.slice (some ⟨n0 + 1, 0, none⟩) 0 c] 38 (0, 0)) := (b5.block _ (by omega)).trans ((b4.block _ (by omega)).trans o3)
  have s3 : w5.heap[n0 + 3]? = some (.cells #[.slice pa na ca] 38 (0, 0)) := (b5.block _ (by omega)).trans o4
  have s4 : w5.heap[n0 + 4]? = some (.cells #[.slice pb nb cb] 38 (0, 0)) := o5
  have low5 : Below n0 w w5 := ((((b1.mono (by omega)).trans (b2.mono (by omega))).trans (b3.mono (by omega))).trans (b4.mono (by omega))).trans (b5.mono (by omega))
  have r5 : IntsAt (n0 + 1) w5 (.slice (some ⟨n0 + 1, 0, none⟩) 0 c) [] := ((IntsAt.below r2 (b3.mono (by omega))).below (b4.mono (by omega))).below (b5.mono (by omega))
  obtain ⟨L, hL⟩ : ∃ L, stps a b = L := ⟨_, rfl⟩
  have hI0 : RowI f L w n0 (.func (.func g) #[] #[]) (.slice pa na ca) (.slice pb nb cb) [] w5 := ⟨s0, ⟨_, s2, r5⟩, s3, s4, low5⟩
  have hseq := side1_in 4 (by decide) a b (.slice pa na ca) (.slice pb nb cb) n0 (n0 + 3) (n0 + 4) (by omega) (by omega) w5 w hn0 low5 ha hb (cellAt s3 rfl) (cellAt s4 rfl)
  rw [hL] at hseq
  have HSEQ := Lib.hid hseq
  have HI0 := Lib.hid hI0
  have HLL := Lib.hid hL
  have HLEN : RowKit.Hid (L.length ≤ 200000) := Lib.hid (by rw [← hL]; have := run_length (a.length + b.length) a b 0 0; unfold stps; omega)
  clear hseq hI0 hL r5 r2 ha hb s0 s2 s3 s4 o1 o3 o4 o5 b1 b2 b3 b4 b5 low5
  refine (callsIn_wide (n := 5)).1 ?_
  refine callsIn_of_wp_marks Try.func49 rfl trivial ?_ rfl
  simp only [Try.ntmps49, List.size_toArray, List.length_cons, List.length_nil, Nat.reduceAdd, Nat.reduceSub, Array.replicate_succ, Array.replicate_zero, List.push_toArray, List.append_toArray, List.nil_append, List.cons_append]
  gi_wp2
  refine ⟨trivial, (callsIn_wide.2 C0.out).mono ?_⟩
  rintro e w' ⟨rfl, hw'⟩
  have hw' := hw'.symm
  subst hw'
  clear C0 hmk hw1 hw3 hw4 hw5
  gi_wp2
  have hK1 : ∀ A B : World, w5.heap.size ≤ A.heap.size → Turn noC w5.heap.size A B → SideK n0 (n0 + 3) (n0 + 4) A B := fun A B hs t => SideK.turn t (by omega) (by omega) (by omega) (by omega) (by omega) (by omega)
  refine range_own (n := 5) (by decide) (gf := 56) (lb := #[.pointer (some ⟨n0 + 3, 0, none⟩), .pointer (some ⟨n0 + 4, 0, none⟩)]) rfl (enters_of Try.func56 (by kernel_rfl) rfl) HSEQ.out (Below.refl _ _)
    (fun h k => h.trans k) (fun hs t => hK1 _ _ hs t) (fun _ => rfl) (RowI f L w n0 (.func (.func g) #[] #[]) (.slice pa na ca) (.slice pb nb cb)) (fun s W W' h t => h.turn t (by omega)) HI0.out ?round ?done
  case round =>
    intro l pre x W hl hI hlen
    have hws : w5.heap.size ≤ W.heap.size := by have := (Array.getElem?_eq_some_iff.1 hI.bb).1; omega
    rw [List.length_finRange] at hlen
    have hxl := foldR_len f L pre
    have hodd := foldR_odd f L pre
    have hsn := foldR_snoc f L pre x
    have HII := Lib.hid hI
    have HSN := Lib.hid hsn
    have HKK := Lib.hid hK1
    have hml : (foldR f L pre).length ≤ 200000 := by have := HLEN.out; omega
    generalize hS : foldR f L pre = S at *
    simp only [stpE]
    obtain ⟨⟨zz, ii, jj⟩, hst⟩ : ∃ s, L[x.1] = s := ⟨_, rfl⟩
    rw [hst]
    rw [hst] at HSN
    simp only
    clear hsn hI hlen hst
    gi_wp2
    refine ⟨(KeepsOthers.alloc _ _).from _, HKK.out _ _ hws (Turn.alloc _ _ _ _), fun Wb t => ?_⟩
    have hIb := (HII.out.turn (Turn.alloc (mine 62) w5.heap.size W (.cells #[.int .i64 (ii : Int), .int .i64 (jj : Int)] 62)) (by omega)).turn (t.weak (fun o h => .inl h) (Nat.le_refl _)) (by omega)
    have hpb : Wb.heap[W.heap.size]? = some (.cells #[.int .i64 (ii : Int), .int .i64 (jj : Int)] 62 (0, 0)) := t.cells (heap_alloc_new W _) (by simp [noC, Obj.isCells])
    have c5 := cellAt (o := 0) hIb.keep rfl
    have c9a := cellAt (o := 0) hpb rfl
    have c9b := cellAt (o := 1) hpb rfl
    obtain ⟨v, hv1, hv2⟩ := hIb.row
    rw [hS] at hv2
    have c7 := cellAt (o := 0) hv1 rfl
    have hf7 : Wb.frozen? ⟨n0 + 2, 0, none⟩ = false := by
      unfold World.frozen?
      simp only [hv1]
      simp
    obtain ⟨p, cp, hv⟩ := RowAt.shape hv2
    rw [List.length_map] at hv
    obtain ⟨m, hm⟩ : ∃ m, S.length = m := ⟨_, rfl⟩
    rw [hm] at hv hodd hml
    have HV2 := Lib.hid hv2
    have HV1 := Lib.hid hv1
    have HIB := Lib.hid hIb
    have HOD := Lib.hid hodd
    have KS := Lib.hid K.says
    have KE := Lib.hid K.enters
    subst hv
    generalize hWp : W.heap.size = Wp at *
    clear hodd hIb hv1 hv2 hpb t HII
    obtain ⟨PI, hPI⟩ : ∃ PI, oddB ii = PI := ⟨_, rfl⟩
    obtain ⟨PJ, hPJ⟩ : ∃ PJ, oddB jj = PJ := ⟨_, rfl⟩
    obtain ⟨PM, hPM⟩ : ∃ PM, oddB m = PM := ⟨_, rfl⟩
    obtain ⟨FV, hFV⟩ : ∃ FV, f PI PJ = FV := ⟨_, rfl⟩
    have g1 : ((ii : Int) % 2 == 1) = PI := (odd_int ii).trans hPI
    have g2 : ((jj : Int) % 2 == 1) = PJ := (odd_int jj).trans hPJ
    have g3 : ((m : Int) % 2 == 1) = PM := (odd_int m).trans hPM
    have HST : RowKit.Hid (foldR f L (pre ++ [x]) = if FV = PM then S else S ++ [(zz, FV)]) := Lib.hid (by
      rw [HSN.out]
      unfold stepJ
      rw [show rowT f (Stp.i ⟨zz, ii, jj⟩) (Stp.j ⟨zz, ii, jj⟩) = FV from by unfold rowT; simp only; rw [hPI, hPJ, hFV], HOD.out, hPM])
    have KC := Lib.hid (KS.out PI PJ Wb)
    rw [hFV] at KC
    have ke := KE.out
    clear HSN HOD hPI hPJ hPM KS hFV K
    gi_wp2
    refine ⟨trivial, (CallsIn.inRound l (callsIn_wide.2 KC.out)).mono ?_⟩
    rintro e w' ⟨rfl, rfl⟩
    have hsz2 : n0 + 5 ≤ Wb.heap.size := by have := (Array.getElem?_eq_some_iff.1 HIB.out.bb).1; omega
    have HSAME : RowKit.Hid (∀ S', foldR f L (pre ++ [x]) = S' → S = S' → KeepsFrom (n0 + 5) Wb Wb ∧ SideK n0 (n0 + 3) (n0 + 4) Wb Wb ∧ RowI f L w n0 (.func (.func g) #[] #[]) (.slice pa na ca) (.slice pb nb cb) (pre ++ [x]) Wb) := Lib.hid (by
      rintro S' h1 rfl
      exact ⟨(KeepsOthers.refl _).from _, HKK.out _ _ (by omega) (Turn.refl _ _ _), HIB.out.keep, ⟨_, HV1.out, by rw [h1]; exact HV2.out⟩, HIB.out.ba, HIB.out.bb, HIB.out.low⟩)
    have HTYPE : RowKit.Hid (∀ k, (Value.slice p m cp).ownBlock = some k → n0 + 1 ≤ k ∧ ∃ cs, Wb.heap[k]? = some (.cells cs 3 (0, 0))) := Lib.hid (own_type HV2.out)
    have HDIFF : RowKit.Hid (∀ w1 v', foldR f L (pre ++ [x]) = S ++ [(zz, FV)] → IntsAt (n0 + 1) w1 v' (S.map (·.1) ++ [zz]) → Touch (fun k => (Value.slice p m cp).ownBlock = some k) Wb w1 →
        w1.cell? ⟨n0 + 2, 0, none⟩ = some (.slice p m cp) ∧ w1.frozen? ⟨n0 + 2, 0, none⟩ = false ∧ (KeepsFrom (n0 + 5) Wb (w1.setCell ⟨n0 + 2, 0, none⟩ v') ∧ SideK n0 (n0 + 3) (n0 + 4) Wb (w1.setCell ⟨n0 + 2, 0, none⟩ v') ∧ RowI f L w n0 (.func (.func g) #[] #[]) (.slice pa na ca) (.slice pb nb cb) (pre ++ [x]) (w1.setCell ⟨n0 + 2, 0, none⟩ v'))) := Lib.hid (by
      intro w1 v' h1 h2 ht
      have hne : ∀ (k : Nat) (cs : Array Value) (T : TypeId) (z : Nat × Nat), Wb.heap[k]? = some (Obj.cells cs T z) → T ≠ 3 → ¬ (Value.slice p m cp).ownBlock = some k := fun k cs T z hk hT e => by
        obtain ⟨_, cs', hc⟩ := HTYPE.out k e
        rw [hk] at hc
        cases hc
        exact hT rfl
      have hold : ∀ (k : Nat) (cs : Array Value) (T : TypeId) (z : Nat × Nat), Wb.heap[k]? = some (Obj.cells cs T z) → T ≠ 3 → w1.heap[k]? = some (Obj.cells cs T z) := fun k cs T z hk hT => (ht.block k (Array.getElem?_eq_some_iff.1 hk).1 (hne k cs T z hk hT)).trans hk
      have e2 := hold _ _ _ _ HV1.out (by decide)
      have tt : Touch (fun k => (Value.slice p m cp).ownBlock = some k ∨ k = n0 + 2) Wb (w1.setCell ⟨n0 + 2, 0, none⟩ v') :=
        Touch.trans ⟨ht.os, ht.tape, ht.output, ht.size, fun k hk hF => ht.block k hk (fun e => hF (.inl e))⟩ (Touch.set (.inr rfl))
      have hs := tt.side (n0 := n0) (Ba := n0 + 3) (Bb := n0 + 4) (by omega) (by omega) (by omega) (fun k hk => by
        rcases hk with hk | rfl
        · obtain ⟨q1, cs, q2⟩ := HTYPE.out k hk
          refine ⟨by omega, fun e => ?_, fun e => ?_, fun o ho => ⟨cs, 3, (0, 0), ?_, by decide⟩⟩
          · subst e; exact hne _ _ _ _ HIB.out.ba (by decide) hk
          · subst e; exact hne _ _ _ _ HIB.out.bb (by decide) hk
          · rw [q2] at ho; cases ho; rfl
        · exact ⟨by omega, by omega, by omega, fun o ho => ⟨_, 38, (0, 0), by rw [HV1.out] at ho; cases ho; rfl, by decide⟩⟩)
      refine ⟨cellAt e2 rfl, ?_, hs.2 _, hs.1, ?_, ⟨v', setRowAt e2 rfl, ?_⟩, ?_, ?_, HIB.out.low.trans hs.1.low⟩
      · unfold World.frozen?
        simp only [e2]
        simp
      · rw [setOther (by omega)]; exact hold _ _ _ _ HIB.out.keep (by decide)
      · rw [h1, List.map_append]
        refine RowAt.keep h2 (fun k hk => setOther (fun e => ?_))
        subst e
        obtain ⟨_, cs, hc⟩ := own_type h2 _ hk
        rw [e2] at hc
        cases hc
      · rw [setOther (by omega)]; exact hold _ _ _ _ HIB.out.ba (by decide)
      · rw [setOther (by omega)]; exact hold _ _ _ _ HIB.out.bb (by decide))
    have HLB : RowKit.Hid (n0 + 1 ≤ Wb.heap.size ∧ (S.map (·.1)).length ≤ 1000000000) := Lib.hid ⟨by omega, by rw [List.length_map]; omega⟩
    clear KC HIB HV1 ke g1 g2 g3
    cases FV <;> cases PM
    case false.false =>
      gi_wp2
      rw [z5]
      exact HSAME.out _ (by simpa using HST.out) rfl
    case true.true =>
      gi_wp2
      rw [z5]
      exact HSAME.out _ (by simpa using HST.out) rfl
    case' false.true => have HST2 := Lib.hid (show foldR f L (pre ++ [x]) = S ++ [(zz, _)] from HST.out.trans (if_neg (by simp)))
    case' true.false => have HST2 := Lib.hid (show foldR f L (pre ++ [x]) = S ++ [(zz, _)] from HST.out.trans (if_neg (by simp)))
    all_goals
      have HD := Lib.hid (fun w1 v' => HDIFF.out w1 v' HST2.out)
      clear HST HSAME HDIFF HTYPE HST2
      gi_wp2_with (gi_at_builtin; refine wplIn_int rfl _ _ rfl (.slice p m cp) (n0 + 1) (S.map (·.1)) rfl HV2.out HLB.out.1 HLB.out.2 zz _ rfl ?_; intro v' w1 hown' ht; have hd := HD.out w1 v' hown' ht; obtain ⟨d1, d2, d3⟩ := hd; have HD3 := Lib.hid d3; obtain ⟨p', cp', hp'⟩ := RowAt.shape hown'; subst hp'; clear d3 hown' ht)
      rw [z5]
      have hd := HD3.out
      rw [List.length_append, List.length_map, hm] at hd
      exact hd
  case done =>
    intro D W hD hI hdef
    obtain ⟨v, hv1, hv2⟩ := hI.row
    have hrow : (foldR f L (List.finRange L.length)).map (·.1) = rowJ f a b := by
      rw [foldR_all, ← HLL.out]
      rfl
    rw [hrow] at hv2
    have c7 := cellAt (o := 0) hv1 rfl
    obtain ⟨p, cp, hp⟩ := RowAt.shape hv2
    subst hp
    have HV2 := Lib.hid hv2
    have HI := Lib.hid hI
    have HNE : RowKit.Hid (∀ k cs T z, W.heap[k]? = some (Obj.cells cs T z) → k ≠ D) := Lib.hid (fun k cs T z hk e => by subst e; rw [hdef] at hk; cases hk)
    clear hv1 hv2 hI hrow
    gi_wp2
    refine ⟨by simp, .inl ⟨_, _, rfl, run_takeDeferred hdef, ?_⟩⟩
    refine ⟨_, results_tmp rfl _ _ _, ⟨_, rfl, ?_, ?_⟩⟩
    · rw [hn0]
      refine (RowAt.keep HV2.out (fun k hk => World.putObj_heap_other (fun e => ?_))).base (Nat.le_succ _)
      obtain ⟨_, cs, hc⟩ := own_type HV2.out k hk
      exact HNE.out k _ _ _ hc e
    · rw [hn0]
      exact HI.out.low.trans ((Turn.putObj (p := noC) _ hD hdef rfl).below (by omega) (by have := HI.out.low.size; omega))
end Go.Proofs.Ytedlhfemmofbpaa.Reg
