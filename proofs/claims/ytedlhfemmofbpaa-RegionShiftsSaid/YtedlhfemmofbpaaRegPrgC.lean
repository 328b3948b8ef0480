/-
  The program's borders of two lists, side by side, as an iterator: what it hands to a loop's body.
-/
import Derived.Sort.CutIn
import Derived.Test.YtedlhfemmofbpaaRegPrgL
import Derived.Test.YtedlhfemmofbpaaRegPrgB
namespace Go.Proofs.Ytedlhfemmofbpaa.Reg
open Go.ChangeShapes Go.WideShapes Go.ChangeAt Go.RowKit Go.Shelf Lz RowG RegVal OwnL
set_option linter.unusedVariables false
set_option maxRecDepth 100000
attribute [local go_sem] Oper.semAt_some

/-- What a round keeps. -/
structure SideK (n0 Ba Bb : Nat) (W W' : World) : Prop where
  low : Below n0 W W'
  ba : W'.heap[Ba]? = W.heap[Ba]?
  bb : W'.heap[Bb]? = W.heap[Bb]?
  own : ∀ (k : Nat) (cs : Array Value) (z : Nat × Nat), W.heap[k]? = some (Obj.cells cs 62 z) → W'.heap[k]? = some (Obj.cells cs 62 z)
theorem SideK.trans {n0 Ba Bb : Nat} {A B C : World} (h : SideK n0 Ba Bb A B) (k : SideK n0 Ba Bb B C) : SideK n0 Ba Bb A C :=
  ⟨h.low.trans k.low, k.ba.trans h.ba, k.bb.trans h.bb, fun i cs z hi => k.own i cs z (h.own i cs z hi)⟩
theorem SideK.turn {n0 Ba Bb B : Nat} {W W' : World} (h : Turn noC B W W') (h0 : n0 ≤ B) (h1 : n0 ≤ W.heap.size) (ha : Ba < B) (hb : Bb < B) (ha2 : Ba < W.heap.size) (hb2 : Bb < W.heap.size) : SideK n0 Ba Bb W W' :=
  ⟨h.below h0 h1, (h.block Ba ha2).elim id (fun e => absurd e.1 (by omega)), (h.block Bb hb2).elim id (fun e => absurd e.1 (by omega)), fun k cs z hk => h.cells hk (by simp [noC, Obj.isCells])⟩
/-- The steps of two lists. -/
def stps (a b : List Int) : List Stp := run (a.length + b.length) a b 0 0
/-- What the loop's body is handed. -/
def stpE (L : List Stp) (x : Fin L.length) : Array Value := #[.int .i64 L[x.1].z, .agg #[.int .i64 (L[x.1].i : Nat), .int .i64 (L[x.1].j : Nat)]]
def upto (N k : Nat) : List (Fin N) := (List.finRange N).take k
theorem upto_succ {N k : Nat} (h : k < N) : upto N (k + 1) = upto N k ++ [⟨k, h⟩] := by
  unfold upto
  rw [List.take_succ_eq_append_getElem (by simpa using h)]
  simp
theorem upto_length {N k : Nat} (h : k ≤ N) : (upto N k).length = k := by simp [upto, h]
theorem upto_zero (N : Nat) : upto N 0 = [] := rfl
theorem upto_all (N : Nat) : upto N N = List.finRange N := List.take_of_length_le (by simp)
theorem abide_q {β : Type} {p : Obj → Prop} {B : Nat} {J : β → World → Prop} (h : Abide p B J) {s : β} {w : World} (n : Nat) (k : J s w) : J s (w.drewN n) := h s w _ k (Turn.drewN _ _ _ _)
def leftOf (B m : Nat) (w : World) : Nat := match w.heap[B]? with | some (.cells cs _ _) => m - ((intOf (cs.getD 0 undef)).toNat + (intOf (cs.getD 1 undef)).toNat) | _ => 0
theorem sameBlock {w w' : World} {B o : Nat} {v : Value} (h : w'.heap[B]? = w.heap[B]?) (c : w.cell? ⟨B, o, none⟩ = some v) : w'.cell? ⟨B, o, none⟩ = some v := by
  rw [← c]; simp only [World.cell?, h]
/-- What the iterator holds between two steps of its own. -/
structure SideM (n0 Ba Bb Bn : Nat) (va vb : Value) (X : World → Prop) (wl wr : World) (i j : Nat) : Prop where
  jj : X wr
  own : wr.heap[Bn]? = some (.cells #[.int .i64 (i : Int), .int .i64 (j : Int)] 62 (0, 0))
  low : Below n0 wl wr
  ba : wr.cell? ⟨Ba, 0, none⟩ = some va
  bb : wr.cell? ⟨Bb, 0, none⟩ = some vb
theorem SideM.c0 {n0 Ba Bb Bn i j : Nat} {va vb : Value} {X : World → Prop} {wl wr : World} (h : SideM n0 Ba Bb Bn va vb X wl wr i j) : wr.cell? ⟨Bn, 0, none⟩ = some (.int .i64 (i : Int)) := by simp only [World.cell?, h.own]; rfl
theorem SideM.c1 {n0 Ba Bb Bn i j : Nat} {va vb : Value} {X : World → Prop} {wl wr : World} (h : SideM n0 Ba Bb Bn va vb X wl wr i j) : wr.cell? ⟨Bn, 1, none⟩ = some (.int .i64 (j : Int)) := by simp only [World.cell?, h.own]; rfl
theorem SideM.fr {n0 Ba Bb Bn i j : Nat} {va vb : Value} {X : World → Prop} {wl wr : World} (h : SideM n0 Ba Bb Bn va vb X wl wr i j) (o : Nat) : wr.frozen? ⟨Bn, o, none⟩ = false := by
  unfold World.frozen?
  simp only [h.own]
  simp
theorem SideM.lt {n0 Ba Bb Bn i j : Nat} {va vb : Value} {X : World → Prop} {wl wr : World} (h : SideM n0 Ba Bb Bn va vb X wl wr i j) : Bn < wr.heap.size := (Array.getElem?_eq_some_iff.1 h.own).1
theorem setRowAt {w : World} {R i : Nat} {cs cs' : Array Value} {T : TypeId} {v : Value} (h : w.heap[R]? = some (.cells cs T (0, 0))) (e : cs.setIfInBounds i v = cs') : (w.setCell ⟨R, i, none⟩ v).heap[R]? = some (.cells cs' T (0, 0)) := by
  rw [heap_setCell_same _ R i _ _ v h, e]
theorem setOther {w : World} {R i k : Nat} {v : Value} (h : k ≠ R) : (w.setCell ⟨R, i, none⟩ v).heap[k]? = w.heap[k]? := by
  show (w.heap.modify R _)[k]? = _
  rw [Array.getElem?_modify]
  simp [Ne.symm h]
theorem SideM.put {n0 Ba Bb Bn i j : Nat} {va vb : Value} {X : World → Prop} {wl wr : World} (h : SideM n0 Ba Bb Bn va vb X wl wr i j) {B : Nat} (hX : ∀ A C, X A → Turn (isT 62) B A C → X C) (hB : B ≤ Bn) (h0 : n0 ≤ Bn) (ha : Ba < Bn) (hb : Bb < Bn) (o : Nat) (m i' j' : Nat)
    (e : (#[Value.int .i64 (i : Int), .int .i64 (j : Int)] : Array Value).setIfInBounds o (.int .i64 (m : Int)) = #[.int .i64 (i' : Int), .int .i64 (j' : Int)]) :
    SideM n0 Ba Bb Bn va vb X wl (wr.setCell ⟨Bn, o, none⟩ (.int .i64 (m : Int))).drew i' j' := by
  have t := Turn.setCell hB h.own o (.int .i64 (m : Int))
  refine ⟨hX _ _ (hX _ _ h.jj t) (Turn.drewN _ _ _ 1), setRowAt h.own e, h.low.trans ?_, sameBlock (setOther (by omega)) h.ba, sameBlock (setOther (by omega)) h.bb⟩
  exact ⟨t.os, t.tape, t.output, t.size, fun k hk => setOther (by omega)⟩
theorem SideM.drewN {n0 Ba Bb Bn i j : Nat} {va vb : Value} {X : World → Prop} {wl wr : World} (h : SideM n0 Ba Bb Bn va vb X wl wr i j) {B : Nat} (hX : ∀ A C, X A → Turn (isT 62) B A C → X C) (q : Nat) : SideM n0 Ba Bb Bn va vb X wl (wr.drewN q) i j :=
  ⟨hX _ _ h.jj (Turn.drewN _ _ _ q), h.own, below_q h.low q, h.ba, h.bb⟩
/-- Where the iterator stands. -/
structure SideI (L : List Stp) (a b : List Int) (na nb : Nat) (k i j : Nat) : Prop where
  kk : k ≤ L.length
  i1 : i ≤ na
  j1 : j ≤ nb
  rest : ∃ f, (a.drop i).length + (b.drop j).length ≤ f ∧ L.drop k = run f (a.drop i) (b.drop j) i j
set_option maxHeartbeats 4000000 in
theorem side1_in (n : Nat) (hn : 2 ≤ n) (a b : List Int) (va vb : Value) (n0 Ba Bb : Nat) (hla : a.length ≤ 1000000) (hlb : b.length ≤ 1000000) (w0 wl : World) (hl0 : wl.heap.size = n0) (hbel : Below n0 wl w0) (ha : IR wl va a) (hb : IR wl vb b)
    (ca : w0.cell? ⟨Ba, 0, none⟩ = some va) (cb : w0.cell? ⟨Bb, 0, none⟩ = some vb) :
    Gives n Try.prog 56 #[.pointer (some ⟨Ba, 0, none⟩), .pointer (some ⟨Bb, 0, none⟩)] (stpE (stps a b)) (SideK n0 Ba Bb) 62 (List.finRange (stps a b).length) w0 := by
  generalize hL : stps a b = L
  intro l J W hW hJ hY h0
  rw [List.length_finRange] at hY
  have hL : run (a.length + b.length) a b 0 0 = L := hL
  have lt := fun (B : Nat) (v : Value) (h : w0.cell? ⟨B, 0, none⟩ = some v) => World.block_lt_of_cell? w0 _ h
  have ka := lt _ _ ca
  have kb := lt _ _ cb
  have ca1 := (hW.cell (p := ⟨Ba, 0, none⟩) ka).trans ca
  have cb1 := (hW.cell (p := ⟨Bb, 0, none⟩) kb).trans cb
  have hlow : Below n0 wl W := hbel.trans (hW.mono (by have := hbel.size; omega))
  obtain ⟨pa, na, cpa, rfl, hna, _⟩ := ha.sw.read
  obtain ⟨pb, nb, cpb, rfl, hnb, _⟩ := hb.sw.read
  have z1 := alloc_size W (.cells #[.int .i64 0, .int .i64 0] 62)
  have o1 := heap_alloc_new W (.cells #[.int .i64 0, .int .i64 0] 62)
  have b1 := (Below.refl W.heap.size W).alloc (Nat.le_refl _) (.cells #[.int .i64 0, .int .i64 0] 62)
  have hJ1 : J [] (W.alloc (.cells #[.int .i64 0, .int .i64 0] 62)) := hJ _ _ _ h0 (Turn.alloc _ _ _ _)
  have HJ := Lib.hid hJ
  have HY := Lib.hid hY
  have HA := Lib.hid ha
  have HB := Lib.hid hb
  have HNA := Lib.hid hna
  have HNB := Lib.hid hnb
  have HLA := Lib.hid hla
  have HLB := Lib.hid hlb
  have HL0 := Lib.hid hl0
  have HJ1 := Lib.hid hJ1
  obtain ⟨Bn, hBn⟩ : ∃ Bn, W.heap.size = Bn := ⟨_, rfl⟩
  have kaB : Ba < Bn := hBn ▸ Nat.lt_of_lt_of_le ka hW.size
  have kbB : Bb < Bn := hBn ▸ Nat.lt_of_lt_of_le kb hW.size
  have hnB : n0 ≤ Bn := by have := hlow.size; omega
  have HL := Lib.hid hL
  have HLOW := Lib.hid hlow
  have HNB0 := Lib.hid hnB
  clear hL hlow hJ hY h0 ha hb hna hnb hla hlb hJ1 lt
  refine callsIn_of_wp Try.func56 rfl trivial ?_ rfl
  simp only [Try.ntmps56, List.size_toArray, List.length_cons, List.length_nil, Nat.reduceAdd, Nat.reduceSub, Array.replicate_succ, Array.replicate_zero, List.push_toArray, List.append_toArray, List.nil_append, List.cons_append]
  gi_wp2
  gi_loopw [5] (fun p wr => ∃ k i j : Nat, SideI L a b na nb k i j ∧ SideM n0 Ba Bb Bn (.slice pa na cpa) (.slice pb nb cpb) (J (upto L.length k)) wl wr i j) (fun p wr => leftOf Bn (na + nb) wr)
  case atStart =>
    refine ⟨0, 0, 0, ⟨Nat.zero_le _, Nat.zero_le _, Nat.zero_le _, a.length + b.length, by simp, ?_⟩, HJ1.out, by rw [← hBn]; exact o1, HLOW.out.trans (b1.mono (by omega)), (b1.cell (p := ⟨Ba, 0, none⟩) (show Ba < W.heap.size by omega)).trans ca1, (b1.cell (p := ⟨Bb, 0, none⟩) (show Bb < W.heap.size by omega)).trans cb1⟩
    simp only [List.drop_zero]
    exact HL.out.symm
  case round =>
    obtain ⟨k, i, j, hS, hM⟩ := hrel
    have hXk : ∀ A C, J (upto L.length k) A → Turn (isT 62) W.heap.size A C → J (upto L.length k) C := fun A C h t => HJ.out _ _ _ h t
    have HX := Lib.hid hXk
    have HM := Lib.hid hM
    have c0 := hM.c0
    have c1 := hM.c1
    have cBa := hM.ba
    have cBb := hM.bb
    have i1 := hS.i1
    have j1 := hS.j1
    have HS := Lib.hid hS
    have hna := HNA.out
    have hnb := HNB.out
    clear hS hM hXk ca1 cb1 ca cb
    by_cases hend : i = na ∧ j = nb
    · obtain ⟨rfl, rfl⟩ := hend
      have d1 : decide ((i : Int) < i) = false := decide_eq_false (by omega)
      have d2 : decide (i < i) = false := decide_eq_false (by omega)
      have d3 : decide ((j : Int) < j) = false := decide_eq_false (by omega)
      have d4 : decide (j < j) = false := decide_eq_false (by omega)
      obtain ⟨f, _, hf⟩ := HS.out.rest
      have hk : L.length ≤ k := by
        rw [← hna, ← hnb, List.drop_length, List.drop_length, run_nil] at hf
        exact List.drop_eq_nil_iff.1 hf
      have hJe : J (List.finRange L.length) wr := by
        have e := HM.out.jj
        rw [show k = L.length from Nat.le_antisymm HS.out.kk hk, upto_all] at e
        exact e
      have HJE := Lib.hid hJe
      clear hJe hf hk HS HM HX hna hnb i1 j1
      gi_wp2
      go_end0
      exact ⟨⟨_, rfl⟩, HJE.out⟩
    · have hend2 : ¬ (a.drop i = [] ∧ b.drop j = []) := by
        rintro ⟨h1, h2⟩
        have h1 := List.drop_eq_nil_iff.1 h1
        have h2 := List.drop_eq_nil_iff.1 h2
        exact hend ⟨by omega, by omega⟩
      obtain ⟨f, hf1, hf⟩ := HS.out.rest
      obtain ⟨f', rfl, hst⟩ := run_step (i := i) (j := j) hend2 hf1
      rw [hst] at hf
      obtain ⟨z, hz⟩ : ∃ z, firstV (a.drop i) (b.drop j) = z := ⟨_, rfl⟩
      obtain ⟨sa, hsa⟩ : ∃ sa, sameV (a.drop i) z = sa := ⟨_, rfl⟩
      obtain ⟨sb, hsb⟩ : ∃ sb, sameV (b.drop j) z = sb := ⟨_, rfl⟩
      have hsome := first_some hend2
      have hsa1 := sameV_le (a.drop i) z
      have hsb1 := sameV_le (b.drop j) z
      have hlt : k < L.length := by
        rcases Nat.lt_or_ge k L.length with h | h
        · exact h
        · rw [List.drop_eq_nil_iff.2 h] at hf; exact absurd hf (by simp)
      rw [List.drop_eq_getElem_cons hlt] at hf
      obtain ⟨hk1, hk2⟩ := List.cons.inj hf
      rw [hz, hsa, hsb] at hk1 hk2 hsome
      rw [hsa] at hsa1
      rw [hsb] at hsb1
      rw [List.length_drop] at hsa1 hsb1
      rw [List.length_drop, List.length_drop] at hf1
      rw [List.drop_drop, List.drop_drop] at hk2
      obtain ⟨i2, hi2⟩ : ∃ i2, i + sa = i2 := ⟨_, rfl⟩
      obtain ⟨j2, hj2⟩ : ∃ j2, j + sb = j2 := ⟨_, rfl⟩
      rw [hi2, hj2] at hk1 hk2
      have f1 : IntKind.i64.wrap ((i : Int) + (sa : Int)) = i2 := (IntWalk.i64_in _ (by have := HLA.out; have := HNA.out; omega)).trans (by omega)
      have f2 : IntKind.i64.wrap ((j : Int) + (sb : Int)) = j2 := (IntWalk.i64_in _ (by have := HLB.out; have := HNB.out; omega)).trans (by omega)
      have hK2 : ∃ f, (a.drop i2).length + (b.drop j2).length ≤ f ∧ L.drop (k + 1) = run f (a.drop i2) (b.drop j2) i2 j2 := ⟨f', by simp only [List.length_drop]; omega, hk2⟩
      have hE : stpE L ⟨k, hlt⟩ = #[.int .i64 z, .agg #[.int .i64 (i2 : Nat), .int .i64 (j2 : Nat)]] := by unfold stpE; simp only [hk1]
      have low := HM.out.low
      have lowl : Below wl.heap.size wl wr := low.mono (by have := HL0.out; omega)
      have hVA : ∀ w, Below n0 wl w → IR w (fromV pa na cpa i) (a.drop i) := fun w h => (HA.out.below (h.mono (by have := HL0.out; omega))).drop (lo := i) (by omega)
      have hVB : ∀ w, Below n0 wl w → IR w (fromV pb nb cpb j) (b.drop j) := fun w h => (HB.out.below (h.mono (by have := HL0.out; omega))).drop (lo := j) (by omega)
      have hIA := hVA wr low
      have hIB := hVB wr low
      have hra := fun W' : World => run_fromV W' pa na cpa i (by omega)
      have hrb := fun W' : World => run_fromV W' pb nb cpb j (by omega)
      have F1 := Lib.hid (fun q => first_any (a.drop i) (b.drop j) _ _ (wr.drewN q) hend2 (by rw [List.length_drop]; have := HLA.out; omega) (by rw [List.length_drop]; have := HLB.out; omega) (hIA.drewN q).sw (hIB.drewN q).sw)
      rw [hz] at F1
      generalize fromV pa na cpa i = VA at *
      generalize fromV pb nb cpb j = VB at *
      have HE := Lib.hid hE
      have HK2 := Lib.hid hK2
      have HVA := Lib.hid hVA
      have HVB := Lib.hid hVB
      have hle : i2 ≤ na ∧ j2 ≤ nb ∧ i + j < i2 + j2 := ⟨by omega, by omega, by omega⟩
      have HLE := Lib.hid hle
      have hlt2 : i < na ∨ j < nb := by omega
      have HSA := Lib.hid hsa
      have HSB := Lib.hid hsb
      have HLL := Lib.hid (And.intro (show (a.drop i).length ≤ 1000000 by rw [List.length_drop]; have := HLA.out; omega) (show (b.drop j).length ≤ 1000000 by rw [List.length_drop]; have := HLB.out; omega))
      clear hle hE hK2 hk1 hk2 hf hf1 hst hsome hsa1 hsb1 hi2 hj2 hend hend2 low lowl hIA hIB hVA hVB hz hsa hsb hna hnb hnB
      gi_upto_region 1 with fail
      gi_cut [17] from 6 (fun v wx => v = .bool true ∧ wr = wx)
      case first =>
        rcases Nat.lt_or_ge i na with hil | hil
        · have d1 : decide ((i : Int) < na) = true := decide_eq_true (by omega)
          have d2 : decide (i < na) = true := decide_eq_true hil
          clear hlt2 hil
          gi_wp2
          gi_meet
          case rel => exact ⟨rfl, rfl⟩
        · have d1 : decide ((i : Int) < na) = false := decide_eq_false (by omega)
          have d2 : decide (i < na) = false := decide_eq_false (by omega)
          have d3 : decide ((j : Int) < nb) = true := decide_eq_true (by omega)
          have d4 : decide (j < nb) = true := decide_eq_true (by omega)
          clear hlt2 hil
          gi_wp2
          gi_meet
          case rel => exact ⟨rfl, rfl⟩
      case rest =>
        obtain ⟨rfl, rfl⟩ := hcut
        have FQ : RowKit.Hid (∀ m q, CallsIn Fence.wide m Try.prog 57 #[VA, VB] (wr.drewN q) fun e w' => e = .returned (.int .i64 z) ∧ ∃ m, w' = wr.drewN m) := Lib.hid (fun m q => callsIn_wide.2 ((F1.out q).mono (by
          rintro e w' ⟨h1, m, rfl⟩
          exact ⟨h1, q + m, by rw [World.drewN_drewN]⟩)))
        clear F1
        have hfn : Fence.wide.fn 57 := trivial
        gi_wp2
        gi_quiet (exact ⟨fun _ => by omega, FQ.out _ _⟩)
        have HM2 := Lib.hid (HM.out.drewN HX.out nq)
        have S1 := Lib.hid (same_any (a.drop i) VA z (wr.drewN nq).drew HLL.out.1 (show SW (wr.drewN nq).drew VA (a.drop i) from (HVA.out _ HM2.out.low).sw))
        rw [HSA.out] at S1
        have HLF : RowKit.Hid (leftOf Bn (na + nb) wr = na + nb - (i + j)) := Lib.hid (by
          unfold leftOf
          rw [HM.out.own]
          simp [intOf])
        clear c0 c1 cBa cBb FQ hfn HM i1 j1
        have hfn : Fence.wide.fn 58 := trivial
        generalize hw2 : wr.drewN nq = w2 at *
        have e0 := HM2.out.c0
        have e1 := HM2.out.c1
        have e2 := HM2.out.ba
        have e3 := HM2.out.bb
        have hfr := HM2.out.fr 0
        clear hw2
        gi_upto_region 3 with fail
        gi_cut [] from 27 (fun wx => SideM n0 Ba Bb Bn (.slice pa na cpa) (.slice pb nb cpb) (J (upto L.length k)) wl wx i2 j)
        case first =>
          gi_region_with (refine ⟨fun _ => by omega, (callsIn_wide.2 S1.out).mono ?_⟩; rintro e w' ⟨rfl, rfl⟩)
          all_goals
            gi_wp2
            gi_meet
            case rel => exact HM2.out.put HX.out (Nat.le_of_eq hBn) HNB0.out kaB kbB 0 i2 i2 j rfl
        case rest =>
        have HM3 := Lib.hid hcut
        clear e0 e1 e2 e3 hfr S1 HM2 hcut
        obtain ⟨w3, hw3⟩ : ∃ w3, wc = w3 := ⟨_, rfl⟩
        subst hw3
        have S2 := Lib.hid (same_any (b.drop j) VB z wc.drew HLL.out.2 (show SW wc.drew VB (b.drop j) from (HVB.out _ HM3.out.low).sw))
        rw [HSB.out] at S2
        have e0 := HM3.out.c0
        have e1 := HM3.out.c1
        have e2 := HM3.out.ba
        have e3 := HM3.out.bb
        have hfr := HM3.out.fr 1
        gi_upto_region 4 with fail
        gi_cut [] from 27 (fun wx => SideM n0 Ba Bb Bn (.slice pa na cpa) (.slice pb nb cpb) (J (upto L.length k)) wl wx i2 j2)
        case first =>
          gi_region_with (refine ⟨fun _ => by omega, (callsIn_wide.2 S2.out).mono ?_⟩; rintro e w' ⟨rfl, rfl⟩)
          all_goals
            gi_wp2
            gi_meet
            case rel => exact HM3.out.put HX.out (Nat.le_of_eq hBn) HNB0.out kaB kbB 1 j2 i2 j2 rfl
        case rest =>
        have HM4 := Lib.hid hcut
        clear e0 e1 e2 e3 hfr S2 HM3 hcut
        obtain ⟨w4, hw4⟩ : ∃ w4, wc = w4 := ⟨_, rfl⟩
        subst hw4
        have e0 := HM4.out.c0
        have e1 := HM4.out.c1
        have hy := HY.out (upto L.length k) ⟨k, hlt⟩ wc HM4.out.jj (by rw [upto_length (Nat.le_of_lt hlt)]; exact hlt)
        rw [HE.out] at hy
        obtain ⟨fn, tmps, assign, body, hy, hR⟩ := hy
        have HR := Lib.hid hR
        clear hR
        gi_wp2
        refine ⟨fun _ => by omega, HR.out.mono ?_⟩
        rintro e w5 ⟨rfl, hJ5, hK5⟩
        have hM5 : SideM n0 Ba Bb Bn (.slice pa na cpa) (.slice pb nb cpb) (J (upto L.length (k + 1))) wl w5 i2 j2 :=
          ⟨by rw [upto_succ hlt]; exact hJ5, hK5.own _ _ _ HM4.out.own, HM4.out.low.trans hK5.low, sameBlock hK5.ba HM4.out.ba, sameBlock hK5.bb HM4.out.bb⟩
        have HM5 := Lib.hid hM5
        clear hM5 hJ5 hK5 HR HM4 e0 e1 hy
        gi_wp2
        go_roundw
        case rel => exact ⟨k + 1, i2, j2, ⟨hlt, HLE.out.1, HLE.out.2.1, HK2.out⟩, HM5.out⟩
        case measure =>
          rw [HLF.out]
          unfold leftOf
          rw [HM5.out.own]
          have := HLE.out
          simp [intOf]
          omega
end Go.Proofs.Ytedlhfemmofbpaa.Reg
