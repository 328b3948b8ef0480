/-
  HuffmanBest (layer 5): what is written is shortest: no lengths up to the most that may be make it shorter.
-/
import Derived.Test.YtildikdoimobhaaRows
import Derived.Test.YtildikdoimobhaaHufLst
import Derived.WalkKit
import Derived.ProofKit
import Derived.OpenShut
import Derived.ShutString
import Derived.ChangeOld
import Derived.Below
import Derived.Lib.SmallJoins
import Derived.Deep.Slices
namespace Go.Proofs.Ytildikdoimobhaa.huffmanBest
open Go.Proofs.Ytildikdoimobhaa.Huf
open Go.ChangeShapes Go.WideShapes Go.ChangeAt Go.RowKit
open Go.ChangeMaps (open_string shut_string)
set_option linter.unusedVariables false

theorem own : ownKnob Try.prog.godebug = none := by kernel_rfl
theorem laidOut : laidOutB Try.prog = true := by kernel_rfl

theorem isInts_own {w : World} {n B c : Nat} {T : TypeId} {ad : Option Addr} {l : List Nat} (h : w.ownsRow B T 1 (.slice ad n c) n (cellsN l)) : IsInts w ad (l.map fun (x : Nat) => (x : Int)) := by
  intro h0
  have hl : l.length = n := by have := h.1; rw [cellsN_length] at this; omega
  have h0' : 0 < l.length := by simpa using h0
  rcases h.2 with ⟨_, h2⟩ | ⟨g, cap, cur, hv, _⟩
  · omega
  · cases hv
    refine ⟨g, 0, rfl, (h.lt g rfl).2, fun i hi => ?_⟩
    have hi' : i < l.length := by simpa using hi
    rw [h.cellAt (0 + i) (by omega), Nat.zero_add]
    simp [cellsN, hi']

theorem own_any {w : World} {B size n : Nat} {e : TypeId} {v : Value} {xs : List Value} (h : w.ownsRow B e size v n xs) : ∃ ad c, v = .slice ad n c := by
  rcases h.2 with ⟨h1, h2⟩ | ⟨g, cap, cur, h1, _⟩
  · exact ⟨none, 0, by rw [h1, h2]⟩
  · exact ⟨_, cap, h1⟩
theorem nats_cast2 (l : List Nat) : nats (l.map fun (x : Nat) => (x : Int)) = l := by
  unfold nats; rw [List.map_map]; conv => rhs; rw [← List.map_id l]
  apply List.map_congr_left; intro x _; simp
theorem often_getD (n L : Nat) (P : List Tr) (h : ∀ i, often i P ≤ L) (hL : L ≤ 15) : ∀ i, ((List.range n).map fun i => often i P).getD i 0 ≤ 15 := by
  intro i
  rw [List.getD_eq_getElem?_getD, List.getElem?_map]
  by_cases hi : i < n
  · rw [List.getElem?_range hi]; exact Nat.le_trans (h i) hL
  · rw [List.getElem?_eq_none (by simpa using hi)]; exact Nat.zero_le _

/-- What comes, among the first k. -/
def come (N : List Nat) (k : Nat) : List Nat := (comeS N k).map fun i => N.getD i 0
theorem come_succ (N : List Nat) (k : Nat) : come N (k + 1) = if 0 < N.getD k 0 then come N k ++ [N.getD k 0] else come N k := by
  unfold come
  rw [comeS_succ]
  split
  · rw [List.map_append]; rfl
  · rfl

set_option maxRecDepth 100000 in
set_option maxHeartbeats 8000000 in
theorem early (a : Option Addr) (n cap : Nat) (most : Int) (W : World) (hmax : n ≤ 2 ^ 63 - 1) (h : 6 < n ∨ most < 1 ∨ 6 < most) :
    Calls Try.prog 8 #[.slice a n cap, .int .i64 most] W fun e w' => e = .returned (.bool true) ∧ Below W.heap.size W w' := by
  by_cases h1 : 6 < n
  · have h1' : (6 : Int) < n := by omega
    clear h
    go_enter Try.func8, Try.ntmps8
    go_wp2_with fail
    refine (works_any _).mono ?_
    rintro r w1 ⟨rfl, b1⟩
    go_wp2_with fail
    all_goals (go_ret; exact ⟨rfl, b1⟩)
  have h1' : ¬ ((6 : Int) < n) := by omega
  by_cases h2 : most < 1
  · clear h
    go_enter Try.func8, Try.ntmps8
    go_wp2_with fail
    refine (works_any _).mono ?_
    rintro r w1 ⟨rfl, b1⟩
    go_wp2_with fail
    all_goals (go_ret; exact ⟨rfl, b1⟩)
  have h3 : 6 < most := by omega
  clear h
  go_enter Try.func8, Try.ntmps8
  go_wp2_with fail
  refine (works_any _).mono ?_
  rintro r w1 ⟨rfl, b1⟩
  go_wp2_with fail
  all_goals (go_ret; exact ⟨rfl, b1⟩)

set_option maxRecDepth 100000 in
set_option maxHeartbeats 8000000 in
theorem walk (a : Option Addr) (n cap : Nat) (L : List Int) (most : Int) (W : World) (h : L.length = n ∧ n ≤ maxLen ∧ IsInts W a L ∧ ∀ x ∈ L, (Lit.int .i64 x).wf = true) :
    Calls Try.prog 8 #[.slice a n cap, .int .i64 most] W fun e w' => e = .returned (.bool true) ∧ Below W.heap.size W w' := by
  obtain ⟨hn, hmax, hI, _⟩ := h
  unfold maxLen at hmax
  by_cases hg : 6 < n ∨ most < 1 ∨ 6 < most
  · exact early a n cap most W hmax hg
  obtain ⟨s, rfl⟩ : ∃ s : Nat, most = s := ⟨most.toNat, by omega⟩
  have hb' : ¬ ((6 : Int) < n) := by omega
  have hs1 : ¬ ((s : Int) < 1) := by omega
  have hs2 : ¬ ((6 : Int) < s) := by omega
  have ds1 : decide ((s : Int) < 1) = false := by simp; omega
  have ds2 : decide ((6 : Int) < s) = false := by simp; omega
  have ds3 : decide ((6 : Int) < n) = false := by simp; omega
  have hs : 1 ≤ s ∧ s ≤ 6 := by omega
  have hn3 : n ≤ 6 := by omega
  have HI := Lib.hid hI
  clear hI hmax hg
  have CA := fun w h => Lib.hid (lengths_all a n cap L s w hn h (by omega))
  obtain ⟨i0, hi, hz0, hz1, hz2⟩ := info_parts info_int
  go_enter Try.func8, Try.ntmps8
  go_wp2_with fail
  refine (works_any _).mono ?_
  rintro r w1 ⟨rfl, b1⟩
  have B1 := Lib.hid b1
  have hW : W.heap.size ≤ w1.heap.size := b1.size
  have HI1 := Lib.hid (HI.out.below b1 (Nat.le_refl _))
  clear b1 HI
  go_wp2_with fail
  go_loopw [6, 7] (fun v i wr => ∃ k q : Nat, k ≤ n ∧ i = .int .i64 k ∧ allIn 1073741824 (L.take k) = true ∧ (come (nats L) k).length = q ∧ wr.ownsRow 0 3 1 v q (cellsN (come (nats L) k)) ∧ Below w1.heap.size w1 wr ∧ ∀ j, v.ownBlock = some j → w1.heap.size ≤ j) (fun _ i _ => n - (intOf i).toNat)
  case atStart => exact ⟨0, 0, Nat.zero_le _, rfl, rfl, rfl, World.ownsRow_nil _ _ _ _, Below.refl _ _, fun _ h => by cases h⟩
  case round =>
    obtain ⟨k, q, hk, rfl, hall, hq, ho, hbe, hoff⟩ := hrel
    have hqk : q ≤ k := by rw [← hq]; unfold come; rw [List.length_map]; exact comeS_length _ _
    have HA := Lib.hid hall
    have HO := Lib.hid ho
    have HB := Lib.hid hbe
    have HF := Lib.hid hoff
    have HQ := Lib.hid hq
    clear hall ho hbe hoff hq
    have HBW := Lib.hid (B1.out.trans (HB.out.mono hW))
    by_cases hlt : k < n
    · have hlt' : (k : Int) < n := by omega
      obtain ⟨b, off, rfl, hbl, hc⟩ := HI1.out (by omega)
      have hck := (HB.out.cell (p := ⟨b, off + k, none⟩) hbl).trans (hc k (by omega))
      have TA := Lib.hid (allIn_take 1073741824 L k (by omega))
      have TS := Lib.hid (come_succ (nats L) k)
      have hgd : (nats L).getD k 0 = L[k].toNat := by
        unfold nats
        rw [List.getD_eq_getElem?_getD, List.getElem?_map, List.getElem?_eq_getElem (by omega)]; rfl
      rw [hgd] at TS
      clear hc hgd
      generalize L[k] = x at *
      by_cases h0 : x < 0
      · clear TA TS
        go_wp2_with fail
        go_ret
        exact ⟨rfl, HBW.out⟩
      · have d0 : decide (x < 0) = false := by simp; omega
        by_cases h1 : 1073741824 < x
        · clear TA TS
          go_wp2_with fail
          go_ret
          exact ⟨rfl, HBW.out⟩
        · have d1 : decide ((1073741824 : Int) < x) = false := by simp; omega
          obtain ⟨z, rfl⟩ : ∃ y : Nat, x = y := ⟨x.toNat, by omega⟩
          have HA2 : Hid (allIn 1073741824 (L.take (k + 1)) = true) := Lib.hid (by rw [TA.out, HA.out]; simp; omega)
          by_cases hz : 0 < z
          · have hz' : (0 : Int) < z := by omega
            have TS2 : Hid (come (nats L) (k + 1) = come (nats L) k ++ [z]) := Lib.hid (by rw [TS.out, if_pos (by omega)]; rfl)
            have HQ2 : Hid ((come (nats L) (k + 1)).length = q + 1) := Lib.hid (by rw [TS2.out, List.length_append, HQ.out]; rfl)
            have bA := (Below.refl wr.heap.size wr).alloc (Nat.le_refl _) (.cells #[.int .i64 (z : Nat)] 3)
            have HR := Lib.hid (HO.out.alloc (.cells #[.int .i64 (z : Nat)] 3))
            have LT := Lib.hid (lit1 wr z 3)
            have BA := Lib.hid bA
            clear TA TS bA hz
            go_wp2_with (at_builtin; refine Bit.wpList_append_near _ rfl (.tmp 49) (.tmp 54) 22 rfl 3 i0 (.int .i64 0) 1 8 Try.underlying22 hi hz0 hz1 hz2 rfl (by decide) u6 q (cellsN (come (nats L) k)) rfl HR.out ⟨wr.heap.size, 0, none⟩ 1 1 (cellsN [z]) rfl rfl LT.out (cellsN_one _) (by unfold maxLen; omega) (by omega) ?_; intro v3 w3 o3 g3 n3)
            have O3 := Lib.hid o3
            have B3 := Lib.hid ((HB.out.trans (BA.out.mono HB.out.size)).grown g3 (Nat.le_trans HB.out.size BA.out.size) HF.out)
            have F3 : Hid (∀ j, v3.ownBlock = some j → w1.heap.size ≤ j) := Lib.hid (fun j hj => by
              rcases n3 j hj with e | e
              · exact HF.out j e
              · have := BA.out.size; have := HB.out.size; omega)
            clear o3 g3 n3 HR LT BA HB HF HO
            go_wp2_with fail
            refine ⟨⟨k + 1, q + 1, by omega, by go_num, HA2.out, HQ2.out, by rw [TS2.out, cellsN_append]; exact O3.out, B3.out, F3.out⟩, ?_⟩
            simp [intOf]; omega
          · obtain rfl : z = 0 := by omega
            have TS2 : Hid (come (nats L) (k + 1) = come (nats L) k) := Lib.hid (by rw [TS.out, if_neg (by simp)])
            clear TA TS
            go_wp2_with fail
            refine ⟨⟨k + 1, q, by omega, by go_num, HA2.out, by rw [TS2.out]; exact HQ.out, by rw [TS2.out]; exact HO.out, HB.out, HF.out⟩, ?_⟩
            simp [intOf]; omega
    · obtain rfl : k = n := by omega
      rw [List.take_of_length_le (by omega)] at HA
      obtain ⟨ad8, c8, rfl⟩ := own_any HO.out
      have HIr := Lib.hid (HI1.out.below HB.out (Nat.le_refl _))
      have HJ := Lib.hid (isInts_own HO.out)
      have C1 := Lib.hid (CA wr HIr.out).out
      have hlb : lenBad k L s = false := by
        unfold lenBad
        rw [HA.out, decide_eq_false (show ¬ (320 < k) by omega), decide_eq_false (show ¬ ((s : Int) < 1) by omega), decide_eq_false (show ¬ ((15 : Int) < s) by omega)]; rfl
      have HLB := Lib.hid hlb
      have hqc : (comeS (nats L) k).length = q := by have := HQ.out; unfold come at this; rwa [List.length_map] at this
      have HQC := Lib.hid hqc
      clear CA HO HB HF HI1 hlb hqc
      go_wp2_with fail
      refine C1.out.mono ?_
      rintro r w2 ⟨ad1, m1, c1, e1, rfl, out1, b2⟩
      have O1 := Lib.hid out1
      have HB2 := Lib.hid (HBW.out.trans (b2.mono HBW.out.size))
      have HI2 := Lib.hid (HIr.out.below b2 (Nat.le_refl _))
      have HJ2 := Lib.hid (HJ.out.below b2 (Nat.le_refl _))
      clear out1 b2 HIr HJ C1 HBW
      obtain ⟨P2, hP2, hP3, _, _, hPw⟩ := pow_int s (by omega)
      rcases O1.out with ⟨x1, _⟩ | ⟨x1, x2, rfl, rfl, rfl, rfl⟩ | ⟨x1, x2, rfl, x4, x5, b1, P1, rfl, x6, x7⟩
      · rw [HLB.out] at x1; cases x1
      · have hDP : P2 < (q : Int) := by
          have h3 : 2 ^ s < (comeS (nats L) k).length := x2
          rw [HQC.out] at h3
          rw [hP3]; omega
        clear O1 x1 x2 hP3
        go_wp2_with fail
        go_ret
        exact ⟨rfl, HB2.out⟩
      · obtain rfl := x4.symm
        obtain rfl := x5.symm
        by_cases hq2 : q < 2
        · have hq2' : (q : Int) < 2 := by omega
          clear O1 x1 x2 x6 x7 hP3
          go_wp2_with fail
          go_ret
          exact ⟨rfl, HB2.out⟩
        · have hq2' : ¬ ((q : Int) < 2) := by omega
          obtain ⟨g1, g2, g3, g4⟩ := lenGood x1
          obtain ⟨_, q1, _⟩ := taken_full (nats L) k s P1 x6 (by omega) (by omega) x2
          have o1 := often_getD k s P1 q1 (by omega)
          have nb : ∀ i, (nats L).getD i 0 ≤ 1073741824 := fun i => by
            rw [List.getD_eq_getElem?_getD]
            by_cases hi : i < (nats L).length
            · rw [List.getElem?_eq_getElem hi]
              obtain ⟨u, hu, he⟩ := List.mem_map.1 (List.getElem_mem hi)
              have := allIn_iff.1 g4 u hu
              show (nats L)[i] ≤ _
              rw [← he]; omega
            · rw [List.getElem?_eq_none (by omega)]; decide
          have r1 := isInts_own x7
          have f1 : IsInts w2 a ((nats L).map fun (x : Nat) => (x : Int)) := by rw [← nats_cast g4]; exact HI2.out
          have f2 := HJ2.out
          have drw : ∀ q, Below w2.heap.size w2 (w2.drewN q) := fun q => ⟨rfl, rfl, rfl, Nat.le_refl _, fun _ _ => rfl⟩
          obtain ⟨T, hT⟩ : ∃ T, costN (nats L) ((List.range k).map fun i => often i P1) k = T := ⟨_, rfl⟩
          have hLV : leastV s (come (nats L) k) ((32768 : Nat) : Int) = (T : Int) := by
            rcases x6 with ⟨y1, _⟩ | ⟨y1, Q, hQ, rfl⟩
            · rw [HQC.out] at y1; omega
            · have h := least_made (fun i => (nats L).getD i 0) (comeS (nats L) k) (comeS_nodup _ _) y1 (fun i hi => ((comeS_mem _ _ _).1 hi).2) s (by omega) (by omega) x2 Q hQ
              rw [← hT, costN_often]
              exact h
          have K1 := Lib.hid (fun q => cost_any a (some ⟨b1, 0, none⟩) k cap k T (nats L) _ (w2.drewN q) (by rw [nats_length]; exact hn) (by simp) (f1.below (drw q) (Nat.le_refl _)) (r1.below (drw q) (Nat.le_refl _)) (by omega) nb o1 hT)
          have K2 := Lib.hid (fun t => least_any s (by omega) (by omega) ad8 q c8 (come (nats L) k) HQ.out (by omega) (fun f hf => by
            unfold come at hf
            obtain ⟨i, _, rfl⟩ := List.mem_map.1 hf
            exact nb i) (come (nats L) k) 0 32768 (w2.drewN t) (f2.below (drw t) (Nat.le_refl _)) rfl (by rw [HQ.out, Nat.zero_add]) (Nat.le_refl _))
          rw [hLV] at K2
          have DB : Hid (∀ q, Below W.heap.size W (w2.drewN q)) := Lib.hid fun q => ⟨HB2.out.os, HB2.out.tape, HB2.out.output, HB2.out.size, HB2.out.block⟩
          clear O1 x1 x2 x6 x7 hP3 q1 o1 nb r1 f1 f2 drw hT hLV g4 HI2 HJ2 HLB HQC HQ HA
          go_wp2_with fail
          refine (K1.out 0).mono ?_
          rintro r w4 ⟨rfl, t4, rfl⟩
          go_wp2_with fail
          refine (K2.out t4).mono ?_
          rintro r w5 ⟨rfl, rfl⟩
          go_wp2_with fail
          go_ret
          exact ⟨rfl, DB.out t4⟩

set_option maxRecDepth 100000 in
theorem lifted (os : Os) (started : os.Started) (H : Type) (enc : TypeId × Value → H) :
    ReturnsInHanded {} Try.checked os 8 .any (Rows.huffmanBestSpec.pre6 enc Try.prog Try.f8 Rows.huffmanBestRow.domain false) (Rows.huffmanBestSpec.post enc Try.prog Try.f8 false true false false) := by
  refine returnsInHanded_of_change (C := Try.checked) own started (by kernel_rfl) Try.func8
    (ChangeSpec.witness6 (enc := enc) (C := Try.checked) false ⟨#[], #[.slice none 0 0, .int .i64 0], []⟩ 8 (by kernel_rfl) (by kernel_rfl) (by kernel_rfl) (by kernel_rfl)) ?_
  intro W base args ds gs before hval0 hW hcnd _
  have hval : ∀ (j : Nat) t v, Try.f8.params[j]? = some t → args[j]? = some v → Value.okWide Try.prog W .any base t v := hval0
  have hW' := hW
  obtain ⟨p, q, hA0, hV, rfl, hfz, hnd⟩ := hW
  have hA : DataW.TrodAll enc Try.prog W 0 (fun _ => true) true Try.f8.params.toList args.toList ds p := hA0
  rw [Try.params8] at hA hval
  obtain ⟨v0, vs0, d0, ds0, p0, q0, hargs, rfl, rfl, h0, r0⟩ := trodAll_cons hA
  obtain ⟨v1, vs1, d1, ds1, p1, q1, rfl, rfl, rfl, h1, r1⟩ := trodAll_cons r0
  obtain ⟨rfl, rfl, rfl⟩ := trodAll_nil r1
  obtain rfl : args = #[v0, v1] := by cases args; simp_all
  obtain ⟨rfl, rfl⟩ := trodVars_none hV
  have k0 := h0
  have lt0 : ∀ x ∈ p0, x.block < W.heap.size := by obtain ⟨m, hm⟩ := k0; exact DataW.trod_lt m _ _ _ hm
  obtain ⟨a0, len0, cap0, rfl⟩ := okWide_slice Try.underlying22 (hval 0 22 v0 rfl rfl)
  obtain ⟨A0, w0⟩ := ints_see h0
  have k1 := h1
  have lt1 : ∀ x ∈ p1, x.block < W.heap.size := by obtain ⟨m, hm⟩ := k1; exact DataW.trod_lt m _ _ _ hm
  obtain ⟨a1, rfl, rfl, rfl, w1⟩ := open_int Try.underlying3 (hval 1 3 v1 rfl rfl) h1
  clear hA0 hval0
  refine (walk a0 len0 cap0 A0 a1 W w0).mono fun e W' ⟨he, bel⟩ => ?_
  subst he
  exact ⟨_, rfl, _, _, _, [], _, [], hW', trodAll_mk1 (shut_bool Try.underlying4 _), (trodAll_cons_mk (Below.trod laidOut (by kernel_rfl) (of_decide_eq_true (by kernel_rfl)) k0 bel lt0) (trodAll_cons_mk (Below.trod laidOut (by kernel_rfl) (of_decide_eq_true (by kernel_rfl)) k1 bel lt1) trodAll_mk0)), rfl, bel.frame _, fun h => by cases h⟩

theorem over : Rows.huffmanBestRow.holds Try.pinned (OpenSpec.ofChange Rows.huffmanBestSpec) :=
  OpenClaim.holds_of_wide 8 Try.f8 rfl rfl rfl rfl rfl rfl rfl ⟨rfl, rfl, rfl, rfl, rfl⟩ rfl rfl rfl rfl rfl (by kernel_rfl) Try.func8 (by kernel_rfl)
    (of_decide_eq_true (by kernel_rfl)) (by unfold Func.isWrapper; first | (rw [if_pos (by decide +kernel)]; kernel_rfl) | (rw [if_neg (by decide +kernel)]; exact ⟨rfl, rfl⟩))
    (fun os started H enc _ => lifted os started H enc)

theorem proved : Rows.HuffmanBestSaid := over
end Go.Proofs.Ytildikdoimobhaa.huffmanBest
