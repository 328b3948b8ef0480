/-
  HuffmanScale (layer 5): what comes so many times as often, each, is written as shortly as it could be by the same lengths.
-/
import Derived.Test.YtildikdoimobhaaRows
import Derived.Test.YtildikdoimobhaaHufCost
import Derived.WalkKit
import Derived.ProofKit
import Derived.OpenShut
import Derived.ShutString
import Derived.ChangeOld
import Derived.Below
import Derived.Lib.SmallJoins
import Derived.Deep.Slices
namespace Go.Proofs.Ytildikdoimobhaa.huffmanScale
open Go.Proofs.Ytildikdoimobhaa.Huf
open Go.ChangeShapes Go.WideShapes Go.ChangeAt Go.RowKit
open Go.ChangeMaps (open_string shut_string)
set_option linter.unusedVariables false

theorem own : ownKnob Try.prog.godebug = none := by kernel_rfl
theorem laidOut : laidOutB Try.prog = true := by kernel_rfl

theorem isInts_own {w : World} {n B c : Nat} {T : TypeId} {ad : Option Addr} {l : List Nat} (h : w.ownsRow B T 1 (.slice ad n c) n (cellsN l)) : IsInts w ad (l.map fun (x : Nat) => (x : Int)) := by
  intro h0
  have hl : l.length = n := by have := h.1; rw [cellsN_length] at this; omega
  have h0' : 0 < l.length := by simpa using h0
  rcases h.2 with ⟨_, h2⟩ | ⟨g, cap, cur, hv, _⟩
  · omega
  · cases hv
    refine ⟨g, 0, rfl, (h.lt g rfl).2, fun i hi => ?_⟩
    have hi' : i < l.length := by simpa using hi
    rw [h.cellAt (0 + i) (by omega), Nat.zero_add]
    simp [cellsN, hi']

theorem own_any {w : World} {B size n : Nat} {e : TypeId} {v : Value} {xs : List Value} (h : w.ownsRow B e size v n xs) : ∃ ad c, v = .slice ad n c := by
  rcases h.2 with ⟨h1, h2⟩ | ⟨g, cap, cur, h1, _⟩
  · exact ⟨none, 0, by rw [h1, h2]⟩
  · exact ⟨_, cap, h1⟩
theorem nats_cast2 (l : List Nat) : nats (l.map fun (x : Nat) => (x : Int)) = l := by
  unfold nats; rw [List.map_map]; conv => rhs; rw [← List.map_id l]
  apply List.map_congr_left; intro x _; simp
theorem lenBad_scale (n : Nat) (L L2 : List Int) (most : Int) (h : allIn 1073741824 L = true) (h2 : allIn 1073741824 L2 = true) : lenBad n L2 most = lenBad n L most := by
  unfold lenBad; rw [h, h2]
theorem allIn_mono {m m' : Int} {L : List Int} (h : allIn m L = true) (hm : m ≤ m') : allIn m' L = true := by
  rw [allIn_iff] at *
  intro x hx
  have := h x hx
  omega

def scN (L : List Int) (s : Nat) : List Nat := (nats L).map fun x => x * s
theorem scN_getD (L : List Int) (s i : Nat) : (scN L s).getD i 0 = (nats L).getD i 0 * s := by
  unfold scN
  rw [List.getD_eq_getElem?_getD, List.getD_eq_getElem?_getD, List.getElem?_map]
  cases (nats L)[i]? <;> simp
theorem often_getD (n L : Nat) (P : List Tr) (h : ∀ i, often i P ≤ L) (hL : L ≤ 15) : ∀ i, ((List.range n).map fun i => often i P).getD i 0 ≤ 15 := by
  intro i
  rw [List.getD_eq_getElem?_getD, List.getElem?_map]
  by_cases hi : i < n
  · rw [List.getElem?_range hi]; exact Nat.le_trans (h i) hL
  · rw [List.getElem?_eq_none (by simpa using hi)]; exact Nat.zero_le _

set_option maxRecDepth 100000 in
set_option maxHeartbeats 8000000 in
theorem early (a : Option Addr) (n cap : Nat) (most sc : Int) (W : World) (hmax : n ≤ 2 ^ 63 - 1) (h : 340 < n ∨ sc < 1 ∨ 100 < sc) :
    Calls Try.prog 9 #[.slice a n cap, .int .i64 most, .int .i64 sc] W fun e w' => e = .returned (.bool true) ∧ Below W.heap.size W w' := by
  by_cases h1 : 340 < n
  · have h1' : (340 : Int) < n := by omega
    clear h
    go_enter Try.func9, Try.ntmps9
    go_wp2_with fail
    refine (works_any _).mono ?_
    rintro r w1 ⟨rfl, b1⟩
    go_wp2_with fail
    all_goals (go_ret; exact ⟨rfl, b1⟩)
  have h1' : ¬ ((340 : Int) < n) := by omega
  by_cases h2 : sc < 1
  · clear h
    go_enter Try.func9, Try.ntmps9
    go_wp2_with fail
    refine (works_any _).mono ?_
    rintro r w1 ⟨rfl, b1⟩
    go_wp2_with fail
    all_goals (go_ret; exact ⟨rfl, b1⟩)
  have h3 : 100 < sc := by omega
  clear h
  go_enter Try.func9, Try.ntmps9
  go_wp2_with fail
  refine (works_any _).mono ?_
  rintro r w1 ⟨rfl, b1⟩
  go_wp2_with fail
  all_goals (go_ret; exact ⟨rfl, b1⟩)

set_option maxRecDepth 100000 in
set_option maxHeartbeats 8000000 in
theorem walk (a : Option Addr) (n cap : Nat) (L : List Int) (most sc : Int) (W : World) (h : L.length = n ∧ n ≤ maxLen ∧ IsInts W a L ∧ ∀ x ∈ L, (Lit.int .i64 x).wf = true) :
    Calls Try.prog 9 #[.slice a n cap, .int .i64 most, .int .i64 sc] W fun e w' => e = .returned (.bool true) ∧ Below W.heap.size W w' := by
  obtain ⟨hn, hmax, hI, _⟩ := h
  unfold maxLen at hmax
  by_cases hg : 340 < n ∨ sc < 1 ∨ 100 < sc
  · exact early a n cap most sc W hmax hg
  obtain ⟨s, rfl⟩ : ∃ s : Nat, sc = s := ⟨sc.toNat, by omega⟩
  have hb' : ¬ ((340 : Int) < n) := by omega
  have hs1 : ¬ ((s : Int) < 1) := by omega
  have hs2 : ¬ ((100 : Int) < s) := by omega
  have ds1 : decide ((s : Int) < 1) = false := by simp; omega
  have ds2 : decide ((100 : Int) < s) = false := by simp; omega
  have ds3 : decide ((340 : Int) < n) = false := by simp; omega
  have hs : 1 ≤ s ∧ s ≤ 100 := by omega
  have hn3 : n ≤ 340 := by omega
  have HI := Lib.hid hI
  clear hI hmax hg
  have CA := fun w h => Lib.hid (lengths_all a n cap L most w hn h (by omega))
  obtain ⟨i0, hi, hz0, hz1, hz2⟩ := info_parts info_int
  go_enter Try.func9, Try.ntmps9
  go_wp2_with fail
  refine (works_any _).mono ?_
  rintro r w1 ⟨rfl, b1⟩
  have B1 := Lib.hid b1
  have hW : W.heap.size ≤ w1.heap.size := b1.size
  have HI1 := Lib.hid (HI.out.below b1 (Nat.le_refl _))
  clear b1 HI
  go_wp2_with fail
  go_loopw [8, 9] (fun v i wr => ∃ k : Nat, k ≤ n ∧ i = .int .i64 k ∧ allIn 1000000 (L.take k) = true ∧ wr.ownsRow 0 3 1 v k (cellsN ((scN L s).take k)) ∧ Below w1.heap.size w1 wr ∧ ∀ j, v.ownBlock = some j → w1.heap.size ≤ j) (fun _ i _ => n - (intOf i).toNat)
  case atStart => exact ⟨0, Nat.zero_le _, rfl, rfl, World.ownsRow_nil _ _ _ _, Below.refl _ _, fun _ h => by cases h⟩
  case round =>
    obtain ⟨k, hk, rfl, hall, ho, hbe, hoff⟩ := hrel
    have HA := Lib.hid hall
    have HO := Lib.hid ho
    have HB := Lib.hid hbe
    have HF := Lib.hid hoff
    clear hall ho hbe hoff
    have HBW := Lib.hid (B1.out.trans (HB.out.mono hW))
    by_cases hlt : k < n
    · have hlt' : (k : Int) < n := by omega
      obtain ⟨b, off, rfl, hbl, hc⟩ := HI1.out (by omega)
      have hck := (HB.out.cell (p := ⟨b, off + k, none⟩) hbl).trans (hc k (by omega))
      have TA := Lib.hid (allIn_take 1000000 L k (by omega))
      have TS : Hid ((scN L s).take (k + 1) = (scN L s).take k ++ [L[k].toNat * s]) := Lib.hid (by
        rw [List.take_succ_eq_append_getElem (by unfold scN; rw [List.length_map, nats_length]; omega)]
        unfold scN nats; simp)
      clear hc
      generalize L[k] = x at *
      by_cases h0 : x < 0
      · clear TA TS
        go_wp2_with fail
        go_ret
        exact ⟨rfl, HBW.out⟩
      · have d0 : decide (x < 0) = false := by simp; omega
        by_cases h1 : 1000000 < x
        · clear TA TS
          go_wp2_with fail
          go_ret
          exact ⟨rfl, HBW.out⟩
        · have d1 : decide ((1000000 : Int) < x) = false := by simp; omega
          obtain ⟨y, rfl⟩ : ∃ y : Nat, x = y := ⟨x.toNat, by omega⟩
          obtain ⟨z, hz⟩ : ∃ z, y * s = z := ⟨_, rfl⟩
          have hzb : z ≤ 100000000 := by rw [← hz]; exact Nat.mul_le_mul (show y ≤ 1000000 by omega) hs.2
          have hzI : (y : Int) * s = z := by rw [← hz]; simp
          have HA2 : Hid (allIn 1000000 (L.take (k + 1)) = true) := Lib.hid (by rw [TA.out, HA.out]; simp; omega)
          have TS2 : Hid ((scN L s).take (k + 1) = (scN L s).take k ++ [z]) := Lib.hid (by rw [TS.out, ← hz]; rfl)
          have bA := (Below.refl wr.heap.size wr).alloc (Nat.le_refl _) (.cells #[.int .i64 (z : Nat)] 3)
          have HR := Lib.hid (HO.out.alloc (.cells #[.int .i64 (z : Nat)] 3))
          have LT := Lib.hid (lit1 wr z 3)
          have BA := Lib.hid bA
          clear TA TS hz bA
          go_wp2_with (at_builtin; refine Bit.wpList_append_near _ rfl (.tmp 48) (.tmp 55) 22 rfl 3 i0 (.int .i64 0) 1 8 Try.underlying22 hi hz0 hz1 hz2 rfl (by decide) u8 k (cellsN ((scN L s).take k)) rfl HR.out ⟨wr.heap.size, 0, none⟩ 1 1 (cellsN [z]) rfl rfl LT.out (cellsN_one _) (by unfold maxLen; omega) (by omega) ?_; intro v3 w3 o3 g3 n3)
          have O3 := Lib.hid o3
          have B3 := Lib.hid ((HB.out.trans (BA.out.mono HB.out.size)).grown g3 (Nat.le_trans HB.out.size BA.out.size) HF.out)
          have F3 : Hid (∀ j, v3.ownBlock = some j → w1.heap.size ≤ j) := Lib.hid (fun j hj => by
            rcases n3 j hj with e | e
            · exact HF.out j e
            · have := BA.out.size; have := HB.out.size; omega)
          clear o3 g3 n3 HR LT BA HB HF HO
          go_wp2_with fail
          refine ⟨⟨k + 1, by omega, by go_num, HA2.out, by rw [TS2.out, cellsN_append]; exact O3.out, B3.out, F3.out⟩, ?_⟩
          simp [intOf]; omega
    · obtain rfl : k = n := by omega
      rw [List.take_of_length_le (by omega)] at HA
      rw [List.take_of_length_le (by unfold scN; rw [List.length_map, nats_length]; omega)] at HO
      obtain ⟨ad8, c8, rfl⟩ := own_any HO.out
      have hg1 : allIn 1073741824 L = true := allIn_mono HA.out (by decide)
      have hg2 : allIn 1073741824 ((scN L s).map fun (x : Nat) => (x : Int)) = true := by
        rw [allIn_iff]
        intro x hx
        obtain ⟨y, hy, rfl⟩ := List.mem_map.1 hx
        obtain ⟨z, hz, rfl⟩ := List.mem_map.1 hy
        obtain ⟨u, hu, rfl⟩ := List.mem_map.1 hz
        have h1 := allIn_iff.1 HA.out u hu
        have h2 : u.toNat * s ≤ 1000000 * 100 := Nat.mul_le_mul (show u.toNat ≤ 1000000 by omega) hs.2
        have h3 : (0 : Int) ≤ ((u.toNat * s : Nat) : Int) := by omega
        constructor <;> omega
      have hsl : (scN L s).length = k := by unfold scN; rw [List.length_map, nats_length]; exact hn
      have HIr := Lib.hid (HI1.out.below HB.out (Nat.le_refl _))
      have HJ := Lib.hid (isInts_own HO.out)
      have C1 := Lib.hid (CA wr HIr.out).out
      have CB := fun w h => Lib.hid (lengths_all ad8 k c8 ((scN L s).map fun (x : Nat) => (x : Int)) most w (by rw [List.length_map]; exact hsl) h (by omega))
      have hlb := lenBad_scale k L ((scN L s).map fun (x : Nat) => (x : Int)) most hg1 hg2
      have hC : comeS (nats ((scN L s).map fun (x : Nat) => (x : Int))) k = comeS (nats L) k := by
        rw [nats_cast2]; exact comeS_scale _ _ _ s hs.1 (scN_getD L s)
      have HLB := Lib.hid hlb
      have HC := Lib.hid hC
      have HG := Lib.hid hg1
      have HS2 := Lib.hid hg2
      clear CA HA HO HB HF HI1 hlb hC hg1 hg2
      go_wp2_with fail
      refine C1.out.mono ?_
      rintro r w2 ⟨ad1, m1, c1, e1, rfl, out1, b2⟩
      have O1 := Lib.hid out1
      have HB2 := Lib.hid (HBW.out.trans (b2.mono HBW.out.size))
      have HI2 := Lib.hid (HIr.out.below b2 (Nat.le_refl _))
      have HJ2 := Lib.hid (HJ.out.below b2 (Nat.le_refl _))
      clear out1 b2 HIr HJ C1 HBW
      go_wp2_with fail
      refine (CB _ HJ2.out).out.mono ?_
      rintro r w3 ⟨ad2, m2, c2, e2, rfl, out2, b3⟩
      have O2 := Lib.hid out2
      have HB3 := Lib.hid (HB2.out.trans (b3.mono HB2.out.size))
      have HI3 := Lib.hid (HI2.out.below b3 (Nat.le_refl _))
      have HJ3 := Lib.hid (HJ2.out.below b3 (Nat.le_refl _))
      have BB := Lib.hid b3
      clear out2 b3 HI2 HJ2 CB HB2
      rcases O1.out with ⟨x1, rfl, rfl, rfl, rfl⟩ | ⟨x1, x2, rfl, rfl, rfl, rfl⟩ | ⟨x1, x2, rfl, x4, x5, b1, P1, rfl, x6, x7⟩
      · rcases O2.out with ⟨y1, rfl, rfl, rfl, rfl⟩ | ⟨y1, _⟩ | ⟨y1, _⟩
        · clear O1 O2
          go_wp2_with fail
          go_ret
          exact ⟨rfl, HB3.out⟩
        · rw [HLB.out, x1] at y1; cases y1
        · rw [HLB.out, x1] at y1; cases y1
      · rcases O2.out with ⟨y1, _⟩ | ⟨y1, y2, rfl, rfl, rfl, rfl⟩ | ⟨y1, y2, _⟩
        · rw [HLB.out, x1] at y1; cases y1
        · clear O1 O2
          go_wp2_with fail
          go_ret
          exact ⟨rfl, HB3.out⟩
        · rw [HC.out] at y2; omega
      · rcases O2.out with ⟨y1, _⟩ | ⟨y1, y2, _⟩ | ⟨y1, y2, rfl, y4, y5, b2, P2, rfl, y6, y7⟩
        · rw [HLB.out, x1] at y1; cases y1
        · rw [HC.out] at y2; omega
        · obtain rfl := x4.symm
          obtain rfl := x5.symm
          obtain rfl := y4.symm
          obtain rfl := y5.symm
          rw [nats_cast2] at y6
          obtain ⟨g1, g2, g3, g4⟩ := lenGood x1
          obtain ⟨Lm, rfl⟩ : ∃ k : Nat, most = k := ⟨most.toNat, by omega⟩
          obtain ⟨z1, z2⟩ := scale_eq (nats L) (scN L s) k s Lm P1 P2 hs.1 (scN_getD L s) (by omega) (by omega) x2 x6 y6
          obtain ⟨_, q1, _⟩ := taken_full (nats L) k Lm P1 x6 (by omega) (by omega) x2
          obtain ⟨_, q2, _⟩ := taken_full (scN L s) k Lm P2 y6 (by omega) (by omega) (by rw [comeS_scale _ _ _ s hs.1 (scN_getD L s)]; exact x2)
          have o1 := often_getD k Lm P1 q1 (by omega)
          have o2 := often_getD k Lm P2 q2 (by omega)
          have nb : ∀ {M : List Int}, allIn 1073741824 M = true → ∀ i, (nats M).getD i 0 ≤ 1073741824 := fun {M} hM i => by
            rw [List.getD_eq_getElem?_getD]
            by_cases hi : i < (nats M).length
            · rw [List.getElem?_eq_getElem hi]
              obtain ⟨u, hu, he⟩ := List.mem_map.1 (List.getElem_mem hi)
              have := allIn_iff.1 hM u hu
              show (nats M)[i] ≤ _
              rw [← he]; omega
            · rw [List.getElem?_eq_none (by omega)]; decide
          have n1 := nb HG.out
          have n2 := nb HS2.out
          rw [nats_cast2] at n2
          have r1 : IsInts w3 (some ⟨b1, 0, none⟩) (((List.range k).map fun i => often i P1).map fun (x : Nat) => (x : Int)) := (isInts_own x7).below BB.out (Nat.le_refl _)
          have r2 := isInts_own y7
          have f1 : IsInts w3 a ((nats L).map fun (x : Nat) => (x : Int)) := by rw [← nats_cast g4]; exact HI3.out
          have f2 := HJ3.out
          have drw : ∀ q, Below w3.heap.size w3 (w3.drewN q) := fun q => ⟨rfl, rfl, rfl, Nat.le_refl _, fun _ _ => rfl⟩
          obtain ⟨T, hT⟩ : ∃ T, costN (nats L) ((List.range k).map fun i => often i P1) k = T := ⟨_, rfl⟩
          rw [hT] at z1
          rw [← z1] at z2
          obtain ⟨T2, hT2⟩ : ∃ T2, T * s = T2 := ⟨_, rfl⟩
          rw [hT2] at z2
          have hTb : T ≤ 340 * 16106127360 := by
            have h := costN_le (nats L) ((List.range k).map fun i => often i P1) n1 o1 k
            rw [hT] at h
            exact Nat.le_trans h (Nat.mul_le_mul_right _ hn3)
          have hT2b : T2 ≤ 340 * 16106127360 * 100 := by rw [← hT2]; exact Nat.mul_le_mul hTb hs.2
          have hTI : (T : Int) * s = T2 := by rw [← hT2]; simp
          have K1 := Lib.hid (fun q => cost_any a (some ⟨b1, 0, none⟩) k cap k T (nats L) _ (w3.drewN q) (by rw [nats_length]; exact hn) (by simp) (f1.below (drw q) (Nat.le_refl _)) (r1.below (drw q) (Nat.le_refl _)) (by omega) n1 o1 hT)
          have K2 := Lib.hid (fun q => cost_any ad8 (some ⟨b2, 0, none⟩) k c8 k T2 (scN L s) _ (w3.drewN q) hsl (by simp) (f2.below (drw q) (Nat.le_refl _)) (r2.below (drw q) (Nat.le_refl _)) (by omega) n2 o2 z2)
          have K3 := Lib.hid (fun q => cost_any a (some ⟨b2, 0, none⟩) k cap k T (nats L) _ (w3.drewN q) (by rw [nats_length]; exact hn) (by simp) (f1.below (drw q) (Nat.le_refl _)) (r2.below (drw q) (Nat.le_refl _)) (by omega) n1 o2 z1.symm)
          have hTB : (T : Int) ≤ 5476083302400 := by omega
          have hT2B : (T2 : Int) ≤ 547608330240000 := by omega
          clear O1 O2 x1 x2 x6 x7 y1 y2 y6 y7 z1 z2 q1 q2 o1 o2 nb n1 n2 r1 r2 f1 f2 drw hT hT2 hTb hT2b HLB HC HG HS2 HI3 HJ3 BB g4
          have DB : Hid (∀ q, Below W.heap.size W (w3.drewN q)) := Lib.hid fun q => ⟨HB3.out.os, HB3.out.tape, HB3.out.output, HB3.out.size, HB3.out.block⟩
          go_wp2_with fail
          refine (K1.out 0).mono ?_
          rintro r w4 ⟨rfl, t4, rfl⟩
          go_wp2_with fail
          refine (K2.out t4).mono ?_
          rintro r w5 ⟨rfl, t5, rfl⟩
          go_wp2_with fail
          refine (K1.out (t4 + t5)).mono ?_
          rintro r w6 ⟨rfl, t6, rfl⟩
          go_wp2_with fail
          refine (K3.out (t4 + t5 + t6)).mono ?_
          rintro r w7 ⟨rfl, t7, rfl⟩
          go_wp2_with fail
          go_ret
          exact ⟨rfl, DB.out (t4 + t5 + t6 + t7)⟩

set_option maxRecDepth 100000 in
theorem lifted (os : Os) (started : os.Started) (H : Type) (enc : TypeId × Value → H) :
    ReturnsInHanded {} Try.checked os 9 .any (Rows.huffmanScaleSpec.pre6 enc Try.prog Try.f9 Rows.huffmanScaleRow.domain false) (Rows.huffmanScaleSpec.post enc Try.prog Try.f9 false true false false) := by
  refine returnsInHanded_of_change (C := Try.checked) own started (by kernel_rfl) Try.func9
    (ChangeSpec.witness6 (enc := enc) (C := Try.checked) false ⟨#[], #[.slice none 0 0, .int .i64 0, .int .i64 0], []⟩ 8 (by kernel_rfl) (by kernel_rfl) (by kernel_rfl) (by kernel_rfl)) ?_
  intro W base args ds gs before hval0 hW hcnd _
  have hval : ∀ (j : Nat) t v, Try.f9.params[j]? = some t → args[j]? = some v → Value.okWide Try.prog W .any base t v := hval0
  have hW' := hW
  obtain ⟨p, q, hA0, hV, rfl, hfz, hnd⟩ := hW
  have hA : DataW.TrodAll enc Try.prog W 0 (fun _ => true) true Try.f9.params.toList args.toList ds p := hA0
  rw [Try.params9] at hA hval
  obtain ⟨v0, vs0, d0, ds0, p0, q0, hargs, rfl, rfl, h0, r0⟩ := trodAll_cons hA
  obtain ⟨v1, vs1, d1, ds1, p1, q1, rfl, rfl, rfl, h1, r1⟩ := trodAll_cons r0
  obtain ⟨v2, vs2, d2, ds2, p2, q2, rfl, rfl, rfl, h2, r2⟩ := trodAll_cons r1
  obtain ⟨rfl, rfl, rfl⟩ := trodAll_nil r2
  obtain rfl : args = #[v0, v1, v2] := by cases args; simp_all
  obtain ⟨rfl, rfl⟩ := trodVars_none hV
  have k0 := h0
  have lt0 : ∀ x ∈ p0, x.block < W.heap.size := by obtain ⟨m, hm⟩ := k0; exact DataW.trod_lt m _ _ _ hm
  obtain ⟨a0, len0, cap0, rfl⟩ := okWide_slice Try.underlying22 (hval 0 22 v0 rfl rfl)
  obtain ⟨A0, w0⟩ := ints_see h0
  have k1 := h1
  have lt1 : ∀ x ∈ p1, x.block < W.heap.size := by obtain ⟨m, hm⟩ := k1; exact DataW.trod_lt m _ _ _ hm
  obtain ⟨a1, rfl, rfl, rfl, w1⟩ := open_int Try.underlying3 (hval 1 3 v1 rfl rfl) h1
  have k2 := h2
  have lt2 : ∀ x ∈ p2, x.block < W.heap.size := by obtain ⟨m, hm⟩ := k2; exact DataW.trod_lt m _ _ _ hm
  obtain ⟨a2, rfl, rfl, rfl, w2⟩ := open_int Try.underlying3 (hval 2 3 v2 rfl rfl) h2
  clear hA0 hval0
  refine (walk a0 len0 cap0 A0 a1 a2 W w0).mono fun e W' ⟨he, bel⟩ => ?_
  subst he
  exact ⟨_, rfl, _, _, _, [], _, [], hW', trodAll_mk1 (shut_bool Try.underlying4 _), (trodAll_cons_mk (Below.trod laidOut (by kernel_rfl) (of_decide_eq_true (by kernel_rfl)) k0 bel lt0) (trodAll_cons_mk (Below.trod laidOut (by kernel_rfl) (of_decide_eq_true (by kernel_rfl)) k1 bel lt1) (trodAll_cons_mk (Below.trod laidOut (by kernel_rfl) (of_decide_eq_true (by kernel_rfl)) k2 bel lt2) trodAll_mk0))), rfl, bel.frame _, fun h => by cases h⟩

theorem over : Rows.huffmanScaleRow.holds Try.pinned (OpenSpec.ofChange Rows.huffmanScaleSpec) :=
  OpenClaim.holds_of_wide 9 Try.f9 rfl rfl rfl rfl rfl rfl rfl ⟨rfl, rfl, rfl, rfl, rfl⟩ rfl rfl rfl rfl rfl (by kernel_rfl) Try.func9 (by kernel_rfl)
    (of_decide_eq_true (by kernel_rfl)) (by unfold Func.isWrapper; first | (rw [if_pos (by decide +kernel)]; kernel_rfl) | (rw [if_neg (by decide +kernel)]; exact ⟨rfl, rfl⟩))
    (fun os started H enc _ => lifted os started H enc)

theorem proved : Rows.HuffmanScaleSaid := over
end Go.Proofs.Ytildikdoimobhaa.huffmanScale
