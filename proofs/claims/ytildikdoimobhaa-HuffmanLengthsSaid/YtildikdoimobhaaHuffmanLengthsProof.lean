/-
  HuffmanLengths (layer 5): lengths are not above the most; what never comes has none; no room is left, but where just one comes; or it is told why there are none.
-/
import Derived.Test.YtildikdoimobhaaRows
import Derived.Test.YtildikdoimobhaaHufLenB
import Derived.WalkKit
import Derived.ProofKit
import Derived.OpenShut
import Derived.ShutString
import Derived.ChangeOld
import Derived.Below
import Derived.Lib.SmallJoins
import Derived.Deep.Slices
namespace Go.Proofs.Ytildikdoimobhaa.huffmanLengths
open Go.Proofs.Ytildikdoimobhaa.Huf
open Go.ChangeShapes Go.WideShapes Go.ChangeAt Go.RowKit
open Go.ChangeMaps (open_string shut_string)
set_option linter.unusedVariables false

theorem own : ownKnob Try.prog.godebug = none := by kernel_rfl
theorem laidOut : laidOutB Try.prog = true := by kernel_rfl

/-- Was something odd so far? -/
def oddV (n : Nat) (L : List Int) (most : Int) (k : Nat) : Bool := decide (320 < n) || decide (most < 1) || decide (15 < most) || !allIn 1073741824 (L.take k)
theorem oddV_all (n : Nat) (L : List Int) (most : Int) (h : L.length = n) : oddV n L most n = lenBad n L most := by
  unfold oddV lenBad; rw [List.take_of_length_le (by omega)]
theorem oddV_step (n : Nat) (L : List Int) (most : Int) (k : Nat) (h : k < L.length) : oddV n L most (k + 1) = (oddV n L most k || decide (L[k] < 0) || decide (1073741824 < L[k])) := by
  unfold oddV
  rw [allIn_take _ L k h]
  by_cases h1 : L[k] < 0
  · simp [h1, show ¬ (0 ≤ L[k]) by omega]
  · by_cases h2 : 1073741824 < L[k]
    · simp [h2, show ¬ (L[k] ≤ 1073741824) by omega]
    · simp [h1, h2, show 0 ≤ L[k] by omega, show L[k] ≤ 1073741824 by omega]

theorem isInts_row {w : World} {b n cap B : Nat} {T : TypeId} {l : List Nat} (h : w.ownsRow B T 1 (.slice (some ⟨b, 0, none⟩) n cap) n (cellsN l)) : IsInts w (some ⟨b, 0, none⟩) (l.map fun (x : Nat) => (x : Int)) := by
  intro _
  have hl : l.length = n := by have := h.1; rw [cellsN_length] at this; omega
  refine ⟨b, 0, rfl, (h.lt b rfl).2, fun i hi => ?_⟩
  have hi' : i < l.length := by simpa using hi
  rw [h.cellAt (0 + i) (by omega), Nat.zero_add]
  simp [cellsN, hi']

theorem nats_cast2 (l : List Nat) : nats (l.map fun (x : Nat) => (x : Int)) = l := by
  unfold nats; rw [List.map_map]; conv => rhs; rw [← List.map_id l]
  apply List.map_congr_left; intro x _; simp

/-- What Check tells of the lengths that are taken. -/
theorem taken_chk (N : List Nat) (n L : Nat) (P : List Tr) (hn : n ≤ 320) (h : Taken N n L P) (hL : 1 ≤ L) (hL2 : L ≤ 15) (hs : (comeS N n).length ≤ 2 ^ L) :
    chk (((List.range n).map fun i => often i P).map fun (x : Nat) => (x : Int)) = .tuple #[.int .i64 ((if (comeS N n).length = 0 then 32768 else if (comeS N n).length = 1 then 16384 else 0 : Nat) : Int), .int .i64 0] := by
  obtain ⟨f1, f2, f3⟩ := taken_full N n L P h hL hL2 hs
  have h15 : ∀ x ∈ (List.range n).map fun i => often i P, x ≤ 15 := by
    intro x hx
    obtain ⟨i, _, rfl⟩ := List.mem_map.1 hx
    have := f2 i; omega
  have hu : used ((List.range n).map fun i => often i P) 15 = (if (comeS N n).length = 0 then 0 else if (comeS N n).length = 1 then 16384 else 32768) := by
    rw [used_all _ h15]; exact f3
  have hall : allIn 15 (((List.range n).map fun i => often i P).map fun (x : Nat) => (x : Int)) = true := by
    rw [allIn_iff]
    intro x hx
    obtain ⟨y, hy, rfl⟩ := List.mem_map.1 hx
    have := h15 y hy
    omega
  unfold chk fine
  rw [nats_cast2, hall, hu]
  by_cases h0 : (comeS N n).length = 0
  · rw [if_pos h0, if_pos h0, if_pos (by simp; omega)]
  · by_cases h1 : (comeS N n).length = 1
    · rw [if_neg h0, if_neg h0, if_pos h1, if_pos h1, if_pos (by simp; omega)]
    · rw [if_neg h0, if_neg h0, if_neg h1, if_neg h1, if_pos (by simp; omega)]

set_option maxRecDepth 100000 in
set_option maxHeartbeats 8000000 in
theorem walk (a : Option Addr) (n cap : Nat) (L : List Int) (most : Int) (W : World) (h : L.length = n ∧ n ≤ maxLen ∧ IsInts W a L ∧ ∀ x ∈ L, (Lit.int .i64 x).wf = true) :
    Calls Try.prog 7 #[.slice a n cap, .int .i64 most] W fun e w' => e = .returned (.bool true) ∧ Below W.heap.size W w' := by
  obtain ⟨hn, hmax, hI, _⟩ := h
  unfold maxLen at hmax
  by_cases hb : 340 < n
  · have hb' : (340 : Int) < n := by omega
    clear hI
    go_enter Try.func7, Try.ntmps7
    go_wp2_with fail
    refine (works_any _).mono ?_
    rintro r w1 ⟨rfl, b1⟩
    go_wp2_with fail
    go_ret
    exact ⟨rfl, b1⟩
  have hb' : ¬ ((340 : Int) < n) := by omega
  have HI := Lib.hid hI
  clear hI hmax
  have C1 := fun w h => Lib.hid (lengths_all a n cap L most w hn h (by omega))
  have hq : (320 < n ∧ oddV n L most 0 = true) ∨ (¬ 320 < n ∧ most < 1 ∧ oddV n L most 0 = true) ∨ (¬ 320 < n ∧ ¬ most < 1 ∧ 15 < most ∧ oddV n L most 0 = true) ∨ (¬ 320 < n ∧ ¬ most < 1 ∧ ¬ 15 < most ∧ oddV n L most 0 = false) := by
    by_cases q1 : 320 < n
    · exact .inl ⟨q1, by simp [oddV, q1]⟩
    · by_cases q2 : most < 1
      · exact .inr (.inl ⟨q1, q2, by simp [oddV, q2]⟩)
      · by_cases q3 : 15 < most
        · exact .inr (.inr (.inl ⟨q1, q2, q3, by simp [oddV, q3]⟩))
        · exact .inr (.inr (.inr ⟨q1, q2, q3, by simp [oddV, q1, q2, q3, allIn]⟩))
  go_enter Try.func7, Try.ntmps7
  go_wp2_with fail
  refine (works_any _).mono ?_
  rintro r w1 ⟨rfl, b1⟩
  have B1 := Lib.hid b1
  clear b1
  go_wp2_with fail
  refine (C1 _ (HI.out.below B1.out (Nat.le_refl _))).out.mono ?_
  rintro r w2 ⟨ad, m, c, er, rfl, hout, b2⟩
  have HOUT := Lib.hid hout
  have B2 := Lib.hid (B1.out.trans (b2.mono B1.out.size))
  have HI2 := Lib.hid (HI.out.below B2.out (Nat.le_refl _))
  clear hout b2 C1 HI
  have HQ := Lib.hid hq
  clear hq
  have hW : W.heap.size ≤ w1.heap.size := B1.out.size
  clear B1
  have d340 : decide ((340 : Int) < n) = false := by simp; omega
  go_upto_region 7 with fail
  go_cut [8] (fun o wx => w2 = wx ∧ o = .bool (oddV n L most 0))
  case first =>
    rcases HQ.out with ⟨q1, q4⟩ | ⟨q1, q2, q4⟩ | ⟨q1, q2, q3, q4⟩ | ⟨q1, q2, q3, q4⟩
    · have q1' : (320 : Int) < n := by omega
      go_wp2_with fail
      go_meet
      exact ⟨rfl, by rw [q4]⟩
    · have q1' : ¬ ((320 : Int) < n) := by omega
      go_wp2_with fail
      go_meet
      exact ⟨rfl, by rw [q4]⟩
    · have q1' : ¬ ((320 : Int) < n) := by omega
      have d3 : decide (15 < most) = true := by simp; omega
      go_wp2_with fail
      go_meet
      exact ⟨rfl, by rw [q4]⟩
    · have q1' : ¬ ((320 : Int) < n) := by omega
      have d3 : decide (15 < most) = false := by simp; omega
      have d2 : decide (most < 1) = false := by simp; omega
      go_wp2_with fail
      all_goals first
        | (exfalso; omega)
        | (go_meet
           exact ⟨rfl, by rw [q4]⟩)
  case rest =>
  obtain ⟨hwc, rfl⟩ := hcut
  subst hwc
  clear HQ
  go_wp2_with fail
  go_loop [8, 9, 10] (fun o v i => ∃ k : Nat, k ≤ n ∧ i = .int .i64 k ∧ o = .bool (oddV n L most k) ∧ v = .int .i64 ((comeS (nats L) k).length : Nat)) (fun _ _ i => n - (intOf i).toNat)
  case atStart => exact ⟨0, Nat.zero_le _, rfl, rfl, rfl⟩
  case round =>
    obtain ⟨k, hk, rfl, rfl, rfl⟩ := hrel
    by_cases hlt : k < n
    · have hlt' : (k : Int) < n := by omega
      obtain ⟨b, off, rfl, hbl, hc⟩ := HI2.out (by omega)
      have hck := hc k (by omega)
      have ST := Lib.hid (oddV_step n L most k (by omega))
      have CS := Lib.hid (comeS_succ (nats L) k)
      have hgd : (nats L).getD k 0 = L[k].toNat := by
        unfold nats
        rw [List.getD_eq_getElem?_getD, List.getElem?_map, List.getElem?_eq_getElem (by omega)]; rfl
      rw [hgd] at CS
      have hcl := comeS_length (nats L) k
      clear hc hgd
      generalize L[k] = x at *
      generalize hcc : comeS (nats L) k = cs at *
      obtain ⟨o, ho⟩ : ∃ o, oddV n L most k = o := ⟨_, rfl⟩
      obtain ⟨q, hq⟩ : ∃ q, cs.length = q := ⟨_, rfl⟩
      rw [ho] at ST ⊢
      rw [hq]
      rw [hq] at hcl
      clear ho
      by_cases hx : 0 < x
      · have HC2 : Hid (((comeS (nats L) (k + 1)).length : Int) = (q : Int) + 1) := Lib.hid (by
          rw [CS.out, if_pos (by omega), List.length_append, hq]; rfl)
        cases o with
        | true =>
          have HO2 : Hid (oddV n L most (k + 1) = true) := Lib.hid (by rw [ST.out]; rfl)
          clear ST CS hq
          go_wp2_with fail
          refine ⟨⟨k + 1, by omega, by go_num, by rw [HO2.out], by rw [HC2.out]⟩, ?_⟩
          simp [intOf]; omega
        | false =>
          by_cases hx2 : 1073741824 < x
          · have HO2 : Hid (oddV n L most (k + 1) = true) := Lib.hid (by rw [ST.out, decide_eq_true hx2]; simp)
            have d1 : decide (x < 0) = false := by simp; omega
            have d2 : decide (1073741824 < x) = true := by simp; omega
            clear ST CS hq
            go_wp2_with fail
            refine ⟨⟨k + 1, by omega, by go_num, by rw [HO2.out], by rw [HC2.out]⟩, ?_⟩
            simp [intOf]; omega
          · have HO2 : Hid (oddV n L most (k + 1) = false) := Lib.hid (by rw [ST.out, decide_eq_false hx2, decide_eq_false (show ¬ x < 0 by omega)]; rfl)
            have d1 : decide (x < 0) = false := by simp; omega
            have d2 : decide (1073741824 < x) = false := by simp; omega
            clear ST CS hq
            go_wp2_with fail
            refine ⟨⟨k + 1, by omega, by go_num, by rw [HO2.out], by rw [HC2.out]⟩, ?_⟩
            simp [intOf]; omega
      · have HC2 : Hid (((comeS (nats L) (k + 1)).length : Int) = (q : Int)) := Lib.hid (by
          rw [CS.out, if_neg (by omega), hq])
        cases o with
        | true =>
          have HO2 : Hid (oddV n L most (k + 1) = true) := Lib.hid (by rw [ST.out]; rfl)
          clear ST CS hq
          go_wp2_with fail
          refine ⟨⟨k + 1, by omega, by go_num, by rw [HO2.out], by rw [HC2.out]⟩, ?_⟩
          simp [intOf]; omega
        | false =>
          by_cases hx2 : x < 0
          · have HO2 : Hid (oddV n L most (k + 1) = true) := Lib.hid (by rw [ST.out, decide_eq_true hx2]; simp)
            have d1 : decide (x < 0) = true := by simp; omega
            clear ST CS hq
            go_wp2_with fail
            refine ⟨⟨k + 1, by omega, by go_num, by rw [HO2.out], by rw [HC2.out]⟩, ?_⟩
            simp [intOf]; omega
          · have HO2 : Hid (oddV n L most (k + 1) = false) := Lib.hid (by rw [ST.out, decide_eq_false hx2, decide_eq_false (show ¬ 1073741824 < x by omega)]; rfl)
            obtain rfl : x = 0 := by omega
            clear ST CS hq
            go_wp2_with fail
            refine ⟨⟨k + 1, by omega, by go_num, by rw [HO2.out], by rw [HC2.out]⟩, ?_⟩
            simp [intOf]; omega
    · obtain rfl : k = n := by omega
      rw [oddV_all k L most hn]
      have hcn := comeS_length (nats L) k
      obtain ⟨q, hq⟩ : ∃ q, (comeS (nats L) k).length = q := ⟨_, rfl⟩
      rw [hq] at hcn ⊢
      rcases HOUT.out with ⟨h1, rfl, rfl, rfl, rfl⟩ | ⟨h1, h2, rfl, rfl, rfl, rfl⟩ | ⟨h1, h2, rfl, hmk, hck0, b, P, rfl, hT, ho⟩
      · rw [h1]
        clear HOUT hq
        go_wp2_with fail
        go_ret
        exact ⟨rfl, B2.out⟩
      · obtain ⟨g1, g2, g3, g4⟩ := lenGood h1
        obtain ⟨Lm, rfl⟩ : ∃ k : Nat, most = k := ⟨most.toNat, by omega⟩
        obtain ⟨P2, hP2, hP3, _, _, hPw⟩ := pow_int Lm (by omega)
        have hDP : P2 < (q : Int) := by
          have h3 : 2 ^ Lm < (comeS (nats L) k).length := h2
          rw [hP3, ← hq]; omega
        rw [h1]
        clear HOUT hq h2 hP3
        go_wp2_with fail
        go_ret
        exact ⟨rfl, B2.out⟩
      · obtain rfl := hmk.symm
        obtain rfl := hck0.symm
        obtain ⟨g1, g2, g3, g4⟩ := lenGood h1
        obtain ⟨Lm, rfl⟩ : ∃ k : Nat, most = k := ⟨most.toNat, by omega⟩
        obtain ⟨P2, hP2, hP3, _, _, hPw⟩ := pow_int Lm (by omega)
        have hDP : (q : Int) ≤ P2 := by
          have h3 : (comeS (nats L) k).length ≤ 2 ^ Lm := h2
          rw [hP3, ← hq]; omega
        have hck := taken_chk (nats L) k Lm P g1 hT (by omega) (by omega) h2
        obtain ⟨f1, f2, _⟩ := taken_full (nats L) k Lm P hT (by omega) (by omega) h2
        have CK := Lib.hid (check_any (some ⟨b, 0, none⟩) k k _ w2 (by simp) (isInts_row ho) (by omega))
        rw [hck, hq] at CK
        have F1 : Hid (∀ i (h : i < k), often i P = 0 ↔ L[i] = 0) := Lib.hid (fun i h => by
          rw [f1 i h]
          have hgd : (nats L).getD i 0 = L[i].toNat := by
            unfold nats
            rw [List.getD_eq_getElem?_getD, List.getElem?_map, List.getElem?_eq_getElem (by omega)]; rfl
          have := (allIn_iff.1 g4 L[i] (List.getElem_mem _)).1
          rw [hgd]; omega)
        have F2 : Hid (∀ i, often i P ≤ Lm) := Lib.hid f2
        have HOW := Lib.hid ho
        obtain ⟨lf, hlf⟩ : ∃ lf, (if q = 0 then 32768 else if q = 1 then 16384 else 0 : Nat) = lf := ⟨_, rfl⟩
        rw [hlf] at CK
        have HLF := Lib.hid hlf
        have hmost : (1 : Int) ≤ Lm := g2
        rw [h1]
        clear HOUT hq h2 hP3 hck f1 f2 ho hT hlf
        go_wp2_with fail
        refine CK.out.mono ?_
        rintro r w3 ⟨rfl, b3⟩
        have B3 := Lib.hid (B2.out.trans (b3.mono (Nat.le_trans hW (Nat.le_of_lt (Nat.lt_of_le_of_lt (HOW.out.lt b rfl).1 (HOW.out.lt b rfl).2)))))
        have HI3 := Lib.hid (HI2.out.below b3 (Nat.le_refl _))
        have HO3 := Lib.hid (ownsRow_blockK HOW.out (fun j hj => b3.block j (HOW.out.lt j hj).2))
        clear b3 HOW HI2 CK
        go_wp2_with fail
        go_loopw [13] (fun i wr => ∃ (j s : Nat), j ≤ k ∧ i = .int .i64 j ∧ wr = w3.drewN s) (fun i _ => k - (intOf i).toNat)
        case atStart => exact ⟨0, 0, Nat.zero_le _, rfl, rfl⟩
        case round =>
          obtain ⟨j, s, hj, rfl, rfl⟩ := hrel
          by_cases hjk : j < k
          · have hjk' : (j : Int) < k := by omega
            obtain ⟨bb, off, rfl, hbl, hc⟩ := HI3.out (by omega)
            have hcx := hc j (by omega)
            have hco : w3.cell? ⟨b, j, none⟩ = some (.int .i64 (often j P : Nat)) := by
              rw [HO3.out.cellAt j (by omega)]; simp [cellsN, hjk]
            have hiff := F1.out j hjk
            have hle := F2.out j
            clear hc
            generalize often j P = o at *
            generalize L[j] = x at *
            by_cases h0 : o = 0
            · obtain rfl := h0
              obtain rfl : x = 0 := hiff.1 rfl
              have hd : decide ((Lm : Int) < 0) = false := by simp
              go_wp2_with fail
              go_quiet (fail)
              go_wp2_with fail
              refine ⟨⟨j + 1, s + nq, by omega, by go_num, rfl⟩, ?_⟩
              simp [intOf]; omega
            · have hx0 : ¬ x = 0 := fun h => h0 (hiff.2 h)
              have e1 : (x == 0) = false := by simpa using hx0
              have e2 : ((o : Int) == 0) = false := by simp; omega
              have hd : decide ((Lm : Int) < o) = false := by simp; omega
              clear hiff
              go_wp2_with fail
              go_quiet (fail)
              go_wp2_with fail
              refine ⟨⟨j + 1, s + nq, by omega, by go_num, rfl⟩, ?_⟩
              simp [intOf]; omega
          · obtain rfl : j = k := by omega
            have HB4 : Hid (Below W.heap.size W (w3.drewN s)) := Lib.hid ⟨B3.out.os, B3.out.tape, B3.out.output, B3.out.size, B3.out.block⟩
            by_cases q0 : q = 0
            · obtain rfl : lf = 32768 := by rw [← HLF.out, if_pos q0]
              subst q0
              go_wp2_with fail
              go_ret
              exact ⟨rfl, HB4.out⟩
            · by_cases q1 : q = 1
              · obtain rfl : lf = 16384 := by rw [← HLF.out, if_neg q0, if_pos q1]
                subst q1
                go_wp2_with fail
                go_ret
                exact ⟨rfl, HB4.out⟩
              · obtain rfl : lf = 0 := by rw [← HLF.out, if_neg q0, if_neg q1]
                have hq2 : (1 : Int) < q := by omega
                go_wp2_with fail
                go_ret
                exact ⟨rfl, HB4.out⟩

set_option maxRecDepth 100000 in
theorem lifted (os : Os) (started : os.Started) (H : Type) (enc : TypeId × Value → H) :
    ReturnsInHanded {} Try.checked os 7 .any (Rows.huffmanLengthsSpec.pre6 enc Try.prog Try.f7 Rows.huffmanLengthsRow.domain false) (Rows.huffmanLengthsSpec.post enc Try.prog Try.f7 false true false false) := by
  refine returnsInHanded_of_change (C := Try.checked) own started (by kernel_rfl) Try.func7
    (ChangeSpec.witness6 (enc := enc) (C := Try.checked) false ⟨#[], #[.slice none 0 0, .int .i64 0], []⟩ 8 (by kernel_rfl) (by kernel_rfl) (by kernel_rfl) (by kernel_rfl)) ?_
  intro W base args ds gs before hval0 hW hcnd _
  have hval : ∀ (j : Nat) t v, Try.f7.params[j]? = some t → args[j]? = some v → Value.okWide Try.prog W .any base t v := hval0
  have hW' := hW
  obtain ⟨p, q, hA0, hV, rfl, hfz, hnd⟩ := hW
  have hA : DataW.TrodAll enc Try.prog W 0 (fun _ => true) true Try.f7.params.toList args.toList ds p := hA0
  rw [Try.params7] at hA hval
  obtain ⟨v0, vs0, d0, ds0, p0, q0, hargs, rfl, rfl, h0, r0⟩ := trodAll_cons hA
  obtain ⟨v1, vs1, d1, ds1, p1, q1, rfl, rfl, rfl, h1, r1⟩ := trodAll_cons r0
  obtain ⟨rfl, rfl, rfl⟩ := trodAll_nil r1
  obtain rfl : args = #[v0, v1] := by cases args; simp_all
  obtain ⟨rfl, rfl⟩ := trodVars_none hV
  have k0 := h0
  have lt0 : ∀ x ∈ p0, x.block < W.heap.size := by obtain ⟨m, hm⟩ := k0; exact DataW.trod_lt m _ _ _ hm
  obtain ⟨a0, len0, cap0, rfl⟩ := okWide_slice Try.underlying22 (hval 0 22 v0 rfl rfl)
  obtain ⟨A0, w0⟩ := ints_see h0
  have k1 := h1
  have lt1 : ∀ x ∈ p1, x.block < W.heap.size := by obtain ⟨m, hm⟩ := k1; exact DataW.trod_lt m _ _ _ hm
  obtain ⟨a1, rfl, rfl, rfl, w1⟩ := open_int Try.underlying3 (hval 1 3 v1 rfl rfl) h1
  clear hA0 hval0
  refine (walk a0 len0 cap0 A0 a1 W w0).mono fun e W' ⟨he, bel⟩ => ?_
  subst he
  exact ⟨_, rfl, _, _, _, [], _, [], hW', trodAll_mk1 (shut_bool Try.underlying4 _), (trodAll_cons_mk (Below.trod laidOut (by kernel_rfl) (of_decide_eq_true (by kernel_rfl)) k0 bel lt0) (trodAll_cons_mk (Below.trod laidOut (by kernel_rfl) (of_decide_eq_true (by kernel_rfl)) k1 bel lt1) trodAll_mk0)), rfl, bel.frame _, fun h => by cases h⟩

theorem over : Rows.huffmanLengthsRow.holds Try.pinned (OpenSpec.ofChange Rows.huffmanLengthsSpec) :=
  OpenClaim.holds_of_wide 7 Try.f7 rfl rfl rfl rfl rfl rfl rfl ⟨rfl, rfl, rfl, rfl, rfl⟩ rfl rfl rfl rfl rfl (by kernel_rfl) Try.func7 (by kernel_rfl)
    (of_decide_eq_true (by kernel_rfl)) (by unfold Func.isWrapper; first | (rw [if_pos (by decide +kernel)]; kernel_rfl) | (rw [if_neg (by decide +kernel)]; exact ⟨rfl, rfl⟩))
    (fun os started H enc _ => lifted os started H enc)

theorem proved : Rows.HuffmanLengthsSaid := over
end Go.Proofs.Ytildikdoimobhaa.huffmanLengths
