/-
  What codedBlock hands back writes; contract of deflate's Coded.
-/
import Derived.Test.YtkpieakgpnnonaaGreatDflCodF
import Derived.Test.YtkpieakgpnnonaaGreatDflCodO
namespace Go.Proofs.YtkpieakgpnnonaaGreat.Dfl
open Go.ChangeShapes Go.WideShapes Go.ChangeAt Go.RowKit
open Go.Proofs.YtkpieakgpnnonaaGreat.Bit (WrAt But Near bitsOf bitsOf_length)
open Go.Proofs.YtkpieakgpnnonaaGreat.Lz (Tok okT IsToks tokC valid_any)
open Go.Proofs.YtkpieakgpnnonaaGreat.Def
open Go.Proofs.YtkpieakgpnnonaaGreat.Huf (IsInts used nats)
open Go.Proofs.YtkpieakgpnnonaaGreat.Sym
set_option linter.unusedVariables false
set_option maxRecDepth 100000

theorem codedBlock_any (a : Option Addr) (q c : Nat) (own last : Bool) (l : List Tok) (w : World) (hT : IsToks w a l) (hq : l.length = q) (hq2 : q ≤ 6000) (hv : l.all okT = true) :
    Calls Tryz.prog 49 #[.slice a q c, .bool own, .bool last] w fun r w' => ∃ v, r = .returned v ∧ CoB w.heap.size w' a q c l own last v ∧ Below w.heap.size w w' := by
  cases own with
  | false => exact coded_fixed a q c last l w hT hq hq2 hv
  | true => exact coded_own a q c last l w hT hq hq2 hv

/-- A block of tokens, behind whatever. -/
def CodY (own last : Bool) (l : List Tok) (X : List Bool) : Prop :=
  (own = false ∧ Fit fxL fxD l ∧ X = [last, true, false] ++ wrBits fxL fxD l) ∨ (own = true ∧ ∃ N M k O Y, IsHdr N M k O Y ∧ Fit N M l ∧ X = [last, false, true] ++ (hdrB N M k O Y ++ wrBits N M l))

theorem CoB.puts {B : Nat} {w' : World} {a : Option Addr} {q c : Nat} {l : List Tok} {own last : Bool} {v : Value} (h : CoB B w' a q c l own last v) (hq : l.length = q) (hq2 : q ≤ 6000) :
    ∃ (K p1 p2 p3 p4 p5 p6 : Nat), v = .agg #[.int .i64 (K : Nat), .func (.func 71) #[] #[.pointer (some ⟨p1, 0, none⟩), .pointer (some ⟨p2, 0, none⟩), .pointer (some ⟨p3, 0, none⟩), .pointer (some ⟨p4, 0, none⟩), .pointer (some ⟨p5, 0, none⟩), .pointer (some ⟨p6, 0, none⟩)]] ∧ (own = false → K = 3 + (wrBits fxL fxD l).length) ∧ K ≤ 1000000 ∧
      ∀ w2, w'.heap.size ≤ w2.heap.size → (∀ k, B ≤ k → k < w'.heap.size → w2.heap[k]? = w'.heap[k]?) → (∀ x, 0 < q → a = some x → w2.heap[x.block]? = w'.heap[x.block]?) → ∀ b v l0, WrAt w2 b v l0 → l0.length ≤ 800000 → b < B → (∀ k, v.ownBlock = some k → k < B) → (∀ x, 0 < q → a = some x → x.block ≠ b ∧ v.ownBlock ≠ some x.block) →
        Calls Tryz.prog 71 #[.pointer (some ⟨b, 0, none⟩), .pointer (some ⟨p1, 0, none⟩), .pointer (some ⟨p2, 0, none⟩), .pointer (some ⟨p3, 0, none⟩), .pointer (some ⟨p4, 0, none⟩), .pointer (some ⟨p5, 0, none⟩), .pointer (some ⟨p6, 0, none⟩)] w2 fun r w3 => r = .returned (.tuple #[]) ∧ ∃ v' X, Wt b v w2 w3 v' (l0 ++ X) ∧ X.length = K ∧ CodY own last l X := by
  obtain ⟨K, p3, p4, p5, p7, p8, p9, gl, nl, cl, gm, ml, cm, kind, N, M, rfl, hH, hB, hN, hM, hF, hk, hR, hX, hn, hm, X0, hX0, hK⟩ := h.is
  have hlen : ∀ X, CodX own last N M l X → X.length = K := by
    intro X hX1
    rcases hX1 with ⟨h1, rfl⟩ | ⟨h1, k, O, Y, h2, h3, rfl⟩
    · rcases hX0 with ⟨_, rfl⟩ | ⟨g1, _⟩
      · exact hK.symm
      · rw [h1] at g1; cases g1
    · rcases hX0 with ⟨g1, _⟩ | ⟨_, j, Q, Z, g2, g3, rfl⟩
      · rw [h1] at g1; cases g1
      · rw [hK]
        have := hdr_same h3 g3
        simp only [List.length_append]
        omega
  have hw90 : (wrBits N M l).length ≤ 600000 := by
    unfold wrBits
    rw [List.length_append]
    have := toksW_length N M l
    have := cd_length N 256
    omega
  refine ⟨K, p5, p7, p4, p8, p9, p3, rfl, fun ho => ?_, ?_, fun w2 hz hk2 hkt b v l0 hw hl hbB hvB hap => ?_⟩
  · obtain ⟨rfl, rfl⟩ := hX ho
    rcases hX0 with ⟨_, rfl⟩ | ⟨g1, _⟩
    · rw [hK]; simp; omega
    · rw [ho] at g1; cases g1
  · rcases hX0 with ⟨_, rfl⟩ | ⟨_, j, Q, Z, g2, g3, rfl⟩
    · rw [hK]; simp; omega
    · have h1 := hdrB_length N M j Q Z
      have h2 := g2.rows.length
      rw [List.length_nil, List.length_append] at h2
      have h3 := g2.lits
      have h4 := g2.dists
      have h5 := g2.many
      have h6 : ∀ (Z : List (Nat × Nat)), (Z.flatMap (yB Q)).length ≤ Z.length * 64 := by
        intro Z
        induction Z with
        | nil => simp
        | cons z Z ih =>
          rw [List.flatMap_cons, List.length_append, List.length_cons]
          have : (yB Q z).length ≤ 64 := by
            unfold yB
            rw [List.length_append, bitsOf_length]
            have : (cd Q z.1).length ≤ 32 := cd_length Q _
            have : xb z.1 ≤ 7 := by unfold xb; split <;> (try split) <;> (try split) <;> omega
            omega
          omega
      have h7 := h6 Z
      rw [hK]
      simp only [List.length_append, List.length_cons, List.length_nil]
      omega
  · have hof : ∀ p, B ≤ p ∧ p < w'.heap.size → Off b v w2 p := fun p hp => ⟨Nat.lt_of_lt_of_le hp.2 hz, by omega, fun e => by have := hvB _ e; omega⟩
    have hA : Away b v w2 p5 p7 p4 p8 p9 p3 gl gm a q := ⟨hof _ (hB _ (by simp)), hof _ (hB _ (by simp)), hof _ (hB _ (by simp)), hof _ (hB _ (by simp)), hof _ (hB _ (by simp)), hof _ (hB _ (by simp)), hof _ (hB _ (by simp)), hof _ (hB _ (by simp)), fun x h0 hx => by
      obtain ⟨h1, h2⟩ := hap x h0 hx
      obtain ⟨b', off, e, hb', _⟩ := hH.iT (by omega)
      rw [e] at hx
      cases hx
      exact ⟨Nat.lt_of_lt_of_le hb' hz, h1, h2⟩⟩
    have hH2 : Held w2 p5 p7 p4 p8 p9 p3 gl nl cl gm ml cm a q c last own kind N M l := by
      have hc : ∀ p x, B ≤ p ∧ p < w'.heap.size → w'.cell? ⟨p, 0, none⟩ = some x → w2.cell? ⟨p, 0, none⟩ = some x := fun p x hp hx => (World.cell?_of_block (a := ⟨p, 0, none⟩) (hk2 p hp.1 hp.2)).trans hx
      exact ⟨hc _ _ (hB _ (by simp)) hH.c1, hc _ _ (hB _ (by simp)) hH.c2, hc _ _ (hB _ (by simp)) hH.c3, hc _ _ (hB _ (by simp)) hH.c4, hc _ _ (hB _ (by simp)) hH.c5, hc _ _ (hB _ (by simp)) hH.c6, ints_block hH.iN (Nat.lt_of_lt_of_le (hB gl (by simp)).2 hz) (hk2 gl (hB gl (by simp)).1 (hB gl (by simp)).2), ints_block hH.iM (Nat.lt_of_lt_of_le (hB gm (by simp)).2 hz) (hk2 gm (hB gm (by simp)).1 (hB gm (by simp)).2), toks_block hH.iT (fun x h0 hx => ⟨by
        obtain ⟨b', off, e, hb', _⟩ := hH.iT h0
        rw [e] at hx
        cases hx
        exact Nat.lt_of_lt_of_le hb' hz, hkt x (by omega) hx⟩)⟩
    refine (clo_any b v l0 p5 p7 p4 p8 p9 p3 gl nl cl gm ml cm a q c last own kind N M l w2 hw hl hH2 hA hN hM hq hq2 hF hk hR hn hm).mono ?_
    rintro r w3 ⟨rfl, v', X, hW, hC⟩
    refine ⟨rfl, v', X, hW, hlen X hC, ?_⟩
    rcases hC with ⟨h1, h2⟩ | ⟨h1, k, O, Y, h2, h3, h4⟩
    · obtain ⟨rfl, rfl⟩ := hX h1
      exact .inl ⟨h1, hF, h2⟩
    · exact .inr ⟨h1, N, M, k, O, Y, h2, hF, h4⟩

theorem field_blk (K : Int) (f : Value) (W : World) : (Instr.field 94 (.agg #[.int .i64 K, f]) 1).run Tryz.prog W = .ok f W := by kernel_rfl

set_option maxHeartbeats 4000000 in
theorem coded_any (b : Nat) (v : Value) (l0 : List Bool) (a : Option Addr) (n c : Nat) (l : List Tok) (own last : Bool) (w : World) (hw : WrAt w b v l0) (hl : l0.length ≤ 700000) (hL : l.length = n) (iT : IsToks w a l)
    (ap : ∀ x, 0 < n → a = some x → x.block ≠ b ∧ v.ownBlock ≠ some x.block) (hn : n ≤ 6000) :
    Calls Tryz.prog 22 #[.pointer (some ⟨b, 0, none⟩), .slice a n c, .bool own, .bool last] w fun r w' => ∃ e l1, r = .returned (.int .i64 e) ∧ codedOut l own last e l1 ∧ l1.length ≤ 1000000 ∧ ∃ v', Wt b v w w' v' (l0 ++ l1) := by
  have HH := Lib.hid (And.intro (Wt.start hw) (And.intro hl (And.intro hL (And.intro iT ap))))
  clear hw hl hL iT ap
  go_enter Tryz.func22, Tryz.ntmps22
  go_wp2_with fail
  go_loopw [13] (fun i wr => ∃ k : Nat, k ≤ n ∧ i = .int .i64 k ∧ (l.take k).all okT = true ∧ Below w.heap.size w wr) (fun i _ => n - (intOf i).toNat)
  case atStart => exact ⟨0, Nat.zero_le _, rfl, rfl, Below.refl _ _⟩
  case round =>
    obtain ⟨k, hk, rfl, hall, hb⟩ := hrel
    by_cases hlt : k < n
    · have hlt' : (k : Int) < n := by omega
      have hkl : k < l.length := by have := HH.out.2.2.1; omega
      obtain ⟨bb, off, rfl, hbb, hc⟩ := HH.out.2.2.2.1 (by omega)
      obtain ⟨q1, q2, q3⟩ := hc k hkl
      have c1 := (hb.cell (p := ⟨bb, off + k * 3, none⟩) hbb).trans q1
      have c2 := (hb.cell (p := ⟨bb, off + k * 3 + 1, none⟩) hbb).trans q2
      have c3 := (hb.cell (p := ⟨bb, off + k * 3 + 2, none⟩) hbb).trans q3
      have AN : Hid (okT l[k] = true → (l.take (k + 1)).all okT = true) := Lib.hid fun h => all_take_succ hkl hall h
      have AF : Hid (okT l[k] = false → l.all okT = false) := Lib.hid fun h => by
        cases hh : l.all okT with
        | false => rfl
        | true => exact absurd hh (all_false hkl h)
      clear q1 q2 q3 hc hall
      generalize l[k] = t at *
      have HB := Lib.hid hb
      clear hb
      go_wp2_with fail
      refine (valid_any t _).mono ?_
      rintro r w' ⟨rfl, rfl⟩
      obtain ⟨_, b2, _⟩ := two_tok wr t
      generalize ((wr.alloc (.cells #[.int .i64 t.B, .int .i64 t.L, .int .i64 t.D] 52)).alloc (.cells (tokC t) 52)) = w2 at *
      have HB2 := Lib.hid (HB.out.trans (b2.mono HB.out.size))
      clear b2 HB c1 c2 c3
      cases hv : okT t with
      | false =>
        have HF := Lib.hid (AF.out hv)
        clear hv
        go_wp2_with fail
        go_ret
        exact ⟨_, [], rfl, .inl ⟨HF.out, rfl, rfl⟩, by simp, v, by rw [List.append_nil]; exact HH.out.1.below HB2.out⟩
      | true =>
        have HA := Lib.hid (AN.out hv)
        clear hv
        go_wp2_with fail
        refine ⟨⟨k + 1, by omega, by go_num, HA.out, HB2.out⟩, ?_⟩
        simp [intOf]; omega
    · obtain rfl : k = n := by omega
      rw [List.take_of_length_le (by have := HH.out.2.2.1; omega)] at hall
      have HALL := Lib.hid hall
      have CC := Lib.hid (codedBlock_any a k c own last l wr (HH.out.2.2.2.1.below hb (Nat.le_refl _)) HH.out.2.2.1 hn hall)
      have HB := Lib.hid hb
      clear hall hb
      go_wp2_with fail
      refine CC.out.mono ?_
      rintro r w1 ⟨bv, rfl, hCo, b1⟩
      obtain ⟨K, p1, p2, p3, p4, p5, p6, rfl, _, hK1, hP⟩ := hCo.puts HH.out.2.2.1 hn
      have T1 := HH.out.1.below HB.out
      have T2 := T1.below b1
      have hlt1 := Bit.WrRaw.lt T1.at_
      have CP := Lib.hid (hP w1 (Nat.le_refl _) (fun _ _ _ => rfl) (fun _ _ _ => rfl) b v l0 T2.at_ (by have := HH.out.2.1; omega) hlt1 (fun j hj => (T1.at_.own.lt j hj).2) HH.out.2.2.2.2)
      have HT2 := Lib.hid (And.intro T2 hK1)
      have hfd := field_blk (K : Nat) (.func (.func 71) #[] #[.pointer (some ⟨p1, 0, none⟩), .pointer (some ⟨p2, 0, none⟩), .pointer (some ⟨p3, 0, none⟩), .pointer (some ⟨p4, 0, none⟩), .pointer (some ⟨p5, 0, none⟩), .pointer (some ⟨p6, 0, none⟩)])
      clear hCo hP b1 T1 T2 CC hlt1 hK1
      go_wp2_with fail
      refine CP.out.mono ?_
      rintro r w2 ⟨rfl, v2, X, hW, hXl, hY⟩
      have HW2 := Lib.hid (And.intro (HT2.out.1.step hW.at_ hW.but hW.near) (And.intro hXl hY))
      clear hW hXl hY CP
      go_wp2_with fail
      go_ret
      refine ⟨_, X, rfl, .inr ⟨HALL.out, rfl, ?_⟩, by rw [HW2.out.2.1]; exact HT2.out.2, v2, HW2.out.1⟩
      exact HW2.out.2.2
end Go.Proofs.YtkpieakgpnnonaaGreat.Dfl
