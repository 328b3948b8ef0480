/-
  The closure that writes a block of tokens.
-/
import Derived.Test.YtkpieakgpnnonaaGreatDflLengths
import Derived.Test.YtkpieakgpnnonaaGreatDflCost
import Derived.Test.YtkpieakgpnnonaaGreatDflStored
namespace Go.Proofs.YtkpieakgpnnonaaGreat.Dfl
open Go.ChangeShapes Go.WideShapes Go.ChangeAt Go.RowKit
open Go.Proofs.YtkpieakgpnnonaaGreat.Bit (WrAt But Near bitsOf bitsOf_length)
open Go.Proofs.YtkpieakgpnnonaaGreat.Lz (Tok okT IsToks)
open Go.Proofs.YtkpieakgpnnonaaGreat.Def
open Go.Proofs.YtkpieakgpnnonaaGreat.Huf (IsInts used nats)
open Go.Proofs.YtkpieakgpnnonaaGreat.Sym
set_option linter.unusedVariables false
set_option maxRecDepth 100000

theorem ints_block {w w' : World} {g : Nat} {L : List Int} (h : IsInts w (some ⟨g, 0, none⟩) L) (hs : g < w'.heap.size) (k : w'.heap[g]? = w.heap[g]?) : IsInts w' (some ⟨g, 0, none⟩) L := by
  intro h0
  obtain ⟨b, off, e, hb, hc⟩ := h h0
  cases e
  exact ⟨g, 0, rfl, hs, fun i hi => (World.cell?_of_block (w := w) (w' := w') (a := ⟨g, 0 + i, none⟩) k).trans (hc i hi)⟩
theorem toks_block {w w' : World} {a : Option Addr} {l : List Tok} (h : IsToks w a l) (hk : ∀ x, 0 < l.length → a = some x → x.block < w'.heap.size ∧ w'.heap[x.block]? = w.heap[x.block]?) : IsToks w' a l := by
  intro h0
  obtain ⟨b, off, rfl, hb, hc⟩ := h h0
  obtain ⟨h1, h2⟩ := hk _ h0 rfl
  refine ⟨b, off, rfl, h1, fun i hi => ?_⟩
  obtain ⟨c1, c2, c3⟩ := hc i hi
  exact ⟨(World.cell?_of_block (w := w) (w' := w') (a := ⟨b, off + i * 3, none⟩) h2).trans c1, (World.cell?_of_block (w := w) (w' := w') (a := ⟨b, off + i * 3 + 1, none⟩) h2).trans c2, (World.cell?_of_block (w := w) (w' := w') (a := ⟨b, off + i * 3 + 2, none⟩) h2).trans c3⟩

/-- What the closure holds: boxes, lengths, tokens. -/
structure Held (w : World) (pl pk po pn pm pt gl nl cl gm ml cm : Nat) (a : Option Addr) (q c : Nat) (last own : Bool) (kind : Nat) (N M : List Nat) (l : List Tok) : Prop where
  c1 : w.cell? ⟨pl, 0, none⟩ = some (.bool last)
  c2 : w.cell? ⟨pk, 0, none⟩ = some (.int .i64 kind)
  c3 : w.cell? ⟨po, 0, none⟩ = some (.bool own)
  c4 : w.cell? ⟨pn, 0, none⟩ = some (.slice (some ⟨gl, 0, none⟩) nl cl)
  c5 : w.cell? ⟨pm, 0, none⟩ = some (.slice (some ⟨gm, 0, none⟩) ml cm)
  c6 : w.cell? ⟨pt, 0, none⟩ = some (.slice a q c)
  iN : IsInts w (some ⟨gl, 0, none⟩) (ints N)
  iM : IsInts w (some ⟨gm, 0, none⟩) (ints M)
  iT : IsToks w a l
/-- None of these is the writer's. -/
structure Away (b : Nat) (v : Value) (w : World) (pl pk po pn pm pt gl gm : Nat) (a : Option Addr) (q : Nat) : Prop where
  o1 : Off b v w pl
  o2 : Off b v w pk
  o3 : Off b v w po
  o4 : Off b v w pn
  o5 : Off b v w pm
  o6 : Off b v w pt
  o7 : Off b v w gl
  o8 : Off b v w gm
  o9 : ∀ x, 0 < q → a = some x → Off b v w x.block
theorem Away.step {b : Nat} {v v' : Value} {w w' : World} {pl pk po pn pm pt gl nl cl gm ml cm : Nat} {a : Option Addr} {q c : Nat} {last own : Bool} {kind : Nat} {N M : List Nat} {l : List Tok} (h : Away b v w pl pk po pn pm pt gl gm a q) (hl : l.length = q)
    (g : Held w pl pk po pn pm pt gl nl cl gm ml cm a q c last own kind N M l) (k : But b v w w') (n : Near w v v') : Away b v' w' pl pk po pn pm pt gl gm a q ∧ Held w' pl pk po pn pm pt gl nl cl gm ml cm a q c last own kind N M l := by
  have hc : ∀ P x, Off b v w P → w.cell? ⟨P, 0, none⟩ = some x → w'.cell? ⟨P, 0, none⟩ = some x := fun P x hP hx => (World.cell?_of_block (w := w) (w' := w') (a := ⟨P, 0, none⟩) (hP.step k n).2).trans hx
  refine ⟨⟨(h.o1.step k n).1, (h.o2.step k n).1, (h.o3.step k n).1, (h.o4.step k n).1, (h.o5.step k n).1, (h.o6.step k n).1, (h.o7.step k n).1, (h.o8.step k n).1, fun x h0 hx => ((h.o9 x h0 hx).step k n).1⟩, ?_⟩
  exact ⟨hc _ _ h.o1 g.c1, hc _ _ h.o2 g.c2, hc _ _ h.o3 g.c3, hc _ _ h.o4 g.c4, hc _ _ h.o5 g.c5, hc _ _ h.o6 g.c6, ints_block g.iN (h.o7.step k n).1.lt (h.o7.step k n).2, ints_block g.iM (h.o8.step k n).1.lt (h.o8.step k n).2,
    toks_block g.iT fun x h0 hx => ⟨((h.o9 x (by omega) hx).step k n).1.lt, ((h.o9 x (by omega) hx).step k n).2⟩⟩

/-- Rows that a header can have. -/
def Rng (N M : List Nat) : Prop := (257 ≤ N.length ∧ N.length ≤ 286) ∧ (1 ≤ M.length ∧ M.length ≤ 30) ∧ (∀ x ∈ N, x ≤ 15) ∧ ∀ x ∈ M, x ≤ 15
theorem Rng.odd {N M : List Nat} (h : Rng N M) : oddH (ints N) (ints M) = false := by
  obtain ⟨h1, h2, h3, h4⟩ := h
  have hi : ∀ (N : List Nat), (∀ x ∈ N, x ≤ 15) → Huf.allIn 15 (ints N) = true := fun N h => by
    rw [Huf.allIn_iff]
    intro x hx
    obtain ⟨y, hy, rfl⟩ := List.mem_map.1 hx
    have := h y hy
    omega
  unfold oddH
  rw [ints_length, ints_length, hi N h3, hi M h4, decide_eq_false (by omega), decide_eq_false (by omega), decide_eq_false (by omega), decide_eq_false (by omega)]
  rfl
/-- What a block of tokens is, behind whatever. -/
def CodX (own last : Bool) (N M : List Nat) (l : List Tok) (X : List Bool) : Prop :=
  (own = false ∧ X = [last, true, false] ++ wrBits N M l) ∨ (own = true ∧ ∃ k O Y, IsHdr N M k O Y ∧ HdrOf N M k O Y ∧ X = [last, false, true] ++ (hdrB N M k O Y ++ wrBits N M l))

set_option maxHeartbeats 4000000 in
theorem clo_any (b : Nat) (v : Value) (l0 : List Bool) (pl pk po pn pm pt gl nl cl gm ml cm : Nat) (a : Option Addr) (q c : Nat) (last own : Bool) (kind : Nat) (N M : List Nat) (l : List Tok) (w : World) (hw : WrAt w b v l0) (hl0 : l0.length ≤ 800000)
    (hH : Held w pl pk po pn pm pt gl nl cl gm ml cm a q c last own kind N M l) (hA : Away b v w pl pk po pn pm pt gl gm a q) (hN : N.length = nl) (hM : M.length = ml) (hq : l.length = q) (hq2 : q ≤ 6000) (hF : Fit N M l) (hk : kind = if own then 2 else 1) (hR : own = true → Rng N M) (hn : nl ≤ 1000) (hm : ml ≤ 1000) :
    Calls Tryz.prog 71 #[.pointer (some ⟨b, 0, none⟩), .pointer (some ⟨pl, 0, none⟩), .pointer (some ⟨pk, 0, none⟩), .pointer (some ⟨po, 0, none⟩), .pointer (some ⟨pn, 0, none⟩), .pointer (some ⟨pm, 0, none⟩), .pointer (some ⟨pt, 0, none⟩)] w fun r w' => r = .returned (.tuple #[]) ∧ ∃ v' X, Wt b v w w' v' (l0 ++ X) ∧ CodX own last N M l X := by
  have HS := Lib.hid (And.intro (Wt.start hw) (And.intro hA hH))
  have CB := Lib.hid (begin_any b v v l0 last kind w w (Wt.start hw) (by omega))
  obtain ⟨c1, c2, c3, c4, c5, c6, _, _, _⟩ := hH
  have hE : wrE (ints N) (ints M) l = 0 := by
    unfold wrE
    rw [if_pos hF.1, if_pos ⟨hF.2.1, hF.2.2⟩]
  have WR : Hid (∀ w1 v1 l1, Away b v1 w1 pl pk po pn pm pt gl gm a q → Held w1 pl pk po pn pm pt gl nl cl gm ml cm a q c last own kind N M l → WrAt w1 b v1 l1 → l1.length ≤ 1000000 →
      Calls Tryz.prog 72 #[.pointer (some ⟨b, 0, none⟩), .slice (some ⟨gl, 0, none⟩) nl cl, .slice (some ⟨gm, 0, none⟩) ml cm, .slice a q c] w1 fun r w' => r = .returned (.int .i64 0) ∧ ∃ v', WrAt w' b v' (l1 ++ wrBits N M l) ∧ But b v1 w1 w' ∧ Near w1 v1 v') := Lib.hid fun w1 v1 l1 h1 h2 h3 h4 => by
    have := write_any b v1 l1 (some ⟨gl, 0, none⟩) (some ⟨gm, 0, none⟩) a nl cl ml cm q c (ints N) (ints M) l w1 h3 (by rw [ints_length, hN]) (by rw [ints_length, hM]) hq h2.iN h2.iM h2.iT (fun h0 x hx => ⟨(h1.o9 x h0 hx).ne, (h1.o9 x h0 hx).own⟩) (by omega) (by omega) (by omega) (by omega)
    rw [hE, if_pos rfl, ints_nats, ints_nats] at this
    exact this
  have LN : Hid (own = true → ∀ w1 v1 l1, Held w1 pl pk po pn pm pt gl nl cl gm ml cm a q c last own kind N M l → WrAt w1 b v1 l1 → l1.length ≤ 1000000 →
      Calls Tryz.prog 17 #[.pointer (some ⟨b, 0, none⟩), .slice (some ⟨gl, 0, none⟩) nl cl, .slice (some ⟨gm, 0, none⟩) ml cm] w1 fun r w' => r = .returned (.int .i64 0) ∧ ∃ k O Y, IsHdr N M k O Y ∧ HdrOf N M k O Y ∧ (hdrB N M k O Y).length ≤ 100000 ∧ ∃ v', Wt b v1 w1 w' v' (l1 ++ hdrB N M k O Y)) := Lib.hid fun ho w1 v1 l1 h2 h3 h4 => by
    refine (lengths_any b v1 l1 (some ⟨gl, 0, none⟩) (some ⟨gm, 0, none⟩) nl cl ml cm (ints N) (ints M) w1 h3 h4 (by rw [ints_length, hN]) (by rw [ints_length, hM]) h2.iN h2.iM).mono ?_
    rintro r w' ⟨e, l1', rfl, hX, hlen, v', hv⟩
    rcases hX with ⟨h5, _⟩ | ⟨_, rfl, k, O, Y, h6, h7, rfl⟩
    · rw [(hR ho).odd] at h5; cases h5
    · rw [ints_nats, ints_nats] at h6 h7 hlen hv
      exact ⟨rfl, k, O, Y, h6, h7, hlen, v', hv⟩
  have HQ := Lib.hid (And.intro hq hl0)
  have HK := Lib.hid hk
  clear hw hl0 hA hN hM hq hF hk hR hE
  go_enter Tryz.func71, Tryz.ntmps71
  go_wp2_with fail
  refine CB.out.mono ?_
  rintro r w1 ⟨rfl, v1, T1⟩
  obtain ⟨A1, H1⟩ := HS.out.2.1.step HQ.out.1 HS.out.2.2 T1.but T1.near
  have HT1 := Lib.hid (HS.out.1.step T1.at_ T1.but T1.near)
  have HA1 := Lib.hid (And.intro A1 H1)
  have d3 := H1.c3
  have d4 := H1.c4
  have d5 := H1.c5
  have d6 := H1.c6
  clear T1 A1 H1 CB c1 c2 c3 c4 c5 c6 HS
  cases own with
  | false =>
    have hk1 : kind = 1 := HK.out
    subst hk1
    have CW := Lib.hid (WR.out w1 v1 _ HA1.out.1 HA1.out.2 HT1.out.at_ (by rw [List.length_append, List.length_cons, bitsOf_length]; have := HQ.out.2; omega))
    clear LN
    go_wp2_with fail
    refine CW.out.mono ?_
    rintro r w2 ⟨rfl, v2, h2, b2, n2⟩
    have T2 := Lib.hid (HT1.out.step h2 b2 n2)
    clear h2 b2 n2 CW
    go_wp2_with fail
    go_end0
    refine ⟨rfl, v2, _, ?_, .inl ⟨rfl, rfl⟩⟩
    have := T2.out
    rw [List.append_assoc] at this
    exact this
  | true =>
    have hk1 : kind = 2 := HK.out
    subst hk1
    have CL := Lib.hid (LN.out rfl w1 v1 _ HA1.out.2 HT1.out.at_ (by rw [List.length_append, List.length_cons, bitsOf_length]; have := HQ.out.2; omega))
    clear LN
    go_wp2_with fail
    refine CL.out.mono ?_
    rintro r w2 ⟨rfl, k, O, Y, g1, g2, g3, v2, T2⟩
    obtain ⟨A2, H2⟩ := HA1.out.1.step HQ.out.1 HA1.out.2 T2.but T2.near
    have HT2 := Lib.hid (HT1.out.step T2.at_ T2.but T2.near)
    have e4 := H2.c4
    have e5 := H2.c5
    have e6 := H2.c6
    have CW := Lib.hid (WR.out w2 v2 _ A2 H2 HT2.out.at_ (by rw [List.length_append, List.length_append, List.length_cons, bitsOf_length]; have := HQ.out.2; omega))
    have HG := Lib.hid (And.intro g1 g2)
    clear g1 g2 g3 T2 A2 H2 d3 d4 d5 d6 CL HT1 HA1 WR
    go_wp2_with fail
    refine CW.out.mono ?_
    rintro r w3 ⟨rfl, v3, h3, b3, n3⟩
    have T3 := Lib.hid (HT2.out.step h3 b3 n3)
    clear h3 b3 n3 CW
    go_wp2_with fail
    go_end0
    refine ⟨rfl, v3, _, ?_, .inr ⟨rfl, k, O, Y, HG.out.1, HG.out.2, rfl⟩⟩
    have := T3.out
    rw [List.append_assoc, List.append_assoc] at this
    exact this
end Go.Proofs.YtkpieakgpnnonaaGreat.Dfl
