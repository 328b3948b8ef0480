/-
  Proved: the sum of three texts of one length, exclusive-or byte by byte, is the exclusive-or of their sums (statement CrcsLinear). Conditions: none.
-/
import Derived.Test.YtkpnpldjhgpaiaaRows
import Derived.Test.YtkpnpldjhgpaiaaCrcRef
import Derived.Test.YtkpnpldjhgpaiaaRegInv
import Derived.WalkKit
import Derived.ProofKit
import Derived.OpenShut
import Derived.ShutString
import Derived.ChangeOld
import Derived.Below
import Derived.Lib.SmallJoins
import Derived.Deep.Slices
namespace Go.Proofs.Ytkpnpldjhgpaiaa.crcsLinear
open Go.Proofs.Ytkpnpldjhgpaiaa.Crc
open Go.Proofs.Ytkpnpldjhgpaiaa.RegInv
open Go.ChangeShapes Go.WideShapes Go.ChangeAt Go.RowKit
open Go.ChangeMaps (open_string shut_string)
set_option linter.unusedVariables false

theorem own : ownKnob Try.prog.godebug = none := by kernel_rfl
theorem laidOut : laidOutB Try.prog = true := by kernel_rfl

/-- The bytes behind k rounds. -/
def rowX (l : List UInt8) (k : Nat) : List Value := (List.range l.length).map fun j => if j < k then Value.int .u8 ((l.getD j 0).toNat : Int) else Value.int .u8 0

theorem rowX_zero (l : List UInt8) : rowX l 0 = List.replicate l.length (Value.int .u8 0) := by
  apply List.ext_getElem?
  intro j
  by_cases hj : j < l.length
  · simp [rowX, hj]
  · simp [rowX, hj]

theorem rowX_step (l : List UInt8) (k : Nat) (hk : k < l.length) : (rowX l k).set k (Value.int .u8 (l[k].toNat : Int)) = rowX l (k + 1) := by
  apply List.ext_getElem?
  intro j
  rw [List.getElem?_set]
  by_cases hj : j < l.length
  · by_cases hjk : k = j
    · subst hjk
      simp [rowX, hj]
    · simp only [rowX, List.getElem?_map, List.getElem?_range hj, Option.map_some, List.length_map, List.length_range, if_neg hjk]
      congr 1
      by_cases h : j < k
      · rw [if_pos h, if_pos (by omega)]
      · rw [if_neg h, if_neg (by omega)]
  · simp [rowX, hj]; omega

theorem rowX_get (l : List UInt8) (k j : Nat) (hj : j < l.length) : (rowX l k)[j]? = some (if j < k then Value.int .u8 (l[j].toNat : Int) else Value.int .u8 0) := by
  simp [rowX, hj]

theorem rowX_done (l : List UInt8) (j : Nat) (hj : j < l.length) : (rowX l l.length)[j]? = (l.map fun b => Value.int .u8 b.toNat)[j]? := by
  rw [rowX_get l _ j hj, if_pos hj]
  simp [hj]

theorem info_u8 : (Try.prog.info? 5).map (fun i => (i.zero, i.size, i.bytes)) = some (some (.int .u8 0), 1, 1) := by kernel_rfl

theorem x3 (a b c : UInt8) : ∃ y : Nat, y < 256 ∧ bits .xor .u8 (a.toNat : Int) (b.toNat : Int) = (y : Int) ∧ bits .xor .u8 (y : Int) (c.toNat : Int) = ((a ^^^ b ^^^ c).toNat : Int) := by
  have ha := a.toNat_lt
  have hb := b.toNat_lt
  have hc := c.toNat_lt
  have hy : a.toNat ^^^ b.toNat < 2 ^ 8 := Nat.xor_lt_two_pow ha hb
  refine ⟨a.toNat ^^^ b.toNat, hy, Crc.u8_xor _ _ (by omega) (by omega), ?_⟩
  rw [UInt8.toNat_xor, UInt8.toNat_xor]
  exact Crc.u8_xor _ _ hy (by omega)

theorem min_if (x y : Nat) : (if y < x then (y : Int) else x) = ((min x y : Nat) : Int) := by
  split <;> omega

/-- The least of three lengths. -/
theorem least (x y z : Nat) : ∃ m n : Nat, (if y < x then (y : Int) else x) = (m : Int) ∧ (if z < m then (z : Int) else m) = (n : Int) ∧ n ≤ x ∧ n ≤ y ∧ n ≤ z :=
  ⟨min x y, min (min x y) z, min_if x y, min_if _ z, by omega, by omega, by omega⟩

theorem extr (a : ByteArray) (n : Nat) (h : n ≤ a.size) : (a.extract 0 n).data.toList.length = n ∧ (a.extract 0 n).size = n ∧ ∀ k (hk : k < n) (h2 : k < (a.extract 0 n).data.toList.length) (h3 : k < a.size), (a.extract 0 n).data.toList[k] = a[k] := by
  have e : (a.extract 0 n).data.toList = a.data.toList.take n := by simp [ByteArray.data_extract]
  have l : (a.extract 0 n).data.toList.length = n := by rw [e, List.length_take]; simp; omega
  refine ⟨l, by simpa using l, ?_⟩
  intro k hk h2 h3
  simp only [e, List.getElem_take]
  rfl

theorem sums (a b c d : ByteArray) (n : Nat) (ha : a.data.toList.length = n) (hb : b.data.toList.length = n) (hc : c.data.toList.length = n) (hd : d.data.toList = mix3 a.data.toList b.data.toList c.data.toList) :
    sumV [d] = sumV [a] ^^^ sumV [b] ^^^ sumV [c] := by
  rw [sumV_one, sumV_one, sumV_one, sumV_one, hd]
  have e : (4294967295 : Nat) = 4294967295 ^^^ 4294967295 ^^^ 4294967295 := by decide
  have h := crc_lin n _ _ _ 4294967295 4294967295 4294967295 ha hb hc
  rw [← e] at h
  have l : low 4294967295 = 4294967295 := by decide
  unfold moreV
  rw [l, h]
  generalize crc 4294967295 a.data.toList = A
  generalize crc 4294967295 b.data.toList = B
  generalize crc 4294967295 c.data.toList = C
  generalize (4294967295 : Nat) = o at *
  conv => lhs; rw [e]
  ac_rfl

theorem mixed (a b c : ByteArray) (n : Nat) (ha : n ≤ a.size) (hb : n ≤ b.size) (hc : n ≤ c.size) (hn : n ≤ 2000) : ∃ (l : List UInt8) (d : ByteArray), l.length = n ∧
    (∀ k (h0 : k < l.length) (h1 : k < a.size) (h2 : k < b.size) (h3 : k < c.size), l[k] = a[k] ^^^ b[k] ^^^ c[k]) ∧ ⟨l.toArray⟩ = d ∧ d.size ≤ 2000 ∧
    sumV [d] = sumV [a.extract 0 n] ^^^ sumV [b.extract 0 n] ^^^ sumV [c.extract 0 n] := by
  obtain ⟨a1, a2, a3⟩ := extr a n ha
  obtain ⟨b1, b2, b3⟩ := extr b n hb
  obtain ⟨c1, c2, c3⟩ := extr c n hc
  have ll := mix3_length n _ _ _ a1 b1 c1
  refine ⟨mix3 (a.extract 0 n).data.toList (b.extract 0 n).data.toList (c.extract 0 n).data.toList, _, ll, ?_, rfl, ?_, ?_⟩
  · intro k h0 h1 h2 h3
    rw [mix3_get _ _ _ k h0 (by omega) (by omega) (by omega), a3 k (by omega) _ h1, b3 k (by omega) _ h2, c3 k (by omega) _ h3]
  · show (mix3 _ _ _).toArray.size ≤ _
    rw [List.size_toArray]; omega
  · exact sums _ _ _ _ n a1 b1 c1 (by simp)

/-- What is so in every world of the last region. -/
def Held (w wr : World) (b : Nat) (W : World) : Prop := TabAt W b ∧ b < W.heap.size ∧ Below w.heap.size w W ∧ Below wr.heap.size wr W
theorem Held.alloc {w wr : World} {b : Nat} {W : World} (h : Held w wr b W) (o : Obj) : Held w wr b (W.alloc o) :=
  ⟨h.1.alloc h.2.1 o, by have := h.2.1; simp; omega, h.2.2.1.alloc h.2.2.1.size o, h.2.2.2.alloc h.2.2.2.size o⟩
theorem Held.drew {w wr : World} {b : Nat} {W : World} (h : Held w wr b W) : Held w wr b W.drew :=
  ⟨h.1, h.2.1, h.2.2.1.drew, h.2.2.2.drew⟩

/-- A slice of one text, made in the region. -/
def IsS (t : ByteArray) (v : Value) (w : World) : Prop := ∃ g, v = .slice (some ⟨g, 0, none⟩) 1 1 ∧ g < w.heap.size ∧ w.cell? ⟨g, 0, none⟩ = some (.string t)
theorem IsS.alloc {t : ByteArray} {v : Value} {w : World} (h : IsS t v w) (o : Obj) : IsS t v (w.alloc o) := by
  obtain ⟨g, e, hg, hc⟩ := h
  exact ⟨g, e, by simp; omega, by rw [World.cell?_alloc_lt w o ⟨g, 0, none⟩ hg]; exact hc⟩
theorem isS_new (t : ByteArray) (T : TypeId) (w : World) : IsS t (.slice (some ⟨w.heap.size, 0, none⟩) 1 1) (w.alloc (.cells #[.string t] T)) := ⟨w.heap.size, rfl, by simp, by simp⟩

/-- What each operation of the last region leaves. -/
def vl (a b c d : ByteArray) (k Bt B1 SD SA SB SC SAB : Nat) (i : Nat) (v : Value) (w : World) : Prop :=
  match i with
  | 0 => v = .bool true
  | 1 => v = .bool true
  | 2 => v = (Value.slice (some ⟨Bt, 0, none⟩) 256 256)
  | 3 => v = (Value.slice (some ⟨B1, 0, none⟩) k k)
  | 4 => v = .string d
  | 5 => IsS d v w
  | 6 => v = .int .i64 SD
  | 7 => v = (Value.slice (some ⟨Bt, 0, none⟩) 256 256)
  | 8 => v = .string a
  | 9 => v = .int .i64 k
  | 10 => v = .string (a.extract 0 k)
  | 11 => IsS (a.extract 0 k) v w
  | 12 => v = .int .i64 SA
  | 13 => v = (Value.slice (some ⟨Bt, 0, none⟩) 256 256)
  | 14 => v = .string b
  | 15 => v = .int .i64 k
  | 16 => v = .string (b.extract 0 k)
  | 17 => IsS (b.extract 0 k) v w
  | 18 => v = .int .i64 SB
  | 19 => v = .int .i64 SAB
  | 20 => v = (Value.slice (some ⟨Bt, 0, none⟩) 256 256)
  | 21 => v = .string c
  | 22 => v = .int .i64 k
  | 23 => v = .string (c.extract 0 k)
  | 24 => IsS (c.extract 0 k) v w
  | 25 => v = .int .i64 SC
  | 26 => v = .int .i64 SD
  | 27 => v = .bool true
  | 28 => v = .bool true
  | 29 => v = .bool true
  | _ => False
theorem vl_alloc {a b c d : ByteArray} {k Bt B1 SD SA SB SC SAB : Nat} {i : Nat} {v : Value} {w : World} (o : Obj) (h : vl a b c d k Bt B1 SD SA SB SC SAB i v w) : vl a b c d k Bt B1 SD SA SB SC SAB i v (w.alloc o) := by
  unfold vl at h ⊢
  split at h <;> first | exact h | exact h.alloc o

theorem early (a b c : ByteArray) (m n : Nat) (w : World) (wa : a.size ≤ maxLen) (wb : b.size ≤ maxLen) (wc : c.size ≤ maxLen)
    (h1 : (if b.size < a.size then (b.size : Int) else a.size) = (m : Int)) (h2 : (if c.size < m then (c.size : Int) else m) = (n : Int)) (hg : 2000 < n) :
    Calls Try.prog 7 #[.string a, .string b, .string c] w fun e w' => e = .returned (.bool true) ∧ Below w.heap.size w w' := by
  unfold maxLen at wa wb wc
  go_enter Try.func7, Try.ntmps7
  go_wp2_with fail
  refine (works_any _).mono ?_
  rintro r w1 ⟨rfl, b1⟩
  go_wp2_with fail
  all_goals (go_ret; exact ⟨rfl, b1⟩)

set_option maxRecDepth 10000 in
set_option maxHeartbeats 4000000 in
theorem walk (a b c : ByteArray) (wa : a.size ≤ maxLen) (wb : b.size ≤ maxLen) (wc : c.size ≤ maxLen) (w : World) :
    Calls Try.prog 7 #[.string a, .string b, .string c] w fun e w' => e = .returned (.bool true) ∧ Below w.heap.size w w' := by
  obtain ⟨m, n, h1, h2, ha, hb, hc⟩ := least a.size b.size c.size
  by_cases hg : 2000 < n
  · exact early a b c m n w wa wb wc h1 h2 hg
  have hn : n ≤ 2000 := by omega
  clear hg wa wb wc
  obtain ⟨l, d, ll, lg, hd, hds, hsum⟩ := mixed a b c n ha hb hc hn
  have dn : decide (2000 < n) = false := decide_eq_false (by omega)
  have dn2 : decide (2000 < (n : Int)) = false := decide_eq_false (by omega)
  have HL := Lib.hid lg
  have HD := Lib.hid hd
  have HS := Lib.hid hsum
  clear lg hd hsum
  obtain ⟨i0, hi, hz0, hz1, hz2⟩ := info_parts info_u8
  go_enter Try.func7, Try.ntmps7
  go_wp2_with fail
  refine (works_any _).mono ?_
  rintro r w1 ⟨rfl, b1⟩
  go_wp2_with (at_make; refine wpList_make_full _ rfl _ _ 34 rfl w1.heap.size 5 i0 (.int .u8 0) 1 Try.underlying34 hi hz0 hz1 .i64 .i64 _ _ n rfl rfl rfl rfl (by rw [hz2]; omega) (by unfold maxLen; omega) (Nat.le_refl _) ?_; intro w2 hown hgrow)
  clear h1 h2
  go_loopw [10] (fun i wr => ∃ k : Nat, k ≤ n ∧ i = .int .i64 k ∧ wr.ownsRow w1.heap.size 5 1 (.slice (some ⟨w1.heap.size, 0, none⟩) n n) n (rowX l k) ∧ Below w1.heap.size w1 wr) (fun i _ => n - (intOf i).toNat)
  case atStart =>
    refine ⟨0, Nat.zero_le _, rfl, ?_, (Below.refl _ _).grown hgrow (Nat.le_refl _) (fun j hj => by cases hj)⟩
    rw [rowX_zero, ll]
    rw [show (Value.int IntKind.u8 0).cells = #[Value.int .u8 0] from rfl, toList_madeCells_one, Nat.mul_one] at hown
    exact hown
  case round =>
    obtain ⟨k, hk, rfl, hown1, hbel⟩ := hrel
    by_cases hlt : k < n
    · have fz := hown1.frozenAt k
      have cz : wr.cell? ⟨w1.heap.size, k, none⟩ = some (.int .u8 0) := by
        rw [hown1.cellAt _ (by omega), rowX_get _ _ _ (by omega), if_neg (Nat.lt_irrefl k)]
      have hst := hown1.stored k (Value.int .u8 ((l[k]'(by omega)).toNat : Int))
      rw [rowX_step l k (by omega)] at hst
      rw [HL.out k (by omega) (by omega) (by omega) (by omega)] at hst
      obtain ⟨y, hy, y1, y2⟩ := x3 (a[k]'(by omega)) (b[k]'(by omega)) (c[k]'(by omega))
      have HST := Lib.hid hst
      have HBEL := Lib.hid hbel
      clear hown hgrow hown1 hst hbel
      have q1 : k < a.size := by omega
      have q2 : k < b.size := by omega
      have q3 : k < c.size := by omega
      go_wp2_with fail
      go_region
      go_wp2_with fail
      refine ⟨⟨k + 1, by omega, by go_num, HST.out.1.drew, (HBEL.out.setCell (Nat.le_refl _) _).drew⟩, ?_⟩
      simp [intOf]; omega
    · obtain rfl : k = n := by omega
      have hcv : ∀ W : World, (∀ j, j < k → W.cell? ⟨w1.heap.size, j, none⟩ = wr.cell? ⟨w1.heap.size, j, none⟩) → (convert 34 9 (.slice (some ⟨w1.heap.size, 0, none⟩) k k)).run Try.prog W = .ok (.string d) W := by
        intro W hW
        rw [← HD.out]
        refine Oct.run_string_of _ _ _ 5 _ _ l k ll (by kernel_rfl) (by kernel_rfl) (by kernel_rfl) (fun j hj => ?_)
        rw [Oct.addr_add, hW j hj, hown1.cellAt j (by omega), ← rowX_done l j (by omega), ll]
      have z1 : w1.heap.size ≤ wr.heap.size := hbel.size
      have hcv2 : ∀ W : World, Below wr.heap.size wr W → (convert 34 9 (.slice (some ⟨w1.heap.size, 0, none⟩) k k)).run Try.prog W = .ok (.string d) W := by
        intro W hW
        refine hcv W (fun j hj => ?_)
        have hlt2 : w1.heap.size < wr.heap.size := by
          have := hown1.cellAt j (by omega)
          rw [rowX_get _ _ _ (by omega)] at this
          apply Classical.byContradiction
          intro hn
          unfold World.cell? at this
          rw [Array.getElem?_eq_none (Nat.le_of_not_lt hn)] at this
          cases this
        rw [hW.cell hlt2]
      have bl1 := below_more b1 (Nat.le_refl _) hbel
      clear hown hgrow b1 hbel
      clear hcv hown1
      have HV := Lib.hid hcv2
      clear hcv2 HL HD ll
      generalize w1.heap.size = B1 at *
      go_wp2_with fail
      refine (make_any _).mono ?_
      rintro r w3 ⟨rfl, b3, t3, z3⟩
      have HD0 : Held w wr wr.heap.size w3 := ⟨t3, z3, below_more bl1 (Nat.le_refl _) b3, b3⟩
      clear t3 z3 bl1 b3 z1
      have HV3 : ∀ W, Held w wr wr.heap.size W → (convert 34 9 (.slice (some ⟨B1, 0, none⟩) k k)).run Try.prog W = .ok (.string d) W := fun W h => HV.out W h.2.2.2
      clear HV
      generalize wr.heap.size = Bt at *
      have CA := Lib.hid (fun g W (h : (convert 34 9 (.slice (some ⟨B1, 0, none⟩) k k)).run Try.prog W = .ok (.string d) W ∧ Held w wr Bt W) (hc : W.cell? ⟨g, 0, none⟩ = some (.string (a.extract 0 k))) => sum_at Bt g (a.extract 0 k) W h.2.1 (by have := (extr a k ha).2.1; omega) hc)
      have CB := Lib.hid (fun g W (h : (convert 34 9 (.slice (some ⟨B1, 0, none⟩) k k)).run Try.prog W = .ok (.string d) W ∧ Held w wr Bt W) (hc : W.cell? ⟨g, 0, none⟩ = some (.string (b.extract 0 k))) => sum_at Bt g (b.extract 0 k) W h.2.1 (by have := (extr b k hb).2.1; omega) hc)
      have CC := Lib.hid (fun g W (h : (convert 34 9 (.slice (some ⟨B1, 0, none⟩) k k)).run Try.prog W = .ok (.string d) W ∧ Held w wr Bt W) (hq : W.cell? ⟨g, 0, none⟩ = some (.string (c.extract 0 k))) => sum_at Bt g (c.extract 0 k) W h.2.1 (by have := (extr c k hc).2.1; omega) hq)
      have CD := Lib.hid (fun g W (h : (convert 34 9 (.slice (some ⟨B1, 0, none⟩) k k)).run Try.prog W = .ok (.string d) W ∧ Held w wr Bt W) (hc : W.cell? ⟨g, 0, none⟩ = some (.string d)) => sum_at Bt g d W h.2.1 (by omega) hc)
      have sA := sumV_lt [a.extract 0 k]
      have sB := sumV_lt [b.extract 0 k]
      have sC := sumV_lt [c.extract 0 k]
      have sum2 := HS.out
      generalize sumV [d] = SD at *
      generalize sumV [a.extract 0 k] = SA at *
      generalize sumV [b.extract 0 k] = SB at *
      generalize sumV [c.extract 0 k] = SC at *
      have x1 := i64_xor SA SB sA sB
      have x2 := i64_xor (SA ^^^ SB) SC (xor_lt _ _ sA sB) sC
      rw [← sum2] at x2
      generalize SA ^^^ SB = SAB at *
      clear HS sum2 hds sA sB sC dn dn2
      have HD1 := Lib.hid HD0.drew
      have HV4 := Lib.hid HV3
      clear HD0 HV3
      go_wp2_with fail
      have HK := Lib.hid (fun W o (h : (convert 34 9 (.slice (some ⟨B1, 0, none⟩) k k)).run Try.prog W = .ok (.string d) W ∧ Held w wr Bt W) => (⟨HV4.out _ (h.2.alloc o), h.2.alloc o⟩ : (convert 34 9 (.slice (some ⟨B1, 0, none⟩) k k)).run Try.prog (W.alloc o) = .ok (.string d) (W.alloc o) ∧ Held w wr Bt (W.alloc o)))
      have h0 := Lib.hid (⟨HV4.out _ HD1.out, HD1.out⟩ : (convert 34 9 (.slice (some ⟨B1, 0, none⟩) k k)).run Try.prog w3.drew = .ok (.string d) w3.drew ∧ Held w wr Bt w3.drew)
      have FIN := Lib.hid (fun W (h : (convert 34 9 (.slice (some ⟨B1, 0, none⟩) k k)).run Try.prog W = .ok (.string d) W ∧ Held w wr Bt W) => h.2.2.2.1)
      clear HV4 HD1
      refine region_ops (n := 77) (by kernel_rfl) (vl a b c d k Bt B1 SD SA SB SC SAB) (fun W => (convert 34 9 (.slice (some ⟨B1, 0, none⟩) k k)).run Try.prog W = .ok (.string d) W ∧ Held w wr Bt W) (by kernel_rfl) (by kernel_rfl) (by rfl) (by kernel_rfl) h0.out ⟨?_, ?_, ?_, ?_, ?_, ?_, ?_, ?_, ?_, ?_, ?_, ?_, ?_, ?_, ?_, ?_, ?_, ?_, ?_, ?_, ?_, ?_, ?_, ?_, ?_, ?_, ?_, ?_, ?_, ?_, trivial⟩ ?_
      · intro act W hS hsame hdeps
        have e7 : act.tmps[7]? = some (.bool true) := hsame 7 (by kernel_rfl)
        clear hsame hdeps
        refine ⟨wanted_none (by rfl), fun K hK => ?_⟩
        go_simp
        exact hK _ _ (by rfl) hS (fun _ _ h => h)
      · intro act W hS hsame hdeps
        obtain ⟨x48, e48, y48⟩ := hdeps ⟨0, .data⟩ (by simp) (by rfl) 48 (by rfl)
        replace y48 : x48 = .bool true := y48
        subst y48
        clear hsame hdeps
        refine ⟨wanted_none (by rfl), fun K hK => ?_⟩
        go_simp
        exact hK _ _ (by rfl) hS (fun _ _ h => h)
      · intro act W hS hsame hdeps
        obtain ⟨x49, e49, y49⟩ := hdeps ⟨1, .guard⟩ (by simp) (by rfl) 49 (by rfl)
        replace y49 : x49 = .bool true := y49
        subst y49
        have e11 : act.tmps[11]? = some (Value.slice (some ⟨Bt, 0, none⟩) 256 256) := hsame 11 (by kernel_rfl)
        clear hsame hdeps
        refine ⟨wanted_guard (j := 1) (b := true) (t := 49) (by rfl) (by rfl) e49, fun K hK => ?_⟩
        go_simp
        exact hK _ _ (by rfl) hS (fun _ _ h => h)
      · intro act W hS hsame hdeps
        obtain ⟨x49, e49, y49⟩ := hdeps ⟨1, .guard⟩ (by simp) (by rfl) 49 (by rfl)
        replace y49 : x49 = .bool true := y49
        subst y49
        have e9 : act.tmps[9]? = some (Value.slice (some ⟨B1, 0, none⟩) k k) := hsame 9 (by kernel_rfl)
        clear hsame hdeps
        refine ⟨wanted_guard (j := 1) (b := true) (t := 49) (by rfl) (by rfl) e49, fun K hK => ?_⟩
        go_simp
        exact hK _ _ (by rfl) hS (fun _ _ h => h)
      · intro act W hS hsame hdeps
        obtain ⟨x49, e49, y49⟩ := hdeps ⟨1, .guard⟩ (by simp) (by rfl) 49 (by rfl)
        replace y49 : x49 = .bool true := y49
        subst y49
        obtain ⟨x51, e51, y51⟩ := hdeps ⟨3, .data⟩ (by simp) (by rfl) 51 (by rfl)
        replace y51 : x51 = (Value.slice (some ⟨B1, 0, none⟩) k k) := y51
        subst y51
        clear hsame hdeps
        refine ⟨wanted_guard (j := 1) (b := true) (t := 49) (by rfl) (by rfl) e49, fun K hK => ?_⟩
        have hcv := hS.1
        go_simp
        exact hK _ _ (by rfl) hS (fun _ _ h => h)
      · intro act W hS hsame hdeps
        obtain ⟨x49, e49, y49⟩ := hdeps ⟨1, .guard⟩ (by simp) (by rfl) 49 (by rfl)
        replace y49 : x49 = .bool true := y49
        subst y49
        obtain ⟨x52, e52, y52⟩ := hdeps ⟨4, .data⟩ (by simp) (by rfl) 52 (by rfl)
        replace y52 : x52 = .string d := y52
        subst y52
        clear hsame hdeps
        refine ⟨wanted_guard (j := 1) (b := true) (t := 49) (by rfl) (by rfl) e49, fun K hK => ?_⟩
        go_simp
        exact hK _ _ (isS_new _ _ W) (HK.out _ _ hS) (fun j u h => vl_alloc _ h)
      · intro act W hS hsame hdeps
        obtain ⟨x49, e49, y49⟩ := hdeps ⟨1, .guard⟩ (by simp) (by rfl) 49 (by rfl)
        replace y49 : x49 = .bool true := y49
        subst y49
        obtain ⟨x50, e50, y50⟩ := hdeps ⟨2, .data⟩ (by simp) (by rfl) 50 (by rfl)
        replace y50 : x50 = (Value.slice (some ⟨Bt, 0, none⟩) 256 256) := y50
        subst y50
        obtain ⟨x53, e53, y53⟩ := hdeps ⟨5, .data⟩ (by simp) (by rfl) 53 (by rfl)
        obtain ⟨g53, y53, z53, c53⟩ := (y53 : IsS _ x53 W)
        subst y53
        clear hsame hdeps
        refine ⟨wanted_guard (j := 1) (b := true) (t := 49) (by rfl) (by rfl) e49, fun K hK => ?_⟩
        go_simp
        refine (CD.out _ _ hS c53).mono ?_
        rintro r w' ⟨rfl, rfl⟩
        exact hK _ _ (by rfl) hS (fun _ _ h => h)
      · intro act W hS hsame hdeps
        obtain ⟨x49, e49, y49⟩ := hdeps ⟨1, .guard⟩ (by simp) (by rfl) 49 (by rfl)
        replace y49 : x49 = .bool true := y49
        subst y49
        have e11 : act.tmps[11]? = some (Value.slice (some ⟨Bt, 0, none⟩) 256 256) := hsame 11 (by kernel_rfl)
        clear hsame hdeps
        refine ⟨wanted_guard (j := 1) (b := true) (t := 49) (by rfl) (by rfl) e49, fun K hK => ?_⟩
        go_simp
        exact hK _ _ (by rfl) hS (fun _ _ h => h)
      · intro act W hS hsame hdeps
        obtain ⟨x49, e49, y49⟩ := hdeps ⟨1, .guard⟩ (by simp) (by rfl) 49 (by rfl)
        replace y49 : x49 = .bool true := y49
        subst y49
        have e0 : act.tmps[0]? = some (.string a) := hsame 0 (by kernel_rfl)
        clear hsame hdeps
        refine ⟨wanted_guard (j := 1) (b := true) (t := 49) (by rfl) (by rfl) e49, fun K hK => ?_⟩
        go_simp
        exact hK _ _ (by rfl) hS (fun _ _ h => h)
      · intro act W hS hsame hdeps
        obtain ⟨x49, e49, y49⟩ := hdeps ⟨1, .guard⟩ (by simp) (by rfl) 49 (by rfl)
        replace y49 : x49 = .bool true := y49
        subst y49
        have e8 : act.tmps[8]? = some (.int .i64 k) := hsame 8 (by kernel_rfl)
        clear hsame hdeps
        refine ⟨wanted_guard (j := 1) (b := true) (t := 49) (by rfl) (by rfl) e49, fun K hK => ?_⟩
        go_simp
        exact hK _ _ (by rfl) hS (fun _ _ h => h)
      · intro act W hS hsame hdeps
        obtain ⟨x49, e49, y49⟩ := hdeps ⟨1, .guard⟩ (by simp) (by rfl) 49 (by rfl)
        replace y49 : x49 = .bool true := y49
        subst y49
        obtain ⟨x56, e56, y56⟩ := hdeps ⟨8, .data⟩ (by simp) (by rfl) 56 (by rfl)
        replace y56 : x56 = .string a := y56
        subst y56
        obtain ⟨x57, e57, y57⟩ := hdeps ⟨9, .data⟩ (by simp) (by rfl) 57 (by rfl)
        replace y57 : x57 = .int .i64 k := y57
        subst y57
        clear hsame hdeps
        refine ⟨wanted_guard (j := 1) (b := true) (t := 49) (by rfl) (by rfl) e49, fun K hK => ?_⟩
        go_simp
        exact hK _ _ (by rfl) hS (fun _ _ h => h)
      · intro act W hS hsame hdeps
        obtain ⟨x49, e49, y49⟩ := hdeps ⟨1, .guard⟩ (by simp) (by rfl) 49 (by rfl)
        replace y49 : x49 = .bool true := y49
        subst y49
        obtain ⟨x58, e58, y58⟩ := hdeps ⟨10, .data⟩ (by simp) (by rfl) 58 (by rfl)
        replace y58 : x58 = .string (a.extract 0 k) := y58
        subst y58
        clear hsame hdeps
        refine ⟨wanted_guard (j := 1) (b := true) (t := 49) (by rfl) (by rfl) e49, fun K hK => ?_⟩
        go_simp
        exact hK _ _ (isS_new _ _ W) (HK.out _ _ hS) (fun j u h => vl_alloc _ h)
      · intro act W hS hsame hdeps
        obtain ⟨x49, e49, y49⟩ := hdeps ⟨1, .guard⟩ (by simp) (by rfl) 49 (by rfl)
        replace y49 : x49 = .bool true := y49
        subst y49
        obtain ⟨x55, e55, y55⟩ := hdeps ⟨7, .data⟩ (by simp) (by rfl) 55 (by rfl)
        replace y55 : x55 = (Value.slice (some ⟨Bt, 0, none⟩) 256 256) := y55
        subst y55
        obtain ⟨x59, e59, y59⟩ := hdeps ⟨11, .data⟩ (by simp) (by rfl) 59 (by rfl)
        obtain ⟨g59, y59, z59, c59⟩ := (y59 : IsS _ x59 W)
        subst y59
        clear hsame hdeps
        refine ⟨wanted_guard (j := 1) (b := true) (t := 49) (by rfl) (by rfl) e49, fun K hK => ?_⟩
        go_simp
        refine (CA.out _ _ hS c59).mono ?_
        rintro r w' ⟨rfl, rfl⟩
        exact hK _ _ (by rfl) hS (fun _ _ h => h)
      · intro act W hS hsame hdeps
        obtain ⟨x49, e49, y49⟩ := hdeps ⟨1, .guard⟩ (by simp) (by rfl) 49 (by rfl)
        replace y49 : x49 = .bool true := y49
        subst y49
        have e11 : act.tmps[11]? = some (Value.slice (some ⟨Bt, 0, none⟩) 256 256) := hsame 11 (by kernel_rfl)
        clear hsame hdeps
        refine ⟨wanted_guard (j := 1) (b := true) (t := 49) (by rfl) (by rfl) e49, fun K hK => ?_⟩
        go_simp
        exact hK _ _ (by rfl) hS (fun _ _ h => h)
      · intro act W hS hsame hdeps
        obtain ⟨x49, e49, y49⟩ := hdeps ⟨1, .guard⟩ (by simp) (by rfl) 49 (by rfl)
        replace y49 : x49 = .bool true := y49
        subst y49
        have e1 : act.tmps[1]? = some (.string b) := hsame 1 (by kernel_rfl)
        clear hsame hdeps
        refine ⟨wanted_guard (j := 1) (b := true) (t := 49) (by rfl) (by rfl) e49, fun K hK => ?_⟩
        go_simp
        exact hK _ _ (by rfl) hS (fun _ _ h => h)
      · intro act W hS hsame hdeps
        obtain ⟨x49, e49, y49⟩ := hdeps ⟨1, .guard⟩ (by simp) (by rfl) 49 (by rfl)
        replace y49 : x49 = .bool true := y49
        subst y49
        have e8 : act.tmps[8]? = some (.int .i64 k) := hsame 8 (by kernel_rfl)
        clear hsame hdeps
        refine ⟨wanted_guard (j := 1) (b := true) (t := 49) (by rfl) (by rfl) e49, fun K hK => ?_⟩
        go_simp
        exact hK _ _ (by rfl) hS (fun _ _ h => h)
      · intro act W hS hsame hdeps
        obtain ⟨x49, e49, y49⟩ := hdeps ⟨1, .guard⟩ (by simp) (by rfl) 49 (by rfl)
        replace y49 : x49 = .bool true := y49
        subst y49
        obtain ⟨x62, e62, y62⟩ := hdeps ⟨14, .data⟩ (by simp) (by rfl) 62 (by rfl)
        replace y62 : x62 = .string b := y62
        subst y62
        obtain ⟨x63, e63, y63⟩ := hdeps ⟨15, .data⟩ (by simp) (by rfl) 63 (by rfl)
        replace y63 : x63 = .int .i64 k := y63
        subst y63
        clear hsame hdeps
        refine ⟨wanted_guard (j := 1) (b := true) (t := 49) (by rfl) (by rfl) e49, fun K hK => ?_⟩
        go_simp
        exact hK _ _ (by rfl) hS (fun _ _ h => h)
      · intro act W hS hsame hdeps
        obtain ⟨x49, e49, y49⟩ := hdeps ⟨1, .guard⟩ (by simp) (by rfl) 49 (by rfl)
        replace y49 : x49 = .bool true := y49
        subst y49
        obtain ⟨x64, e64, y64⟩ := hdeps ⟨16, .data⟩ (by simp) (by rfl) 64 (by rfl)
        replace y64 : x64 = .string (b.extract 0 k) := y64
        subst y64
        clear hsame hdeps
        refine ⟨wanted_guard (j := 1) (b := true) (t := 49) (by rfl) (by rfl) e49, fun K hK => ?_⟩
        go_simp
        exact hK _ _ (isS_new _ _ W) (HK.out _ _ hS) (fun j u h => vl_alloc _ h)
      · intro act W hS hsame hdeps
        obtain ⟨x49, e49, y49⟩ := hdeps ⟨1, .guard⟩ (by simp) (by rfl) 49 (by rfl)
        replace y49 : x49 = .bool true := y49
        subst y49
        obtain ⟨x61, e61, y61⟩ := hdeps ⟨13, .data⟩ (by simp) (by rfl) 61 (by rfl)
        replace y61 : x61 = (Value.slice (some ⟨Bt, 0, none⟩) 256 256) := y61
        subst y61
        obtain ⟨x65, e65, y65⟩ := hdeps ⟨17, .data⟩ (by simp) (by rfl) 65 (by rfl)
        obtain ⟨g65, y65, z65, c65⟩ := (y65 : IsS _ x65 W)
        subst y65
        clear hsame hdeps
        refine ⟨wanted_guard (j := 1) (b := true) (t := 49) (by rfl) (by rfl) e49, fun K hK => ?_⟩
        go_simp
        refine (CB.out _ _ hS c65).mono ?_
        rintro r w' ⟨rfl, rfl⟩
        exact hK _ _ (by rfl) hS (fun _ _ h => h)
      · intro act W hS hsame hdeps
        obtain ⟨x49, e49, y49⟩ := hdeps ⟨1, .guard⟩ (by simp) (by rfl) 49 (by rfl)
        replace y49 : x49 = .bool true := y49
        subst y49
        obtain ⟨x60, e60, y60⟩ := hdeps ⟨12, .data⟩ (by simp) (by rfl) 60 (by rfl)
        replace y60 : x60 = .int .i64 SA := y60
        subst y60
        obtain ⟨x66, e66, y66⟩ := hdeps ⟨18, .data⟩ (by simp) (by rfl) 66 (by rfl)
        replace y66 : x66 = .int .i64 SB := y66
        subst y66
        clear hsame hdeps
        refine ⟨wanted_guard (j := 1) (b := true) (t := 49) (by rfl) (by rfl) e49, fun K hK => ?_⟩
        go_simp
        exact hK _ _ (by rfl) hS (fun _ _ h => h)
      · intro act W hS hsame hdeps
        obtain ⟨x49, e49, y49⟩ := hdeps ⟨1, .guard⟩ (by simp) (by rfl) 49 (by rfl)
        replace y49 : x49 = .bool true := y49
        subst y49
        have e11 : act.tmps[11]? = some (Value.slice (some ⟨Bt, 0, none⟩) 256 256) := hsame 11 (by kernel_rfl)
        clear hsame hdeps
        refine ⟨wanted_guard (j := 1) (b := true) (t := 49) (by rfl) (by rfl) e49, fun K hK => ?_⟩
        go_simp
        exact hK _ _ (by rfl) hS (fun _ _ h => h)
      · intro act W hS hsame hdeps
        obtain ⟨x49, e49, y49⟩ := hdeps ⟨1, .guard⟩ (by simp) (by rfl) 49 (by rfl)
        replace y49 : x49 = .bool true := y49
        subst y49
        have e2 : act.tmps[2]? = some (.string c) := hsame 2 (by kernel_rfl)
        clear hsame hdeps
        refine ⟨wanted_guard (j := 1) (b := true) (t := 49) (by rfl) (by rfl) e49, fun K hK => ?_⟩
        go_simp
        exact hK _ _ (by rfl) hS (fun _ _ h => h)
      · intro act W hS hsame hdeps
        obtain ⟨x49, e49, y49⟩ := hdeps ⟨1, .guard⟩ (by simp) (by rfl) 49 (by rfl)
        replace y49 : x49 = .bool true := y49
        subst y49
        have e8 : act.tmps[8]? = some (.int .i64 k) := hsame 8 (by kernel_rfl)
        clear hsame hdeps
        refine ⟨wanted_guard (j := 1) (b := true) (t := 49) (by rfl) (by rfl) e49, fun K hK => ?_⟩
        go_simp
        exact hK _ _ (by rfl) hS (fun _ _ h => h)
      · intro act W hS hsame hdeps
        obtain ⟨x49, e49, y49⟩ := hdeps ⟨1, .guard⟩ (by simp) (by rfl) 49 (by rfl)
        replace y49 : x49 = .bool true := y49
        subst y49
        obtain ⟨x69, e69, y69⟩ := hdeps ⟨21, .data⟩ (by simp) (by rfl) 69 (by rfl)
        replace y69 : x69 = .string c := y69
        subst y69
        obtain ⟨x70, e70, y70⟩ := hdeps ⟨22, .data⟩ (by simp) (by rfl) 70 (by rfl)
        replace y70 : x70 = .int .i64 k := y70
        subst y70
        clear hsame hdeps
        refine ⟨wanted_guard (j := 1) (b := true) (t := 49) (by rfl) (by rfl) e49, fun K hK => ?_⟩
        go_simp
        exact hK _ _ (by rfl) hS (fun _ _ h => h)
      · intro act W hS hsame hdeps
        obtain ⟨x49, e49, y49⟩ := hdeps ⟨1, .guard⟩ (by simp) (by rfl) 49 (by rfl)
        replace y49 : x49 = .bool true := y49
        subst y49
        obtain ⟨x71, e71, y71⟩ := hdeps ⟨23, .data⟩ (by simp) (by rfl) 71 (by rfl)
        replace y71 : x71 = .string (c.extract 0 k) := y71
        subst y71
        clear hsame hdeps
        refine ⟨wanted_guard (j := 1) (b := true) (t := 49) (by rfl) (by rfl) e49, fun K hK => ?_⟩
        go_simp
        exact hK _ _ (isS_new _ _ W) (HK.out _ _ hS) (fun j u h => vl_alloc _ h)
      · intro act W hS hsame hdeps
        obtain ⟨x49, e49, y49⟩ := hdeps ⟨1, .guard⟩ (by simp) (by rfl) 49 (by rfl)
        replace y49 : x49 = .bool true := y49
        subst y49
        obtain ⟨x68, e68, y68⟩ := hdeps ⟨20, .data⟩ (by simp) (by rfl) 68 (by rfl)
        replace y68 : x68 = (Value.slice (some ⟨Bt, 0, none⟩) 256 256) := y68
        subst y68
        obtain ⟨x72, e72, y72⟩ := hdeps ⟨24, .data⟩ (by simp) (by rfl) 72 (by rfl)
        obtain ⟨g72, y72, z72, c72⟩ := (y72 : IsS _ x72 W)
        subst y72
        clear hsame hdeps
        refine ⟨wanted_guard (j := 1) (b := true) (t := 49) (by rfl) (by rfl) e49, fun K hK => ?_⟩
        go_simp
        refine (CC.out _ _ hS c72).mono ?_
        rintro r w' ⟨rfl, rfl⟩
        exact hK _ _ (by rfl) hS (fun _ _ h => h)
      · intro act W hS hsame hdeps
        obtain ⟨x49, e49, y49⟩ := hdeps ⟨1, .guard⟩ (by simp) (by rfl) 49 (by rfl)
        replace y49 : x49 = .bool true := y49
        subst y49
        obtain ⟨x67, e67, y67⟩ := hdeps ⟨19, .data⟩ (by simp) (by rfl) 67 (by rfl)
        replace y67 : x67 = .int .i64 SAB := y67
        subst y67
        obtain ⟨x73, e73, y73⟩ := hdeps ⟨25, .data⟩ (by simp) (by rfl) 73 (by rfl)
        replace y73 : x73 = .int .i64 SC := y73
        subst y73
        clear hsame hdeps
        refine ⟨wanted_guard (j := 1) (b := true) (t := 49) (by rfl) (by rfl) e49, fun K hK => ?_⟩
        go_simp
        exact hK _ _ (by rfl) hS (fun _ _ h => h)
      · intro act W hS hsame hdeps
        obtain ⟨x49, e49, y49⟩ := hdeps ⟨1, .guard⟩ (by simp) (by rfl) 49 (by rfl)
        replace y49 : x49 = .bool true := y49
        subst y49
        obtain ⟨x54, e54, y54⟩ := hdeps ⟨6, .data⟩ (by simp) (by rfl) 54 (by rfl)
        replace y54 : x54 = .int .i64 SD := y54
        subst y54
        obtain ⟨x74, e74, y74⟩ := hdeps ⟨26, .data⟩ (by simp) (by rfl) 74 (by rfl)
        replace y74 : x74 = .int .i64 SD := y74
        subst y74
        clear hsame hdeps
        refine ⟨wanted_guard (j := 1) (b := true) (t := 49) (by rfl) (by rfl) e49, fun K hK => ?_⟩
        go_simp
        exact hK _ _ (by rfl) hS (fun _ _ h => h)
      · intro act W hS hsame hdeps
        obtain ⟨x49, e49, y49⟩ := hdeps ⟨1, .data⟩ (by simp) (by rfl) 49 (by rfl)
        replace y49 : x49 = .bool true := y49
        subst y49
        obtain ⟨x75, e75, y75⟩ := hdeps ⟨27, .data⟩ (by simp) (by rfl) 75 (by rfl)
        replace y75 : x75 = .bool true := y75
        subst y75
        clear hsame hdeps
        refine ⟨wanted_none (by rfl), fun K hK => ?_⟩
        go_simp
        exact hK _ _ (by rfl) hS (fun _ _ h => h)
      · intro act W hS hsame hdeps
        obtain ⟨x76, e76, y76⟩ := hdeps ⟨28, .data⟩ (by simp) (by rfl) 76 (by rfl)
        replace y76 : x76 = .bool true := y76
        subst y76
        clear hsame hdeps
        refine ⟨wanted_none (by rfl), fun K hK => ?_⟩
        go_simp
        exact hK _ _ (by rfl) hS (fun _ _ h => h)
      · intro act W hS hd hz hsame hdone
        obtain ⟨x6, e6, y6⟩ := hdone 29 6 (by rfl)
        replace y6 : x6 = .bool true := y6
        subst y6
        have fin := FIN.out W hS
        clear hsame hdone hS hz
        obtain ⟨tm, df⟩ := act
        obtain rfl : df = [] := hd
        replace e6 : tm[6]? = some (.bool true) := e6
        go_wp2_with fail
        go_ret
        refine ⟨?_, fin⟩
        show Ending.returned (tm.getD 6 undef) = _
        rw [Array.getD_eq_getD_getElem?, e6]
        rfl

set_option maxRecDepth 100000 in
theorem lifted (os : Os) (started : os.Started) (H : Type) (enc : TypeId × Value → H) :
    ReturnsInHanded {} Try.checked os 7 .any (Rows.crcsLinearSpec.pre6 enc Try.prog Try.f7 Rows.crcsLinearRow.domain false) (Rows.crcsLinearSpec.post enc Try.prog Try.f7 false true false false) := by
  refine returnsInHanded_of_change (C := Try.checked) own started (by kernel_rfl) Try.func7
    (ChangeSpec.witness6 (enc := enc) (C := Try.checked) false ⟨#[], #[.string ByteArray.empty, .string ByteArray.empty, .string ByteArray.empty], []⟩ 8 (by kernel_rfl) (by kernel_rfl) (by kernel_rfl) (by kernel_rfl)) ?_
  intro W base args ds gs before hval0 hW hcnd _
  have hval : ∀ (j : Nat) t v, Try.f7.params[j]? = some t → args[j]? = some v → Value.okWide Try.prog W .any base t v := hval0
  have hW' := hW
  obtain ⟨p, q, hA0, hV, rfl, hfz, hnd⟩ := hW
  have hA : DataW.TrodAll enc Try.prog W 0 (fun _ => true) true Try.f7.params.toList args.toList ds p := hA0
  rw [Try.params7] at hA hval
  obtain ⟨v0, vs0, d0, ds0, p0, q0, hargs, rfl, rfl, h0, r0⟩ := trodAll_cons hA
  obtain ⟨v1, vs1, d1, ds1, p1, q1, rfl, rfl, rfl, h1, r1⟩ := trodAll_cons r0
  obtain ⟨v2, vs2, d2, ds2, p2, q2, rfl, rfl, rfl, h2, r2⟩ := trodAll_cons r1
  obtain ⟨rfl, rfl, rfl⟩ := trodAll_nil r2
  obtain rfl : args = #[v0, v1, v2] := by cases args; simp_all
  obtain ⟨rfl, rfl⟩ := trodVars_none hV
  have k0 := h0
  have lt0 : ∀ x ∈ p0, x.block < W.heap.size := by obtain ⟨m, hm⟩ := k0; exact DataW.trod_lt m _ _ _ hm
  obtain ⟨a0, rfl, rfl, rfl, w0⟩ := open_string Try.underlying9 (hval 0 9 v0 rfl rfl) h0
  have k1 := h1
  have lt1 : ∀ x ∈ p1, x.block < W.heap.size := by obtain ⟨m, hm⟩ := k1; exact DataW.trod_lt m _ _ _ hm
  obtain ⟨a1, rfl, rfl, rfl, w1⟩ := open_string Try.underlying9 (hval 1 9 v1 rfl rfl) h1
  have k2 := h2
  have lt2 : ∀ x ∈ p2, x.block < W.heap.size := by obtain ⟨m, hm⟩ := k2; exact DataW.trod_lt m _ _ _ hm
  obtain ⟨a2, rfl, rfl, rfl, w2⟩ := open_string Try.underlying9 (hval 2 9 v2 rfl rfl) h2
  clear hA0 hval0
  refine (walk a0 a1 a2 w0 w1 w2 W).mono fun e W' ⟨he, bel⟩ => ?_
  subst he
  exact ⟨_, rfl, _, _, _, [], _, [], hW', trodAll_mk1 (shut_bool Try.underlying4 _), (trodAll_cons_mk (Below.trod laidOut (by kernel_rfl) (of_decide_eq_true (by kernel_rfl)) k0 bel lt0) (trodAll_cons_mk (Below.trod laidOut (by kernel_rfl) (of_decide_eq_true (by kernel_rfl)) k1 bel lt1) (trodAll_cons_mk (Below.trod laidOut (by kernel_rfl) (of_decide_eq_true (by kernel_rfl)) k2 bel lt2) trodAll_mk0))), rfl, bel.frame _, fun h => by cases h⟩

theorem over : Rows.crcsLinearRow.holds Try.pinned (OpenSpec.ofChange Rows.crcsLinearSpec) :=
  OpenClaim.holds_of_wide 7 Try.f7 rfl rfl rfl rfl rfl rfl rfl ⟨rfl, rfl, rfl, rfl, rfl⟩ rfl rfl rfl rfl rfl (by kernel_rfl) Try.func7 (by kernel_rfl)
    (of_decide_eq_true (by kernel_rfl)) (by unfold Func.isWrapper; first | (rw [if_pos (by decide +kernel)]; kernel_rfl) | (rw [if_neg (by decide +kernel)]; exact ⟨rfl, rfl⟩))
    (fun os started H enc _ => lifted os started H enc)

theorem proved : Rows.CrcsLinearSaid := over
end Go.Proofs.Ytkpnpldjhgpaiaa.crcsLinear
