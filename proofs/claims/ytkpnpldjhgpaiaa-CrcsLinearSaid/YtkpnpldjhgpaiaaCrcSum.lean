/-
  Contracts of crcs.More and crcs.Sum and of the reference.
-/
import Derived.Test.YtkpnpldjhgpaiaaCrcBase
namespace Go.Proofs.Ytkpnpldjhgpaiaa.Crc
open Go.ChangeShapes Go.WideShapes Go.ChangeAt Go.RowKit
set_option linter.unusedVariables false

theorem whole_tab (a : Option Addr) (c : Nat) (w : World) :
    Calls Try.prog 16 #[.slice a 256 c] w fun e w' => e = .returned (.slice a 256 c) ∧ w = w' := by
  go_enter Try.func16, Try.ntmps16
  go_wp2_with fail
  go_ret
  exact ⟨rfl, rfl⟩

theorem whole_none (a : Option Addr) (n c : Nat) (hn : n ≤ 100) (w : World) :
    Calls Try.prog 16 #[.slice a n c] w fun e w' => e = .returned (.slice (some ⟨w.heap.size, 0, none⟩) 256 256) ∧ Below w.heap.size w w' ∧ TabAt w' w.heap.size ∧ w.heap.size < w'.heap.size := by
  have C1 := Lib.hid (make_any w)
  have h1 : ((n : Int) == 256) = false := by simp; omega
  have h2 : (n == 256) = false := by simp; omega
  go_enter Try.func16, Try.ntmps16
  go_wp2_with fail
  refine C1.out.mono ?_
  rintro r w' ⟨rfl, b1, t1, z1⟩
  go_wp2_with fail
  go_ret
  exact ⟨rfl, b1, t1, z1⟩

/-- The round's numbers. -/
theorem bst_parts (x : Nat) (hx : x < 4294967296) (b : UInt8) : ∃ j T : Nat, j < 256 ∧ sts 8 j = T ∧ T < 4294967296 ∧
    bits .xor .u8 ((x : Int) % 256) (b.toNat : Int) = (j : Int) ∧ bits .xor .u32 (T : Int) ((x : Int) / 256) = (bst x b : Nat) := by
  have hb := b.toNat_lt
  refine ⟨(x ^^^ b.toNat) % 256, sts 8 ((x ^^^ b.toNat) % 256), Nat.mod_lt _ (by decide), rfl, sts_lt _ _ (by omega), ?_, ?_⟩
  · have h := u8_xor (x % 256) b.toNat (by omega) (by omega)
    have e : (x ^^^ b.toNat) % 2 ^ 8 = x % 2 ^ 8 ^^^ b.toNat % 2 ^ 8 := Nat.xor_mod_two_pow
    have e2 : b.toNat % 2 ^ 8 = b.toNat := Nat.mod_eq_of_lt hb
    rw [e2] at e
    have e3 : (x ^^^ b.toNat) % 256 = x % 256 ^^^ b.toNat := e
    rw [e3, ← h]
    rfl
  · have h := u32_xor (sts 8 ((x ^^^ b.toNat) % 256)) (x / 256) (sts_lt _ _ (by omega)) (by omega)
    exact h

set_option maxRecDepth 10000 in
set_option maxHeartbeats 1000000 in
theorem more_of (v : Value) (b : Nat) (c : Int) (t : ByteArray) (w : World) (Q : World → Prop) (ht : t.size ≤ 1000000)
    (hw : Calls Try.prog 16 #[v] w fun e w' => e = .returned (.slice (some ⟨b, 0, none⟩) 256 256) ∧ Q w')
    (hQ : ∀ w', Q w' → TabAt w' b) :
    Calls Try.prog 12 #[v, .int .i64 c, .string t] w fun e w' => e = .returned (.int .i64 (moreV c t.data.toList : Nat)) ∧ Q w' := by
  unfold moreV
  have l0 := low_lt c
  have l1 := low_int c
  generalize low c = z at *
  have C1 := Lib.hid hw
  have HQ := Lib.hid hQ
  clear hw hQ
  go_enter Try.func12, Try.ntmps12
  go_wp2_with fail
  refine C1.out.mono ?_
  rintro r w' ⟨rfl, q⟩
  have HT := Lib.hid (HQ.out w' q)
  have Q1 := Lib.hid q
  clear C1 HQ q
  go_wp2_with fail
  go_loop [7, 15] (fun x i => ∃ k : Nat, k ≤ t.size ∧ i = .int .i64 k ∧ x = .int .u32 (crc z (t.data.toList.take k) : Nat)) (fun _ i => t.size - (intOf i).toNat)
  case atStart => exact ⟨0, Nat.zero_le _, rfl, by rw [← l1]; rfl⟩
  case round =>
    obtain ⟨k, hk, rfl, rfl⟩ := hrel
    clear l1
    have hb := crc_lt (t.data.toList.take k) z l0
    by_cases hlt : k < t.size
    · have e1 := Lib.hid (crc_step z t.data.toList k (by simpa using hlt) t[k] (by simp; rfl))
      generalize crc z (t.data.toList.take k) = x at *
      obtain ⟨j, T, hj, hT, hT2, hx1, hx2⟩ := bst_parts x hb t[k]
      have hc := HT.out j hj
      rw [hT] at hc
      have hT3 : (T : Int) % 4294967296 = T := by omega
      clear hT
      go_wp2_with fail
      refine ⟨⟨k + 1, by omega, by go_num, ?_⟩, ?_⟩
      · rw [e1.out]
      · simp [intOf]; omega
    · obtain rfl : k = t.size := by omega
      have e : t.data.toList.take t.size = t.data.toList := List.take_of_length_le (by simp)
      rw [e] at hb ⊢
      obtain ⟨x, hx⟩ : ∃ x, crc z t.data.toList = x := ⟨_, rfl⟩
      rw [hx] at hb ⊢
      have HX := Lib.hid hx
      clear hx
      go_wp2_with fail
      go_ret
      exact ⟨by rw [HX.out]; rfl, Q1.out⟩

theorem more_tab (b : Nat) (c : Int) (t : ByteArray) (w : World) (hT : TabAt w b) (ht : t.size ≤ 1000000) :
    Calls Try.prog 12 #[.slice (some ⟨b, 0, none⟩) 256 256, .int .i64 c, .string t] w fun e w' => e = .returned (.int .i64 (moreV c t.data.toList : Nat)) ∧ w = w' :=
  more_of _ b c t w (fun w' => w = w') ht (whole_tab _ _ _) (by rintro w' rfl; exact hT)

theorem more_none (a : Option Addr) (n cap : Nat) (c : Int) (t : ByteArray) (w : World) (hn : n ≤ 100) (ht : t.size ≤ 1000000) :
    Calls Try.prog 12 #[.slice a n cap, .int .i64 c, .string t] w fun e w' => e = .returned (.int .i64 (moreV c t.data.toList : Nat)) ∧ Below w.heap.size w w' ∧ TabAt w' w.heap.size ∧ w.heap.size < w'.heap.size :=
  more_of _ w.heap.size c t w (fun w' => Below w.heap.size w w' ∧ TabAt w' w.heap.size ∧ w.heap.size < w'.heap.size) ht (whole_none a n cap hn w) (fun w' h => h.2.1)

/-- The sum of parts, before its bits are turned round. -/
def partsV (ts : List ByteArray) : Nat := ts.foldl (fun (s : Nat) t => moreV s t.data.toList) 4294967295
/-- The sum of parts. -/
def sumV (ts : List ByteArray) : Nat := partsV ts ^^^ 4294967295

theorem partsV_step (ts : List ByteArray) (k : Nat) (h : k < ts.length) : partsV (ts.take (k + 1)) = moreV (partsV (ts.take k)) ts[k].data.toList := by
  unfold partsV
  rw [List.take_succ_eq_append_getElem h, List.foldl_append]; rfl
theorem partsV_lt (ts : List ByteArray) : partsV ts < 4294967296 := by
  rcases List.eq_nil_or_concat ts with rfl | ⟨l, t, rfl⟩
  · decide
  · unfold partsV; rw [List.concat_eq_append, List.foldl_append]; exact moreV_lt _ _
theorem sumV_lt (ts : List ByteArray) : sumV ts < 4294967296 := xor_lt _ _ (partsV_lt ts) (by decide)

set_option maxRecDepth 10000 in
set_option maxHeartbeats 1000000 in
theorem sum_of (v : Value) (b : Nat) (ts : List ByteArray) (a : Addr) (n c : Nat) (w : World) (Q : World → Prop) (hn : ts.length = n) (hl : n ≤ 1000)
    (hw : Calls Try.prog 16 #[v] w fun e w' => e = .returned (.slice (some ⟨b, 0, none⟩) 256 256) ∧ Q w')
    (hQ : ∀ w', Q w' → TabAt w' b) (hc : ∀ w', Q w' → ∀ j (h : j < ts.length), w'.cell? (a.add j) = some (.string ts[j])) (hz : ∀ t ∈ ts, t.size ≤ 1000000) :
    Calls Try.prog 13 #[v, .slice (some a) n c] w fun e w' => e = .returned (.int .i64 (sumV ts : Nat)) ∧ Q w' := by
  have C1 := Lib.hid hw
  have HQ := Lib.hid hQ
  have HC := Lib.hid hc
  clear hw hQ hc
  go_enter Try.func13, Try.ntmps13
  go_wp2_with fail
  refine C1.out.mono ?_
  rintro r w' ⟨rfl, q⟩
  have HT := Lib.hid (HQ.out w' q)
  have HC2 := Lib.hid (HC.out w' q)
  have Q1 := Lib.hid q
  clear C1 HQ HC q
  go_wp2_with fail
  go_loop [5, 12] (fun x i => ∃ k : Nat, k ≤ n ∧ i = .int .i64 k ∧ x = .int .i64 (partsV (ts.take k) : Nat)) (fun _ i => n - (intOf i).toNat)
  case atStart => exact ⟨0, Nat.zero_le _, rfl, rfl⟩
  case round =>
    obtain ⟨k, hk, rfl, rfl⟩ := hrel
    by_cases hlt : k < n
    · have hcc := HC2.out k (by omega)
      have hzz := hz ts[k] (List.getElem_mem _)
      have e1 := Lib.hid (partsV_step ts k (by omega))
      generalize partsV (ts.take k) = A at *
      generalize ts[k] = t at *
      go_wp2_with fail
      refine (more_tab _ _ _ _ HT.out hzz).mono ?_
      rintro r w'' ⟨rfl, rfl⟩
      go_wp2_with fail
      refine ⟨⟨k + 1, by omega, by go_num, ?_⟩, ?_⟩
      · rw [e1.out]
      · simp [intOf]; omega
    · obtain rfl : k = n := by omega
      have hx : bits .xor .i64 ((partsV (ts.take k) : Nat) : Int) 4294967295 = (sumV ts : Nat) := by
        rw [List.take_of_length_le (by omega)]
        exact i64_xor _ 4294967295 (partsV_lt ts) (by decide)
      go_wp2_with fail
      go_ret
      exact ⟨rfl, Q1.out⟩

theorem new_cell (ts : List ByteArray) (T : TypeId) (w : World) (j : Nat) (h : j < ts.length) :
    (w.alloc (.cells (ts.map Value.string).toArray T)).cell? ((⟨w.heap.size, 0, none⟩ : Addr).add j) = some (.string ts[j]) := by
  rw [Oct.addr_add]
  have hb : (w.alloc (.cells (ts.map Value.string).toArray T)).heap[w.heap.size]? = some (.cells (ts.map Value.string).toArray T (0, 0)) := heap_alloc_new _ _
  unfold World.cell?
  rw [hb]
  simp [h]

theorem TabAt.alloc {w : World} {b : Nat} (h : TabAt w b) (hb : b < w.heap.size) (o : Obj) : TabAt (w.alloc o) b :=
  h.below ((Below.refl w.heap.size w).alloc (Nat.le_refl _) o) hb

theorem sum_new (b : Nat) (ts : List ByteArray) (n : Nat) (T : TypeId) (w : World) (hT : TabAt w b) (hb : b < w.heap.size) (hn : ts.length = n) (hl : n ≤ 1000) (hz : ∀ t ∈ ts, t.size ≤ 1000000) (o : Array Value) (ho : o = (ts.map Value.string).toArray) :
    Calls Try.prog 13 #[.slice (some ⟨b, 0, none⟩) 256 256, .slice (some ⟨w.heap.size, 0, none⟩) n n] (w.alloc (.cells o T)) fun e w' => e = .returned (.int .i64 (sumV ts : Nat)) ∧ w.alloc (.cells o T) = w' := by
  subst ho
  refine sum_of _ b ts _ n n _ (fun w' => w.alloc (.cells (ts.map Value.string).toArray T) = w') hn hl (whole_tab _ _ _) ?_ ?_ hz
  · rintro w' rfl; exact hT.alloc hb _
  · rintro w' rfl j h; exact new_cell ts T w j h

theorem sum_new_none (a : Option Addr) (m cap : Nat) (hm : m ≤ 100) (ts : List ByteArray) (n : Nat) (T : TypeId) (w W : World) (hn : ts.length = n) (hl : n ≤ 1000) (hz : ∀ t ∈ ts, t.size ≤ 1000000) (o : Array Value) (ho : o = (ts.map Value.string).toArray) (hW : W = w.alloc (.cells o T)) :
    Calls Try.prog 13 #[.slice a m cap, .slice (some ⟨w.heap.size, 0, none⟩) n n] W fun e w' => e = .returned (.int .i64 (sumV ts : Nat)) ∧ Below W.heap.size W w' := by
  subst ho hW
  refine (sum_of _ _ ts _ n n _ (fun w' => Below (w.alloc (.cells (ts.map Value.string).toArray T)).heap.size (w.alloc (.cells (ts.map Value.string).toArray T)) w' ∧ TabAt w' (w.alloc (.cells (ts.map Value.string).toArray T)).heap.size ∧ (w.alloc (.cells (ts.map Value.string).toArray T)).heap.size < w'.heap.size) hn hl (whole_none a m cap hm _) (fun w' h => h.2.1) ?_ hz).mono ?_
  · rintro w' ⟨h1, _, _⟩ j h
    rw [h1.cell (by rw [Oct.addr_add]; simp)]
    exact new_cell ts T w j h
  · rintro e w' ⟨h1, h2, _⟩
    exact ⟨h1, h2⟩

theorem sum_at (b g : Nat) (t : ByteArray) (w : World) (hT : TabAt w b) (ht : t.size ≤ 1000000) (hc : w.cell? ⟨g, 0, none⟩ = some (.string t)) :
    Calls Try.prog 13 #[.slice (some ⟨b, 0, none⟩) 256 256, .slice (some ⟨g, 0, none⟩) 1 1] w fun e w' => e = .returned (.int .i64 (sumV [t] : Nat)) ∧ w = w' := by
  refine sum_of _ b [t] _ 1 1 _ (fun w' => w = w') rfl (by decide) (whole_tab _ _ _) ?_ ?_ (by simp only [List.mem_singleton]; rintro t rfl; exact ht)
  · rintro w' rfl; exact hT
  · rintro w' rfl j h
    obtain rfl : j = 0 := by simp at h; exact h
    rw [Oct.addr_add]; exact hc

theorem sum_nil (b : Nat) (w : World) :
    Calls Try.prog 13 #[.slice (some ⟨b, 0, none⟩) 256 256, .slice none 0 0] w fun e w' => e = .returned (.int .i64 0) ∧ w = w' := by
  have C1 := Lib.hid (whole_tab (some ⟨b, 0, none⟩) 256 w)
  have hx : bits .xor .i64 4294967295 4294967295 = 0 := by decide
  go_enter Try.func13, Try.ntmps13
  go_wp2_with fail
  refine C1.out.mono ?_
  rintro r w' ⟨rfl, rfl⟩
  go_wp2_with fail
  refine wp_loop_rounds 1 ?_
  rw [rounds_succ]
  go_wp2_with fail
  go_ret
  exact ⟨rfl, rfl⟩

set_option maxHeartbeats 1000000 in
theorem byte_any (n : Nat) (w : World) (hn : n < 4294967296) :
    Calls Try.prog 10 #[.int .i64 n] w fun e w' => e = .returned (.int .i64 (sts 8 n : Nat)) ∧ w = w' := by
  go_enter Try.func10, Try.ntmps10
  go_wp2_with fail
  go_loop [0, 3] (fun x i => ∃ k : Nat, k ≤ 8 ∧ i = .int .i64 k ∧ x = .int .i64 (sts k n : Nat)) (fun _ i => 8 - (intOf i).toNat)
  case atStart => exact ⟨0, Nat.zero_le _, rfl, rfl⟩
  case round =>
    obtain ⟨k, hk, rfl, rfl⟩ := hrel
    have hb := sts_lt k n hn
    have hs : sts (k + 1) n = st (sts k n) := rfl
    have HS := Lib.hid hs
    clear hs
    by_cases hlt : k < 8
    · generalize sts k n = x at *
      by_cases ho : x % 2 = 1
      · have hx := i64_xor (x / 2) 3988292384 (by omega) (by omega)
        have hm : (x : Int) % 2 = 1 := by omega
        go_wp2_with fail
        refine ⟨⟨k + 1, by omega, by go_num, ?_⟩, ?_⟩
        · rw [HS.out, st_odd x ho, ← hx]; rfl
        · simp [intOf]; omega
      · have ho2 : (x : Int) % 2 = 0 := by omega
        go_wp2_with fail
        refine ⟨⟨k + 1, by omega, by go_num, ?_⟩, ?_⟩
        · rw [HS.out, st_even x ho]; rfl
        · simp [intOf]; omega
    · obtain rfl : k = 8 := by omega
      go_wp2_with fail
      go_ret
      exact ⟨rfl, rfl⟩

end Go.Proofs.Ytkpnpldjhgpaiaa.Crc
