/-
  Contracts of the program's layer 13 (format): numbers as bytes, and back.
-/
import Derived.Test.YtbdlmcpdplmdnaaFmtPrgC
namespace Go.Proofs.Ytbdlmcpdplmdnaa.Fmt
open Go.ChangeShapes Go.WideShapes Go.ChangeAt Go.RowKit RegVal Oct
set_option linter.unusedVariables false
set_option maxRecDepth 100000

theorem byt_cong {x y : Int} {i : Nat} (h : x / 2 ^ (8 * i) % 256 = y / 2 ^ (8 * i) % 256) : byt x i = byt y i := by unfold byt; rw [h]
theorem leL_cong {n : Nat} (hn : n ≤ 4) {x y : Int} (h : x % 2 ^ (8 * n) = y % 2 ^ (8 * n)) : leL n x = leL n y := by
  unfold leL
  apply List.map_congr_left
  intro i hi
  rw [List.mem_range] at hi
  have hc : n = 0 ∨ n = 1 ∨ n = 2 ∨ n = 3 ∨ n = 4 := by omega
  have ic : i = 0 ∨ i = 1 ∨ i = 2 ∨ i = 3 := by omega
  apply byt_cong
  rcases hc with rfl | rfl | rfl | rfl | rfl <;> rcases ic with rfl | rfl | rfl | rfl <;> first | omega | (simp at h ⊢; omega)
theorem putL_cong (big : Bool) {n : Nat} (hn : n ≤ 4) {x y : Int} (h : x % 2 ^ (8 * n) = y % 2 ^ (8 * n)) : putL big n x = putL big n y := by
  unfold putL beL
  rw [leL_cong hn h]
theorem mod_bd (v : Int) {n : Nat} (hn : n ≤ 4) : 0 ≤ v % 2 ^ (8 * n) ∧ v % 2 ^ (8 * n) < 4294967296 := by
  have hc : n = 0 ∨ n = 1 ∨ n = 2 ∨ n = 3 ∨ n = 4 := by omega
  rcases hc with rfl | rfl | rfl | rfl | rfl <;> simp <;> omega
theorem put_wide (v : Int) {n : Nat} (hn : n ≤ 4) :
    (putS 4 (v % 2 ^ (8 * n))).extract (4 - n) 4 = ⟨(putL true n v).toArray⟩ ∧ (litS 4 (v % 2 ^ (8 * n))).extract 0 n = ⟨(putL false n v).toArray⟩ ∧ (putS 4 (v % 2 ^ (8 * n))).size = 4 ∧ (litS 4 (v % 2 ^ (8 * n))).size = 4 := by
  obtain ⟨h0, h1⟩ := mod_bd v hn
  have hM : v % 2 ^ (8 * n) % 2 ^ (8 * n) = v % 2 ^ (8 * n) := Int.emod_emod _ _
  rw [← putL_cong true hn hM, ← putL_cong false hn hM]
  generalize v % 2 ^ (8 * n) = M at *
  have e1 : putS 4 M = ⟨#[byt M 3, byt M 2, byt M 1, byt M 0]⟩ := by unfold putS; rw [if_pos (ok4 h0 h1)]; rfl
  have e2 : litS 4 M = ⟨#[byt M 0, byt M 1, byt M 2, byt M 3]⟩ := by unfold litS; rw [if_pos (ok4 h0 h1)]; rfl
  rw [e1, e2]
  have hc : n = 0 ∨ n = 1 ∨ n = 2 ∨ n = 3 ∨ n = 4 := by omega
  rcases hc with rfl | rfl | rfl | rfl | rfl <;> exact ⟨rfl, rfl, rfl, rfl⟩

set_option maxHeartbeats 1000000 in
theorem write_any (big : Bool) (n : Nat) (hn : n ≤ 4) (v : Int) (w : World) :
    Calls Try.prog 61 #[.bool big, .int .i64 n, .int .i64 v] w fun e w' => e = .returned (.string ⟨(putL big n v).toArray⟩) ∧ Below w.heap.size w w' := by
  obtain ⟨h1, h2, h3, h4⟩ := put_wide v hn
  have hm := Bit.i64_mask v (8 * n) (by omega)
  have PT := Lib.hid (fun w => put_any 4 (v % 2 ^ (8 * n)) w)
  have LT := Lib.hid (fun w => little_any 4 (v % 2 ^ (8 * n)) w)
  have hp : 2 ^ (8 * n) ≤ 2 ^ 32 := Nat.pow_le_pow_right (by decide) (by omega)
  have hp1 : 1 ≤ 2 ^ (8 * n) := Nat.one_le_two_pow
  have e32 : (2 : Nat) ^ 32 = 4294967296 := by decide
  rw [e32] at hp
  have hP : (2 : Int) ^ (8 * n) = (2 ^ (8 * n) : Nat) := by simp
  obtain ⟨P, hPP⟩ : ∃ P : Nat, 2 ^ (8 * n) = P := ⟨_, rfl⟩
  rw [hPP] at hp hp1 hP
  obtain ⟨M, hM⟩ : ∃ M, v % 2 ^ (8 * n) = M := ⟨_, rfl⟩
  have hMP : v % (P : Int) = M := by rw [← hM, hP]
  rw [hM] at h1 h2 h3 h4 PT LT
  rw [hM, hP] at hm
  clear hM
  generalize putS 4 M = TB at *
  generalize litS 4 M = TL at *
  generalize putE 4 M = E at *
  obtain ⟨e, he⟩ : ∃ e, 8 * n = e := ⟨_, rfl⟩
  have hei : (8 : Int) * n = e := by omega
  rw [he] at hP
  have hw1 : IntKind.i64.wrap (P : Nat) = (P : Nat) := IntWalk.i64_in _ (by omega)
  have hw2 : IntKind.i64.wrap ((P : Int) - 1) = (P : Int) - 1 := IntWalk.i64_in _ (by omega)
  have hw3 : wrap64 (P : Nat) = (P : Nat) := IntWalk.wrap64_in _ (by omega)
  have he32 : e ≤ 32 := by omega
  obtain ⟨k, hk⟩ : ∃ k, 4 - n = k := ⟨_, rfl⟩
  have hki : (4 : Int) - n = k := by omega
  have hk4 : k ≤ 4 := by omega
  rw [hk] at h1
  have H1 := Lib.hid h1
  have H2 := Lib.hid h2
  clear hPP he hk h1 h2
  cases big with
  | true =>
    go_enter Try.func61, Try.ntmps61
    go_wp2_with fail
    refine (PT.out _).mono ?_
    rintro r w1 ⟨rfl, b1⟩
    have B1 := Lib.hid b1
    clear b1 PT LT
    go_wp2_with fail
    go_ret
    exact ⟨by rw [H1.out]; rfl, B1.out⟩
  | false =>
    go_enter Try.func61, Try.ntmps61
    go_wp2_with fail
    refine (LT.out _).mono ?_
    rintro r w1 ⟨rfl, b1⟩
    have B1 := Lib.hid b1
    clear b1 PT LT
    go_wp2_with fail
    go_ret
    exact ⟨by rw [H2.out]; rfl, B1.out⟩

/-- What is read. -/
def rdI (big : Bool) (n : Nat) (t : ByteArray) : Int := if n = 0 ∨ t.size < n then 0 else getL big (t.data.toList.take n)
def rdE (n : Nat) (t : ByteArray) : Int := if n = 0 then 130 else if t.size < n then 2 else 0
theorem valL_zeros (l : List UInt8) (k : Nat) : valL (l ++ List.replicate k 0) = valL l := by
  induction k with
  | zero => simp
  | succ k ih =>
    rw [List.replicate_succ', ← List.append_assoc, valL_snoc, ih]
    simp
theorem whole4 {t : ByteArray} (h : t.size = 4) : intV t 0 0 4 = valL t.data.toList.reverse ∧ litV t 0 0 4 = valL t.data.toList := by
  have hs : sizeB 4 = true := by decide
  have he : byE t 0 0 4 = 0 := by unfold byE; rw [h]; rfl
  have hb : byS t 0 0 4 = t := by
    unfold byS
    rw [if_pos he]
    apply ByteArray.ext
    rw [ByteArray.data_extract]
    have : t.data.size = 4 := h
    show t.data.extract 0 4 = t.data
    rw [← this, Array.extract_size]
  unfold intV litV
  rw [if_pos hs, if_pos hs, hb]
  exact ⟨rfl, rfl⟩
theorem zeros_list {n : Nat} (hn : n ≤ 4) : ((⟨#[0, 0, 0, 0]⟩ : ByteArray).extract n 4).data.toList = List.replicate (4 - n) 0 ∧ ((⟨#[0, 0, 0, 0]⟩ : ByteArray).extract n 4).size = 4 - n := by
  have hc : n = 0 ∨ n = 1 ∨ n = 2 ∨ n = 3 ∨ n = 4 := by omega
  rcases hc with rfl | rfl | rfl | rfl | rfl <;> exact ⟨rfl, rfl⟩
theorem get_wide {t : ByteArray} {n : Nat} (hn : n ≤ 4) (ht : n ≤ t.size) :
    ((⟨#[0, 0, 0, 0]⟩ : ByteArray).extract n 4 ++ t.extract 0 n).size = 4 ∧ (t.extract 0 n ++ (⟨#[0, 0, 0, 0]⟩ : ByteArray).extract n 4).size = 4 ∧ intV ((⟨#[0, 0, 0, 0]⟩ : ByteArray).extract n 4 ++ t.extract 0 n) 0 0 4 = getL true (t.data.toList.take n) ∧ litV (t.extract 0 n ++ (⟨#[0, 0, 0, 0]⟩ : ByteArray).extract n 4) 0 0 4 = getL false (t.data.toList.take n) := by
  obtain ⟨z1, z2⟩ := zeros_list hn
  have hx : (t.extract 0 n).data.toList = t.data.toList.take n := by simp [ByteArray.data_extract]
  have hxs : (t.extract 0 n).size = n := by rw [ByteArray.size_extract]; omega
  have s1 : ((⟨#[0, 0, 0, 0]⟩ : ByteArray).extract n 4 ++ t.extract 0 n).size = 4 := by rw [ByteArray.size_append, z2, hxs]; omega
  have s2 : (t.extract 0 n ++ (⟨#[0, 0, 0, 0]⟩ : ByteArray).extract n 4).size = 4 := by rw [ByteArray.size_append, z2, hxs]; omega
  refine ⟨s1, s2, ?_, ?_⟩
  · rw [(whole4 s1).1, ByteArray.data_append, Array.toList_append, z1, hx, List.reverse_append, List.reverse_replicate, valL_zeros]
    rfl
  · rw [(whole4 s2).2, ByteArray.data_append, Array.toList_append, z1, hx, valL_zeros]
    rfl

set_option maxHeartbeats 1000000 in
theorem read_any (big : Bool) (n : Nat) (hn : n ≤ 4) (t : ByteArray) (ht : t.size ≤ 100000) (w : World) :
    Calls Try.prog 69 #[.bool big, .int .i64 n, .string t] w fun e w' => e = .returned (.tuple #[.int .i64 (rdI big n t), .int .i64 (rdE n t)]) ∧ Below w.heap.size w w' := by
  by_cases h0 : n = 0
  · subst h0
    have e1 : rdI big 0 t = 0 := by unfold rdI; rw [if_pos (.inl rfl)]
    have e2 : rdE 0 t = 130 := by unfold rdE; rw [if_pos rfl]
    rw [e1, e2]
    go_enter Try.func69, Try.ntmps69
    go_wp2_with fail
    go_ret2
    exact ⟨rfl, Below.refl _ _⟩
  have d0 : ((n : Int) == 0) = false := by simpa using h0
  by_cases h1 : t.size < n
  · have e1 : rdI big n t = 0 := by unfold rdI; rw [if_pos (.inr h1)]
    have e2 : rdE n t = 2 := by unfold rdE; rw [if_neg h0, if_pos h1]
    have d1 : decide (t.size < n) = true := decide_eq_true h1
    have d1' : decide ((t.size : Int) < n) = true := decide_eq_true (by omega)
    rw [e1, e2]
    go_enter Try.func69, Try.ntmps69
    go_wp2_with fail
    go_ret2
    exact ⟨rfl, Below.refl _ _⟩
  have d1 : decide (t.size < n) = false := decide_eq_false h1
  have d1' : decide ((t.size : Int) < n) = false := decide_eq_false (by omega)
  obtain ⟨s1, s2, v1, v2⟩ := get_wide hn (show n ≤ t.size by omega)
  have e1 : rdI big n t = getL big (t.data.toList.take n) := by unfold rdI; rw [if_neg (by omega)]
  have e2 : rdE n t = 0 := by unfold rdE; rw [if_neg h0, if_neg h1]
  rw [e2]
  have E1 := Lib.hid e1
  have V1 := Lib.hid v1
  have V2 := Lib.hid v2
  have z2 := (zeros_list hn).2
  have hz : ((⟨#[0, 0, 0, 0]⟩ : ByteArray).extract n 4).size ≤ 4 := by omega
  have hx : (t.extract 0 n).size ≤ 4 := by rw [ByteArray.size_extract]; omega
  have hnt : n ≤ t.size := by omega
  generalize rdI big n t = R at *
  clear e1 v1 v2 z2 h0 h1
  cases big with
  | true =>
    go_enter Try.func69, Try.ntmps69
    go_wp2_with fail
    generalize (⟨#[0, 0, 0, 0]⟩ : ByteArray).extract n 4 ++ t.extract 0 n = T at *
    refine (new_any T w).mono ?_
    rintro r w1 ⟨rfl, cu, b1⟩
    have B1 := Lib.hid b1
    have I := Lib.hid (int_any w.heap.size T 0 0 4 w1 cu (Int.le_refl 0) (by omega) (by omega))
    clear b1 cu V2
    go_wp2_with fail
    refine I.out.mono ?_
    rintro r w2 ⟨rfl, _, g2⟩
    have B2 := Lib.hid (below_grown B1.out g2 (Nat.le_refl _))
    clear g2 I
    go_wp2_with fail
    go_ret2
    exact ⟨by rw [V1.out, E1.out]; rfl, B2.out⟩
  | false =>
    go_enter Try.func69, Try.ntmps69
    go_wp2_with fail
    generalize t.extract 0 n ++ (⟨#[0, 0, 0, 0]⟩ : ByteArray).extract n 4 = T at *
    refine (new_any T w).mono ?_
    rintro r w1 ⟨rfl, cu, b1⟩
    have B1 := Lib.hid b1
    have I := Lib.hid (lit_any w.heap.size T 0 0 4 w1 cu (Int.le_refl 0) (by omega) (by omega))
    clear b1 cu V1
    go_wp2_with fail
    refine I.out.mono ?_
    rintro r w2 ⟨rfl, _, g2⟩
    have B2 := Lib.hid (below_grown B1.out g2 (Nat.le_refl _))
    clear g2 I
    go_wp2_with fail
    go_ret2
    exact ⟨by rw [V2.out, E1.out]; rfl, B2.out⟩

theorem size_le4 (f : Fm) : f.size ≤ 4 ∧ (f.ok = true → 1 ≤ f.size ∧ f.size = (f.B / 8).toNat) ∧ (f.ok = false → f.size = 0) := by
  unfold Fm.size
  cases hok : f.ok with
  | false => exact ⟨by simp, fun h => by simp at h, fun _ => rfl⟩
  | true =>
    obtain ⟨k, j, l, s, t, u, n, H⟩ := f.is hok
    have := H.B
    have := H.hn
    exact ⟨by simp; omega, fun _ => ⟨by simp; omega, by simp⟩, fun h => by simp at h⟩
theorem put_eq (f : Fm) (v : Int) : f.put v = ⟨(putL f.big f.size v).toArray⟩ := by
  obtain ⟨_, h1, h2⟩ := size_le4 f
  unfold Fm.put
  cases hok : f.ok with
  | false => rw [h2 hok]; cases f.big <;> rfl
  | true => rw [(h1 hok).2]; rfl
theorem get_eq (f : Fm) (t : ByteArray) : f.get t = rdI f.big f.size t ∧ f.getE t = rdE f.size t := by
  obtain ⟨_, h1, h2⟩ := size_le4 f
  unfold Fm.get Fm.getE rdI rdE
  cases hok : f.ok with
  | false => rw [h2 hok]; exact ⟨rfl, rfl⟩
  | true =>
    have h := (h1 hok).1
    have h0 : ¬ f.size = 0 := by omega
    by_cases ht : t.size < f.size
    · simp [h0, ht]
    · simp [h0, ht]
def ptV (F : Value) (big : Bool) (n : Nat) (v : Int) (s : ByteArray) (b : Nat) : Nat → Value
  | 0 => .pointer (some ⟨b, 2, none⟩)
  | 1 => .bool big
  | 2 => F
  | 3 => .int .i64 n
  | 4 => .int .i64 v
  | 5 => .string s
  | 6 => .string s
  | _ => undef
def gtV (F : Value) (big : Bool) (n : Nat) (t : ByteArray) (x e : Int) (b : Nat) : Nat → Value
  | 0 => .pointer (some ⟨b, 2, none⟩)
  | 1 => .bool big
  | 2 => F
  | 3 => .int .i64 n
  | 4 => .string t
  | 5 => .tuple #[.int .i64 x, .int .i64 e]
  | 6 => .int .i64 x
  | 7 => .int .i64 e
  | 8 => .int .i64 x
  | 9 => .int .i64 e
  | _ => undef
set_option maxHeartbeats 1000000 in
theorem fput_any (f : Fm) (hf : f.Wf) (v : Int) (hv : (Lit.int .i64 v).wf = true) (w : World) :
    Calls Try.prog 38 #[f.v, .int .i64 v] w fun e w' => e = .returned (.string (f.put v)) ∧ Below w.heap.size w w' := by
  have Z := Lib.hid (fun w => size_any f hf w)
  have W := Lib.hid (fun w => write_any f.big f.size (size_le4 f).1 v w)
  rw [← put_eq] at W
  generalize f.put v = S at *
  generalize f.size = N at *
  have AT := FmAt.box f w 23
  have bel := (Below.refl w.heap.size w).alloc (Nat.le_refl _) (.cells #[.int .i64 f.B, .int .i64 f.D, .bool f.big, .bool f.tr, .int .i64 f.rm, .int .i64 f.gm, .int .i64 f.bm, .int .i64 f.rs, .int .i64 f.gs, .int .i64 f.bs] 23)
  have hsz : (w.alloc (.cells #[.int .i64 f.B, .int .i64 f.D, .bool f.big, .bool f.tr, .int .i64 f.rm, .int .i64 f.gm, .int .i64 f.bm, .int .i64 f.rs, .int .i64 f.gs, .int .i64 f.bs] 23)).heap.size = w.heap.size + 1 := alloc_size _ _
  obtain ⟨w1, hw1⟩ : ∃ w1, w.alloc (.cells #[.int .i64 f.B, .int .i64 f.D, .bool f.big, .bool f.tr, .int .i64 f.rm, .int .i64 f.gm, .int .i64 f.bm, .int .i64 f.rs, .int .i64 f.gs, .int .i64 f.bs] 23) = w1 := ⟨_, rfl⟩
  rw [hw1] at AT bel hsz
  have HA := Lib.hid (fun W (hW : Below w1.heap.size w1 W) => AT.below hW (by omega))
  have HF : f.v = .agg #[.int .i64 f.B, .int .i64 f.D, .bool f.big, .bool f.tr, .int .i64 f.rm, .int .i64 f.gm, .int .i64 f.bm, .int .i64 f.rs, .int .i64 f.gs, .int .i64 f.bs] := rfl
  rw [HF] at Z ⊢
  clear AT HF hsz hf hv
  obtain ⟨B, D, big, tr, rm, gm, bm, rs, gs, bs⟩ := f
  simp only at *
  go_enter Try.func38, Try.ntmps38
  go_wp2_with fail
  refine region_all (by kernel_rfl) (ptV (.agg #[.int .i64 B, .int .i64 D, .bool big, .bool tr, .int .i64 rm, .int .i64 gm, .int .i64 bm, .int .i64 rs, .int .i64 gs, .int .i64 bs]) big N v S w.heap.size) (fun W => Below w1.heap.size w1 W) [1, 2] [none, none, none, none, some 6, some 0, some 1, some 2, some 3, some 4, some 5] (by kernel_rfl) (by kernel_rfl) (by rfl) (by kernel_rfl) (by kernel_rfl) (by kernel_rfl) ((Below.refl _ _).drew) ⟨?_, ?_, ?_, ?_, ?_, ?_, ?_, trivial⟩ ?_
  case refine_8 =>
    intro W hS
    simp only [zipF, ptV]
    go_wp2_with fail
    go_ret
    exact ⟨rfl, bel.trans (hS.mono bel.size)⟩
  all_goals
    intro ℓ act Wd hl hS hw hr hd
    obtain ⟨d0, d1, d2, d3, d4, d5, d6, d7, d8, d9⟩ := HA.out Wd hS
    dsimp only at d0 d1 d2 d3 d4 d5 d6 d7 d8 d9
    clear hw
    simp [readFacts, depFacts, dstOf, Region.binds, ptV] at hr hd
    refine ⟨by first | exact wanted_none (by rfl) | exact wanted_guard (by rfl) (by rfl) (by assumption), fun K hK => ?_⟩
    go_simp
    first
      | exact hK _ hS
      | (with_reducible refine (Z.out _).mono ?_
         rintro r w' ⟨rfl, b⟩
         exact hK _ (hS.trans (b.mono hS.size)))
      | (with_reducible refine (W.out _).mono ?_
         rintro r w' ⟨rfl, b⟩
         exact hK _ (hS.trans (b.mono hS.size)))
set_option maxHeartbeats 1000000 in
theorem fget_any (f : Fm) (hf : f.Wf) (t : ByteArray) (ht : t.size ≤ 100000) (w : World) :
    Calls Try.prog 52 #[f.v, .string t] w fun e w' => e = .returned (.tuple #[.int .i64 (f.get t), .int .i64 (f.getE t)]) ∧ Below w.heap.size w w' := by
  have Z := Lib.hid (fun w => size_any f hf w)
  have W := Lib.hid (fun w => read_any f.big f.size (size_le4 f).1 t ht w)
  rw [(get_eq f t).1, (get_eq f t).2]
  generalize rdI f.big f.size t = X at *
  generalize rdE f.size t = E at *
  generalize f.size = N at *
  have AT := FmAt.box f w 23
  have bel := (Below.refl w.heap.size w).alloc (Nat.le_refl _) (.cells #[.int .i64 f.B, .int .i64 f.D, .bool f.big, .bool f.tr, .int .i64 f.rm, .int .i64 f.gm, .int .i64 f.bm, .int .i64 f.rs, .int .i64 f.gs, .int .i64 f.bs] 23)
  have hsz : (w.alloc (.cells #[.int .i64 f.B, .int .i64 f.D, .bool f.big, .bool f.tr, .int .i64 f.rm, .int .i64 f.gm, .int .i64 f.bm, .int .i64 f.rs, .int .i64 f.gs, .int .i64 f.bs] 23)).heap.size = w.heap.size + 1 := alloc_size _ _
  obtain ⟨w1, hw1⟩ : ∃ w1, w.alloc (.cells #[.int .i64 f.B, .int .i64 f.D, .bool f.big, .bool f.tr, .int .i64 f.rm, .int .i64 f.gm, .int .i64 f.bm, .int .i64 f.rs, .int .i64 f.gs, .int .i64 f.bs] 23) = w1 := ⟨_, rfl⟩
  rw [hw1] at AT bel hsz
  have HA := Lib.hid (fun W (hW : Below w1.heap.size w1 W) => AT.below hW (by omega))
  have HF : f.v = .agg #[.int .i64 f.B, .int .i64 f.D, .bool f.big, .bool f.tr, .int .i64 f.rm, .int .i64 f.gm, .int .i64 f.bm, .int .i64 f.rs, .int .i64 f.gs, .int .i64 f.bs] := rfl
  rw [HF] at Z ⊢
  clear AT HF hsz hf ht
  obtain ⟨B, D, big, tr, rm, gm, bm, rs, gs, bs⟩ := f
  simp only at *
  go_enter Try.func52, Try.ntmps52
  go_wp2_with fail
  refine region_all (by kernel_rfl) (gtV (.agg #[.int .i64 B, .int .i64 D, .bool big, .bool tr, .int .i64 rm, .int .i64 gm, .int .i64 bm, .int .i64 rs, .int .i64 gs, .int .i64 bs]) big N t X E w.heap.size) (fun W => Below w1.heap.size w1 W) [1, 2] [none, none, none, none, some 8, some 9, some 0, some 1, some 2, some 3, some 4, some 5, some 6, some 7] (by kernel_rfl) (by kernel_rfl) (by rfl) (by kernel_rfl) (by kernel_rfl) (by kernel_rfl) ((Below.refl _ _).drew) ⟨?_, ?_, ?_, ?_, ?_, ?_, ?_, ?_, ?_, ?_, trivial⟩ ?_
  case refine_11 =>
    intro W hS
    simp only [zipF, gtV]
    go_wp2_with fail
    go_ret2
    exact ⟨rfl, bel.trans (hS.mono bel.size)⟩
  all_goals
    intro ℓ act Wd hl hS hw hr hd
    obtain ⟨d0, d1, d2, d3, d4, d5, d6, d7, d8, d9⟩ := HA.out Wd hS
    dsimp only at d0 d1 d2 d3 d4 d5 d6 d7 d8 d9
    clear hw
    simp [readFacts, depFacts, dstOf, Region.binds, gtV] at hr hd
    refine ⟨by first | exact wanted_none (by rfl) | exact wanted_guard (by rfl) (by rfl) (by assumption), fun K hK => ?_⟩
    go_simp
    first
      | exact hK _ hS
      | (with_reducible refine (Z.out _).mono ?_
         rintro r w' ⟨rfl, b⟩
         exact hK _ (hS.trans (b.mono hS.size)))
      | (with_reducible refine (W.out _).mono ?_
         rintro r w' ⟨rfl, b⟩
         exact hK _ (hS.trans (b.mono hS.size)))
end Go.Proofs.Ytbdlmcpdplmdnaa.Fmt
