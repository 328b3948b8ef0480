/-
  Contracts of the reference of layer 13 (format): a format's bytes.
-/
import Derived.Test.YtkpmmfbheghocaaFmtRefQ
import Derived.Test.YtkpmmfbheghocaaOctRef
namespace Go.Proofs.Ytkpmmfbheghocaa.Fmt
open Go.ChangeShapes Go.WideShapes Go.ChangeAt Go.RowKit RegVal Oct
set_option linter.unusedVariables false
set_option maxRecDepth 100000

def flagI (b : Bool) : Int := if b then 1 else 0
theorem refFlag_any (b : Bool) (w : World) :
    Calls Try.prog 43 #[.bool b] w fun e w' => e = .returned (.int .i64 (flagI b)) ∧ w = w' := by
  cases b with
  | true =>
    go_enter Try.func43, Try.ntmps43
    go_wp2_with fail
    go_ret
    exact ⟨rfl, rfl⟩
  | false =>
    go_enter Try.func43, Try.ntmps43
    go_wp2_with fail
    go_ret
    exact ⟨rfl, rfl⟩
/-- A format's numbers in their order, and how many bytes each has. -/
def sizeI (i : Nat) : Int := if 4 ≤ i ∧ i ≤ 6 then 2 else 1
def Fm.nums (f : Fm) : List Int := [f.B, f.D, flagI f.big, flagI f.tr, f.rm, f.gm, f.bm, f.rs, f.gs, f.bs]
def Fm.num (f : Fm) (i : Nat) : Int := f.nums.getD i 0
def Fm.cat (f : Fm) : Nat → ByteArray
  | 0 => ⟨#[]⟩
  | n + 1 => f.cat n ++ putS (sizeI n) (f.num n)
def Fm.fits (f : Fm) : Nat → Bool
  | 0 => true
  | n + 1 => f.fits n && okB (sizeI n) (f.num n)
/-- Sixteen bytes. -/
def Fm.bytes (f : Fm) : ByteArray := if f.fits 10 then f.cat 10 ++ ⟨#[0, 0, 0]⟩ else ⟨#[]⟩
theorem fits_less {f : Fm} {n m : Nat} (h : f.fits m = true) (hn : n ≤ m) : f.fits n = true := by
  induction m with
  | zero =>
    have : n = 0 := by omega
    rw [this]; rfl
  | succ m ih =>
    unfold Fm.fits at h
    rw [Bool.and_eq_true] at h
    rcases Nat.lt_or_ge n (m + 1) with h1 | h1
    · exact ih h.1 (by omega)
    · rw [show n = m + 1 by omega]
      unfold Fm.fits
      rw [Bool.and_eq_true]
      exact h
theorem putS_size4 (s n : Int) : (putS s n).size ≤ 4 := by
  show (if okB s n then beL s.toNat n else []).toArray.size ≤ 4
  by_cases h : okB s n = true
  · have := sizeB_cases (okB_parts h).1
    rw [if_pos h, List.size_toArray, beL_length]; omega
  · rw [if_neg h]; simp
theorem cat_size (f : Fm) (n : Nat) : (f.cat n).size ≤ 4 * n := by
  induction n with
  | zero => exact Nat.le_refl _
  | succ n ih =>
    have := putS_size4 (sizeI n) (f.num n)
    unfold Fm.cat
    rw [ByteArray.size_append]
    omega

/-- What the operations of the first region leave. -/
def byV (f : Fm) (b s : Nat) : Nat → Value
  | 0 => .pointer (some ⟨b, 0, none⟩)
  | 1 => .int .i64 f.B
  | 2 => .pointer (some ⟨b, 1, none⟩)
  | 3 => .int .i64 f.D
  | 4 => .pointer (some ⟨b, 2, none⟩)
  | 5 => .bool f.big
  | 6 => .int .i64 (flagI f.big)
  | 7 => .pointer (some ⟨b, 3, none⟩)
  | 8 => .bool f.tr
  | 9 => .int .i64 (flagI f.tr)
  | 10 => .pointer (some ⟨b, 4, none⟩)
  | 11 => .int .i64 f.rm
  | 12 => .pointer (some ⟨b, 5, none⟩)
  | 13 => .int .i64 f.gm
  | 14 => .pointer (some ⟨b, 6, none⟩)
  | 15 => .int .i64 f.bm
  | 16 => .pointer (some ⟨b, 7, none⟩)
  | 17 => .int .i64 f.rs
  | 18 => .pointer (some ⟨b, 8, none⟩)
  | 19 => .int .i64 f.gs
  | 20 => .pointer (some ⟨b, 9, none⟩)
  | 21 => .int .i64 f.bs
  | 22 => .slice (some ⟨s, 0, none⟩) 10 10
  | 23 => .slice (some ⟨s, 0, none⟩) 10 10
  | _ => undef
set_option maxHeartbeats 2000000 in
theorem refBytes_any (f : Fm) (hf : f.Wf) (w : World) :
    Calls Try.prog 14 #[f.v] w fun e w' => e = .returned (.string f.bytes) ∧ Below w.heap.size w w' := by
  have AT := FmAt.box f w 23
  have bel := (Below.refl w.heap.size w).alloc (Nat.le_refl _) (.cells #[.int .i64 f.B, .int .i64 f.D, .bool f.big, .bool f.tr, .int .i64 f.rm, .int .i64 f.gm, .int .i64 f.bm, .int .i64 f.rs, .int .i64 f.gs, .int .i64 f.bs] 23)
  have hsz : (w.alloc (.cells #[.int .i64 f.B, .int .i64 f.D, .bool f.big, .bool f.tr, .int .i64 f.rm, .int .i64 f.gm, .int .i64 f.bm, .int .i64 f.rs, .int .i64 f.gs, .int .i64 f.bs] 23)).heap.size = w.heap.size + 1 := alloc_size _ _
  obtain ⟨w1, hw1⟩ : ∃ w1, w.alloc (.cells #[.int .i64 f.B, .int .i64 f.D, .bool f.big, .bool f.tr, .int .i64 f.rm, .int .i64 f.gm, .int .i64 f.bm, .int .i64 f.rs, .int .i64 f.gs, .int .i64 f.bs] 23) = w1 := ⟨_, rfl⟩
  rw [hw1] at AT bel hsz
  have HA := Lib.hid (fun W (hW : Below w1.heap.size w1 W) => AT.below hW (by omega))
  have BY : RowKit.Hid (f.bytes = if f.fits 10 then f.cat 10 ++ ⟨#[0, 0, 0]⟩ else ⟨#[]⟩) := Lib.hid rfl
  have NUM : RowKit.Hid (∀ i, i < 10 → f.nums[i]? = some (f.num i)) := Lib.hid (fun i hi => by
    unfold Fm.num
    rw [List.getD_eq_getElem?_getD, List.getElem?_eq_getElem (show i < f.nums.length from hi)]
    rfl)
  unfold Fm.v
  clear AT hsz
  go_enter Try.func14, Try.ntmps14
  go_wp2_with fail
  refine region_alls (by kernel_rfl) (byV f w.heap.size w1.heap.size) (fun ℓ W => Below w1.heap.size w1 W ∧ (ℓ 22 = false → W.heap.size = w1.heap.size) ∧ (ℓ 22 = true → ∀ i, i < 10 → W.cell? ⟨w1.heap.size, i, none⟩ = some (.int .i64 (f.num i)))) [1] [none, none, none, some 23, none, none, none, none, none, some 0, some 1, some 2, some 3, some 4, some 5, some 6, some 7, some 8, some 9, some 10, some 11, some 12, some 13, some 14, some 15, some 16, some 17, some 18, some 19, some 20, some 21, some 22, none, none, none, none, none, none, none, none, none, none, none, none, none, none, none, none, none, none, none, none, none, none, none, none, none, none, none, none] (by kernel_rfl) (by kernel_rfl) (by rfl) (by kernel_rfl) (by kernel_rfl) (by kernel_rfl) ⟨(Below.refl _ _).drew, fun _ => rfl, fun h => by cases h⟩ ⟨?_, ?_, ?_, ?_, ?_, ?_, ?_, ?_, ?_, ?_, ?_, ?_, ?_, ?_, ?_, ?_, ?_, ?_, ?_, ?_, ?_, ?_, ?_, ?_, trivial⟩ ?_
  case refine_25 =>
    intro ℓ W hall hS
    have hc := Lib.hid (hS.2.2 (hall 22 (by decide)))
    have hB := Lib.hid hS.1
    have hlt : w1.heap.size < W.heap.size := World.block_lt_of_cell? W _ (hS.2.2 (hall 22 (by decide)) 0 (by decide))
    have bel2 := Lib.hid (bel.trans (hS.1.mono bel.size))
    clear hS hall HA bel
    generalize w1.heap.size = g at *
    simp only [zipF, byV]
    go_wp2_with fail
    go_loopw [4, 5] (fun s i wr => ∃ n : Nat, n ≤ 10 ∧ i = .int .i64 (n : Nat) ∧ s = .string (f.cat n) ∧ RowKit.Hid (f.fits n = true) ∧ Below W.heap.size W wr) (fun _ i _ => 10 - (intOf i).toNat)
    case atStart => exact ⟨0, by omega, rfl, rfl, rfl, Below.refl _ _⟩
    case round =>
      obtain ⟨n, hn, rfl, rfl, hfit, hbr⟩ := hrel
      by_cases h10 : n < 10
      · have hcell : wr.cell? ⟨g, n, none⟩ = some (.int .i64 (f.num n)) := (hbr.cell (p := ⟨g, n, none⟩) hlt).trans (hc.out n h10)
        have hsz := cat_size f n
        have hps := putS_size4 (sizeI n) (f.num n)
        have hB2 := Lib.hid hbr
        have HS : sizeI n = if 4 ≤ n ∧ n ≤ 6 then 2 else 1 := rfl
        have PUT := Lib.hid (refPut_any (sizeI n) (f.num n) wr)
        have HC : RowKit.Hid (f.cat (n + 1) = f.cat n ++ putS (sizeI n) (f.num n)) := Lib.hid rfl
        have HF : RowKit.Hid (f.fits (n + 1) = (f.fits n && okB (sizeI n) (f.num n))) := Lib.hid rfl
        have HE : RowKit.Hid (putE (sizeI n) (f.num n) = if okB (sizeI n) (f.num n) = true then 0 else 1) := Lib.hid rfl
        clear hbr hB hc
        generalize f.cat n = C at *
        generalize putS (sizeI n) (f.num n) = T at *
        generalize putE (sizeI n) (f.num n) = E at *
        generalize okB (sizeI n) (f.num n) = OKN at *
        generalize f.num n = X at *
        by_cases h4 : 4 ≤ n
        · have d4 : decide (4 ≤ n) = true := decide_eq_true h4
          have d4' : decide ((4 : Int) ≤ n) = true := decide_eq_true (by omega)
          by_cases h6 : n ≤ 6
          · have d6 : decide (n ≤ 6) = true := decide_eq_true h6
            have d6' : decide ((n : Int) ≤ 6) = true := decide_eq_true (by omega)
            rw [if_pos ⟨h4, h6⟩] at HS
            rw [HS] at PUT
            clear HS
            go_wp2_with fail
            refine PUT.out.mono ?_
            rintro r w4 ⟨rfl, b4⟩
            have hB4 := Lib.hid (hB2.out.trans (b4.mono hB2.out.size))
            clear PUT b4 hcell hlt
            cases OKN with
            | true =>
              obtain rfl : E = 0 := by have := HE.out; simpa using this
              go_wp2_with fail
              refine ⟨⟨n + 1, by omega, by go_num, ?_, ?_, hB4.out⟩, by simp [intOf]; omega⟩
              · rw [HC.out]
              · exact Lib.hid (by rw [HF.out, hfit.out]; rfl)
            | false =>
              obtain rfl : E = 1 := by have := HE.out; simpa using this
              have hb := BY.out
              have hno : ¬ f.fits 10 = true := fun h => by
                have h2 := fits_less h (show n + 1 ≤ 10 by omega)
                rw [HF.out, Bool.and_false] at h2
                exact absurd h2 (by simp)
              rw [if_neg hno] at hb
              have HBB := Lib.hid hb
              clear hb BY HC HF HE
              go_wp2_with fail
              go_ret
              exact ⟨by rw [HBB.out]; rfl, bel2.out.trans (hB4.out.mono bel2.out.size)⟩
          · have d6 : decide (n ≤ 6) = false := decide_eq_false h6
            have d6' : decide ((n : Int) ≤ 6) = false := decide_eq_false (by omega)
            rw [if_neg (by omega)] at HS
            rw [HS] at PUT
            clear HS
            go_wp2_with fail
            refine PUT.out.mono ?_
            rintro r w4 ⟨rfl, b4⟩
            have hB4 := Lib.hid (hB2.out.trans (b4.mono hB2.out.size))
            clear PUT b4 hcell hlt
            cases OKN with
            | true =>
              obtain rfl : E = 0 := by have := HE.out; simpa using this
              go_wp2_with fail
              refine ⟨⟨n + 1, by omega, by go_num, ?_, ?_, hB4.out⟩, by simp [intOf]; omega⟩
              · rw [HC.out]
              · exact Lib.hid (by rw [HF.out, hfit.out]; rfl)
            | false =>
              obtain rfl : E = 1 := by have := HE.out; simpa using this
              have hb := BY.out
              have hno : ¬ f.fits 10 = true := fun h => by
                have h2 := fits_less h (show n + 1 ≤ 10 by omega)
                rw [HF.out, Bool.and_false] at h2
                exact absurd h2 (by simp)
              rw [if_neg hno] at hb
              have HBB := Lib.hid hb
              clear hb BY HC HF HE
              go_wp2_with fail
              go_ret
              exact ⟨by rw [HBB.out]; rfl, bel2.out.trans (hB4.out.mono bel2.out.size)⟩
        · have d4 : decide (4 ≤ n) = false := decide_eq_false h4
          have d4' : decide ((4 : Int) ≤ n) = false := decide_eq_false (by omega)
          rw [if_neg (by omega)] at HS
          rw [HS] at PUT
          clear HS
          go_wp2_with fail
          refine PUT.out.mono ?_
          rintro r w4 ⟨rfl, b4⟩
          have hB4 := Lib.hid (hB2.out.trans (b4.mono hB2.out.size))
          clear PUT b4 hcell hlt
          cases OKN with
          | true =>
            obtain rfl : E = 0 := by have := HE.out; simpa using this
            go_wp2_with fail
            refine ⟨⟨n + 1, by omega, by go_num, ?_, ?_, hB4.out⟩, by simp [intOf]; omega⟩
            · rw [HC.out]
            · exact Lib.hid (by rw [HF.out, hfit.out]; rfl)
          | false =>
            obtain rfl : E = 1 := by have := HE.out; simpa using this
            have hb := BY.out
            have hno : ¬ f.fits 10 = true := fun h => by
              have h2 := fits_less h (show n + 1 ≤ 10 by omega)
              rw [HF.out, Bool.and_false] at h2
              exact absurd h2 (by simp)
            rw [if_neg hno] at hb
            have HBB := Lib.hid hb
            clear hb BY HC HF HE
            go_wp2_with fail
            go_ret
            exact ⟨by rw [HBB.out]; rfl, bel2.out.trans (hB4.out.mono bel2.out.size)⟩
      · obtain rfl : n = 10 := by omega
        have hB2 := Lib.hid (bel2.out.trans (hbr.mono bel2.out.size))
        have hsz := cat_size f 10
        have hb := BY.out
        rw [hfit.out, if_pos rfl] at hb
        have HBB := Lib.hid hb
        clear hbr hb hc BY
        generalize f.cat 10 = C at *
        go_wp2_with fail
        go_ret
        exact ⟨by rw [HBB.out]; rfl, hB2.out⟩
  case refine_23 =>
    intro ℓ act W hl hS hw hr hd
    obtain ⟨hS1, hS2, hS3⟩ := hS
    have hz := hS2 hl
    clear hw
    simp [readFacts, depFacts, dstOf, Region.binds, byV] at hr hd
    refine ⟨wanted_none (by rfl), fun K hK => ?_⟩
    go_simp
    refine hK _ ⟨hS1.alloc hS1.size _, fun h => by simp at h, fun _ i hi => ?_⟩
    rw [← hz]
    refine (box1 W _ _).2 i _ ?_
    obtain rfl | rfl | rfl | rfl | rfl | rfl | rfl | rfl | rfl | rfl : i = 0 ∨ i = 1 ∨ i = 2 ∨ i = 3 ∨ i = 4 ∨ i = 5 ∨ i = 6 ∨ i = 7 ∨ i = 8 ∨ i = 9 := by omega
    all_goals rfl
  all_goals
    intro ℓ act W hl hS hw hr hd
    obtain ⟨hS1, hS2, hS3⟩ := hS
    obtain ⟨d0, d1, d2, d3, d4, d5, d6, d7, d8, d9⟩ := HA.out W hS1
    clear hw
    simp [readFacts, depFacts, dstOf, Region.binds, byV] at hr hd
    refine ⟨by first | exact wanted_none (by rfl) | exact wanted_guard (by rfl) (by rfl) (by assumption), fun K hK => ?_⟩
    go_simp
    first
      | exact hK _ ⟨hS1, fun h => hS2 (by simpa using h), fun h => hS3 (by simpa using h)⟩
      | (refine (refFlag_any _ _).mono ?_
         rintro r w' ⟨rfl, rfl⟩
         exact hK _ ⟨hS1, fun h => hS2 (by simpa using h), fun h => hS3 (by simpa using h)⟩)
end Go.Proofs.Ytkpmmfbheghocaa.Fmt
