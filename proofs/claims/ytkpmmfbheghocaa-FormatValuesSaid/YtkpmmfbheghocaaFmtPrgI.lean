/-
  Contracts of the program's layer 13 (format): a format's bytes.
-/
import Derived.Test.YtkpmmfbheghocaaFmtPrgH
namespace Go.Proofs.Ytkpmmfbheghocaa.Fmt
open Go.ChangeShapes Go.WideShapes Go.ChangeAt Go.RowKit RegVal Oct
set_option linter.unusedVariables false
set_option maxRecDepth 100000

theorem flag_any (b : Bool) (w : World) :
    Calls Try.prog 41 #[.bool b] w fun e w' => e = .returned (.int .i64 (flagI b)) ∧ w = w' := by
  cases b with
  | true =>
    go_enter Try.func41, Try.ntmps41
    go_wp2_with fail
    go_ret
    exact ⟨rfl, rfl⟩
  | false =>
    go_enter Try.func41, Try.ntmps41
    go_wp2_with fail
    go_ret
    exact ⟨rfl, rfl⟩
/-- A format's numbers, each with how many bytes it has. -/
def ten (a b c d e f g h i j : Int) : Value := .agg #[.int .i64 1, .int .i64 a, .int .i64 1, .int .i64 b, .int .i64 1, .int .i64 c, .int .i64 1, .int .i64 d, .int .i64 2, .int .i64 e, .int .i64 2, .int .i64 f, .int .i64 2, .int .i64 g, .int .i64 1, .int .i64 h, .int .i64 1, .int .i64 i, .int .i64 1, .int .i64 j]

theorem ten0 (a b c d e f g h i j : Int) (w : World) : (Instr.index 59 (ten a b c d e f g h i j) (.int .i64 0)).run Try.prog w = .ok (.agg #[.int .i64 1, .int .i64 a]) w := by kernel_rfl
theorem ten1 (a b c d e f g h i j : Int) (w : World) : (Instr.index 59 (ten a b c d e f g h i j) (.int .i64 1)).run Try.prog w = .ok (.agg #[.int .i64 1, .int .i64 b]) w := by kernel_rfl
theorem ten2 (a b c d e f g h i j : Int) (w : World) : (Instr.index 59 (ten a b c d e f g h i j) (.int .i64 2)).run Try.prog w = .ok (.agg #[.int .i64 1, .int .i64 c]) w := by kernel_rfl
theorem ten3 (a b c d e f g h i j : Int) (w : World) : (Instr.index 59 (ten a b c d e f g h i j) (.int .i64 3)).run Try.prog w = .ok (.agg #[.int .i64 1, .int .i64 d]) w := by kernel_rfl
theorem ten4 (a b c d e f g h i j : Int) (w : World) : (Instr.index 59 (ten a b c d e f g h i j) (.int .i64 4)).run Try.prog w = .ok (.agg #[.int .i64 2, .int .i64 e]) w := by kernel_rfl
theorem ten5 (a b c d e f g h i j : Int) (w : World) : (Instr.index 59 (ten a b c d e f g h i j) (.int .i64 5)).run Try.prog w = .ok (.agg #[.int .i64 2, .int .i64 f]) w := by kernel_rfl
theorem ten6 (a b c d e f g h i j : Int) (w : World) : (Instr.index 59 (ten a b c d e f g h i j) (.int .i64 6)).run Try.prog w = .ok (.agg #[.int .i64 2, .int .i64 g]) w := by kernel_rfl
theorem ten7 (a b c d e f g h i j : Int) (w : World) : (Instr.index 59 (ten a b c d e f g h i j) (.int .i64 7)).run Try.prog w = .ok (.agg #[.int .i64 1, .int .i64 h]) w := by kernel_rfl
theorem ten8 (a b c d e f g h i j : Int) (w : World) : (Instr.index 59 (ten a b c d e f g h i j) (.int .i64 8)).run Try.prog w = .ok (.agg #[.int .i64 1, .int .i64 i]) w := by kernel_rfl
theorem ten9 (a b c d e f g h i j : Int) (w : World) : (Instr.index 59 (ten a b c d e f g h i j) (.int .i64 9)).run Try.prog w = .ok (.agg #[.int .i64 1, .int .i64 j]) w := by kernel_rfl
theorem ten_ix (f : Fm) (n : Nat) (hn : n < 10) (w : World) : (Instr.index 59 (ten f.B f.D (flagI f.big) (flagI f.tr) f.rm f.gm f.bm f.rs f.gs f.bs) (.int .i64 (n : Nat))).run Try.prog w = .ok (.agg #[.int .i64 (sizeI n), .int .i64 (f.num n)]) w := by
  have h : n = 0 ∨ n = 1 ∨ n = 2 ∨ n = 3 ∨ n = 4 ∨ n = 5 ∨ n = 6 ∨ n = 7 ∨ n = 8 ∨ n = 9 := by omega
  rcases h with rfl | rfl | rfl | rfl | rfl | rfl | rfl | rfl | rfl | rfl
  · exact ten0 _ _ _ _ _ _ _ _ _ _ w
  · exact ten1 _ _ _ _ _ _ _ _ _ _ w
  · exact ten2 _ _ _ _ _ _ _ _ _ _ w
  · exact ten3 _ _ _ _ _ _ _ _ _ _ w
  · exact ten4 _ _ _ _ _ _ _ _ _ _ w
  · exact ten5 _ _ _ _ _ _ _ _ _ _ w
  · exact ten6 _ _ _ _ _ _ _ _ _ _ w
  · exact ten7 _ _ _ _ _ _ _ _ _ _ w
  · exact ten8 _ _ _ _ _ _ _ _ _ _ w
  · exact ten9 _ _ _ _ _ _ _ _ _ _ w
def tnV (f : Fm) (b : Nat) : Nat → Value
  | 0 => .pointer (some ⟨b, 0, none⟩)
  | 1 => .int .i64 f.B
  | 2 => .agg #[.int .i64 1, .int .i64 f.B]
  | 3 => .pointer (some ⟨b, 1, none⟩)
  | 4 => .int .i64 f.D
  | 5 => .agg #[.int .i64 1, .int .i64 f.D]
  | 6 => .pointer (some ⟨b, 2, none⟩)
  | 7 => .bool f.big
  | 8 => .int .i64 (flagI f.big)
  | 9 => .agg #[.int .i64 1, .int .i64 (flagI f.big)]
  | 10 => .pointer (some ⟨b, 3, none⟩)
  | 11 => .bool f.tr
  | 12 => .int .i64 (flagI f.tr)
  | 13 => .agg #[.int .i64 1, .int .i64 (flagI f.tr)]
  | 14 => .pointer (some ⟨b, 4, none⟩)
  | 15 => .int .i64 f.rm
  | 16 => .agg #[.int .i64 2, .int .i64 f.rm]
  | 17 => .pointer (some ⟨b, 5, none⟩)
  | 18 => .int .i64 f.gm
  | 19 => .agg #[.int .i64 2, .int .i64 f.gm]
  | 20 => .pointer (some ⟨b, 6, none⟩)
  | 21 => .int .i64 f.bm
  | 22 => .agg #[.int .i64 2, .int .i64 f.bm]
  | 23 => .pointer (some ⟨b, 7, none⟩)
  | 24 => .int .i64 f.rs
  | 25 => .agg #[.int .i64 1, .int .i64 f.rs]
  | 26 => .pointer (some ⟨b, 8, none⟩)
  | 27 => .int .i64 f.gs
  | 28 => .agg #[.int .i64 1, .int .i64 f.gs]
  | 29 => .pointer (some ⟨b, 9, none⟩)
  | 30 => .int .i64 f.bs
  | 31 => .agg #[.int .i64 1, .int .i64 f.bs]
  | 32 => ten f.B f.D (flagI f.big) (flagI f.tr) f.rm f.gm f.bm f.rs f.gs f.bs
  | 33 => .int .i64 0
  | _ => undef
set_option maxHeartbeats 4000000 in
theorem bytes_fmt (f : Fm) (hf : f.Wf) (w : World) :
    Calls Try.prog 13 #[f.v] w fun e w' => e = .returned (.string f.bytes) ∧ Below w.heap.size w w' := by
  have AT := FmAt.box f w 23
  have bel := (Below.refl w.heap.size w).alloc (Nat.le_refl _) (.cells #[.int .i64 f.B, .int .i64 f.D, .bool f.big, .bool f.tr, .int .i64 f.rm, .int .i64 f.gm, .int .i64 f.bm, .int .i64 f.rs, .int .i64 f.gs, .int .i64 f.bs] 23)
  have hsz : (w.alloc (.cells #[.int .i64 f.B, .int .i64 f.D, .bool f.big, .bool f.tr, .int .i64 f.rm, .int .i64 f.gm, .int .i64 f.bm, .int .i64 f.rs, .int .i64 f.gs, .int .i64 f.bs] 23)).heap.size = w.heap.size + 1 := alloc_size _ _
  obtain ⟨w1, hw1⟩ : ∃ w1, w.alloc (.cells #[.int .i64 f.B, .int .i64 f.D, .bool f.big, .bool f.tr, .int .i64 f.rm, .int .i64 f.gm, .int .i64 f.bm, .int .i64 f.rs, .int .i64 f.gs, .int .i64 f.bs] 23) = w1 := ⟨_, rfl⟩
  rw [hw1] at AT bel hsz
  have HA := Lib.hid (fun W (hW : Below w1.heap.size w1 W) => AT.below hW (by omega))
  have BY : RowKit.Hid (f.bytes = if f.fits 10 then f.cat 10 ++ ⟨#[0, 0, 0]⟩ else ⟨#[]⟩) := Lib.hid rfl
  have G1 := Lib.hid (fun w => flag_any f.big w)
  have G2 := Lib.hid (fun w => flag_any f.tr w)
  have HIX := Lib.hid (fun n hn w => ten_ix f n hn w)
  unfold Fm.v
  clear AT hsz hf
  go_enter Try.func13, Try.ntmps13
  go_wp2_with fail
  refine region_all (by kernel_rfl) (tnV f w.heap.size) (fun W => Below w1.heap.size w1 W) [1] [none, none, none, none, none, none, none, none, some 0, some 1, some 2, some 3, some 4, some 5, some 6, some 7, some 8, some 9, some 10, some 11, some 12, some 13, some 14, some 15, some 16, some 17, some 18, some 19, some 20, some 21, some 22, some 23, some 24, some 25, some 26, some 27, some 28, some 29, some 30, some 31, some 32, some 33, none, none, none, none, none, none, none, none, none, none, none, none, none, none, none, none, none, none] (by kernel_rfl) (by kernel_rfl) (by rfl) (by kernel_rfl) (by kernel_rfl) (by kernel_rfl) ((Below.refl _ _).drew) ⟨?_, ?_, ?_, ?_, ?_, ?_, ?_, ?_, ?_, ?_, ?_, ?_, ?_, ?_, ?_, ?_, ?_, ?_, ?_, ?_, ?_, ?_, ?_, ?_, ?_, ?_, ?_, ?_, ?_, ?_, ?_, ?_, ?_, ?_, trivial⟩ ?_
  case refine_35 =>
    intro W hS
    have bel2 := Lib.hid (bel.trans (hS.mono bel.size))
    clear hS HA bel G1 G2 hw1
    simp only [zipF, tnV]
    generalize ten f.B f.D (flagI f.big) (flagI f.tr) f.rm f.gm f.bm f.rs f.gs f.bs = TN at *
    go_wp2_with fail
    go_loopw [3, 41] (fun s i wr => ∃ n : Nat, n ≤ 10 ∧ i = .int .i64 (n : Nat) ∧ s = .string (f.cat n) ∧ RowKit.Hid (f.fits n = true) ∧ Below W.heap.size W wr) (fun _ i _ => 10 - (intOf i).toNat)
    case atStart => exact ⟨0, by omega, rfl, rfl, rfl, Below.refl _ _⟩
    case round =>
      obtain ⟨n, hn, rfl, rfl, hfit, hbr⟩ := hrel
      have hsz := cat_size f n
      by_cases h10 : n < 10
      · have hps := putS_size4 (sizeI n) (f.num n)
        have hB2 := Lib.hid hbr
        have hz := hbr.size
        have IX := HIX.out n h10
        have PUT := Lib.hid (fun w => put_any (sizeI n) (f.num n) w)
        have HC : RowKit.Hid (f.cat (n + 1) = f.cat n ++ putS (sizeI n) (f.num n)) := Lib.hid rfl
        have HF : RowKit.Hid (f.fits (n + 1) = (f.fits n && okB (sizeI n) (f.num n))) := Lib.hid rfl
        have HE : RowKit.Hid (putE (sizeI n) (f.num n) = if okB (sizeI n) (f.num n) = true then 0 else 1) := Lib.hid rfl
        clear hbr HIX
        generalize f.cat n = C at *
        generalize putS (sizeI n) (f.num n) = T at *
        generalize putE (sizeI n) (f.num n) = E at *
        generalize okB (sizeI n) (f.num n) = OKN at *
        generalize f.num n = X at *
        generalize sizeI n = SZ at *
        go_wp2_with fail
        refine (PUT.out _).mono ?_
        rintro r w4 ⟨rfl, b4⟩
        have hB4 := Lib.hid ((hB2.out.alloc hz _).trans (b4.mono (hB2.out.alloc hz _).size))
        clear PUT b4
        cases OKN with
        | true =>
          obtain rfl : E = 0 := by have := HE.out; simpa using this
          go_wp2_with fail
          refine ⟨⟨n + 1, by omega, by go_num, ?_, ?_, hB4.out⟩, by simp [intOf]; omega⟩
          · rw [HC.out]
          · exact Lib.hid (by rw [HF.out, hfit.out]; rfl)
        | false =>
          obtain rfl : E = 1 := by have := HE.out; simpa using this
          have hb := BY.out
          have hno : ¬ f.fits 10 = true := fun h => by
            have h2 := fits_less h (show n + 1 ≤ 10 by omega)
            rw [HF.out, Bool.and_false] at h2
            exact absurd h2 (by simp)
          rw [if_neg hno] at hb
          have HBB := Lib.hid hb
          clear hb BY HC HF HE
          go_wp2_with fail
          go_ret
          exact ⟨by rw [HBB.out]; rfl, bel2.out.trans (hB4.out.mono bel2.out.size)⟩
      · obtain rfl : n = 10 := by omega
        have hb := BY.out
        rw [if_pos hfit.out] at hb
        have HBB := Lib.hid hb
        have hB2 := Lib.hid hbr
        clear hb BY HIX hbr
        generalize f.cat 10 = C at *
        go_wp2_with fail
        go_ret
        exact ⟨by rw [HBB.out]; rfl, bel2.out.trans (hB2.out.mono bel2.out.size)⟩
  all_goals
    intro ℓ act Wd hl hS hw hr hd
    obtain ⟨d0, d1, d2, d3, d4, d5, d6, d7, d8, d9⟩ := HA.out Wd hS
    clear hw
    simp [readFacts, depFacts, dstOf, Region.binds, tnV] at hr hd
    refine ⟨by first | exact wanted_none (by rfl) | exact wanted_guard (by rfl) (by rfl) (by assumption), fun K hK => ?_⟩
    go_simp
    first
      | exact hK _ hS
      | (with_reducible refine (G1.out _).mono ?_
         rintro r w' ⟨rfl, rfl⟩
         exact hK _ hS)
      | (with_reducible refine (G2.out _).mono ?_
         rintro r w' ⟨rfl, rfl⟩
         exact hK _ hS)
end Go.Proofs.Ytkpmmfbheghocaa.Fmt
