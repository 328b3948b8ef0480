/-
  Proved: what octets.Cursor reads of a text it reads of a longer one too, and where more bytes are needed it tells just that (statement OctetsMore). Conditions: none.
-/
import Derived.Test.YtfelecomjllphaaRows
import Derived.Test.YtfelecomjllphaaOctBack
import Derived.WalkKit
import Derived.ProofKit
import Derived.OpenShut
import Derived.ShutString
import Derived.ChangeOld
import Derived.Below
namespace Go.Proofs.Ytfelecomjllphaa.octetsMore
open Go.Proofs.Ytfelecomjllphaa.Oct
open Go.ChangeShapes Go.WideShapes Go.ChangeAt Go.RowKit
open Go.ChangeMaps (open_string shut_string)
set_option linter.unusedVariables false

theorem own : ownKnob Try.prog.godebug = none := by kernel_rfl
theorem laidOut : laidOutB Try.prog = true := by kernel_rfl

/-- WHAT THE WALK IS TOLD OF A SLICE OF INTEGERS THAT CAME IN: it is nil; or it leads to a row of 'cap' cells, the numbers 'zs' (the first 'len' are its elements, the rest its spare room), each fitting its kind. -/
def IsRow (k : IntKind) (w : World) (a : Option Addr) (len cap : Nat) (zs : List Int) : Prop :=
  (a = none ∧ len = 0 ∧ cap = 0 ∧ zs = []) ∨
  ∃ x, a = some x ∧ len ≤ cap ∧ cap ≤ maxLen ∧ zs.length = cap ∧ (∀ i, i < zs.length → w.cell? (x.add i) = some (.int k (zs.getD i 0))) ∧ ∀ n ∈ zs, (Lit.int k n).wf = true

set_option maxRecDepth 100000 in
set_option maxHeartbeats 2000000 in
theorem main (a0 a1 : ByteArray) (b off len cap : Nat) (z : List Int) (w : World) (q0 : a0.size ≤ 300) (q1 : a1.size ≤ 300) (q2 : len ≤ 300) (hb : b < w.heap.size)
    (hz : ∀ i, i < len → w.cell? ⟨b, off + i, none⟩ = some (.int .i64 (z.getD i 0))) :
    Calls Try.prog 6 #[.string a0, .string a1, .slice (some ⟨b, off, none⟩) len cap] w fun e w' => e = .returned (.bool true) ∧ Below w.heap.size w w' := by
  have HZ := Lib.hid hz
  clear hz
  go_enter Try.func6, Try.ntmps6
  go_wp2_with fail
  refine (works_any _).mono ?_
  rintro r w1 ⟨rfl, b1⟩
  go_wp2_with fail
  refine (new_any _ _).mono ?_
  rintro r w2 ⟨rfl, c2, b2⟩
  go_wp2_with fail
  obtain ⟨T, hT⟩ : ∃ T, a0 ++ a1 = T := ⟨_, rfl⟩
  have ht : T.size ≤ 600 := by rw [← hT]; simp; omega
  have ht0 : a0.size ≤ T.size := by rw [← hT]; simp
  rw [hT]
  have HT := Lib.hid hT
  clear hT
  refine (new_any _ _).mono ?_
  rintro r w3 ⟨rfl, d3, b3⟩
  have c3 := c2.below b3 c2.lt
  have hne : w1.heap.size < w2.heap.size := c2.lt
  have bb := below_next (below_next b1 b2) b3
  have k1 := b1.size
  generalize w1.heap.size = B1 at *
  generalize w2.heap.size = B2 at *
  clear b1 b2 b3 c2 w1 w2
  go_wp2_with fail
  go_loopw [10] (fun i wr => ∃ (k : Nat) (p : Int), k ≤ len ∧ i = .int .i64 k ∧ 0 ≤ p ∧ p ≤ a0.size ∧ CurAt 49 wr B1 a0 p 0 ∧ CurAt 49 wr B2 T p 0 ∧ Below w.heap.size w wr) (fun i _ => len - (intOf i).toNat)
  case atStart => exact ⟨0, 0, Nat.zero_le _, rfl, by omega, by omega, c3, d3, bb⟩
  case round =>
    clear c3 d3 bb
    obtain ⟨k, p, hk, rfl, p0, p1, c4, d4, bl⟩ := hrel
    by_cases hlt : k < len
    · have hcell : wr.cell? ⟨b, off + k, none⟩ = some (.int .i64 (z.getD k 0)) := by rw [bl.cell hb]; exact HZ.out k hlt
      generalize z.getD k 0 = v at *
      go_wp2_with fail
      refine (bytes_any _ _ _ _ _ _ c4 p0 p1 (by omega)).mono ?_
      rintro r w5 ⟨rfl, c5, g5⟩
      have d5 := d4.kept g5 (by simp; omega)
      have hcell5 : w5.cell? ⟨b, off + k, none⟩ = some (.int .i64 v) := by
        rw [World.cell?_of_block (w := wr) (g5.block b (by have := bl.size; omega) (by simp; omega))]; exact hcell
      clear hcell
      go_wp2_with fail
      refine (bytes_any _ _ _ _ _ _ d5 p0 (by omega) (by omega)).mono ?_
      rintro r w6 ⟨rfl, d6, g6⟩
      have c6 := c5.kept g6 (by simp; omega)
      have bl5 := below_grown bl g5 k1
      have hcell6 : w6.cell? ⟨b, off + k, none⟩ = some (.int .i64 v) := by
        rw [World.cell?_of_block (w := w5) (g6.block b (by have := bl5.size; omega) (by simp; omega))]; exact hcell5
      have bl6 := below_grown bl5 g6 (by omega)
      clear hcell5 g5 g6 c4 d4 c5 d5 bl bl5
      by_cases hE : byE a0 p 0 v = 0
      · obtain ⟨m1, m2, m3, m4, m5, m6, m7⟩ := by_more (u := a1) p0 p1 hE
        rw [HT.out] at m1 m2 m3
        rw [m2]
        rw [m1, m3] at d6
        rw [hE, m4] at c6
        have zs : (((byS a0 p 0 v).size : Int) != v) = false := by simp [m5]
        have zs' : (byS a0 p 0 v).size ≤ 300 := by omega
        generalize byS a0 p 0 v = x at *
        clear m1 m2 m3 m4 m5 hE
        go_wp2_with fail
        refine (err_any _ _ _ _ _ c6).mono ?_
        rintro r w7 ⟨rfl, rfl⟩
        go_wp2_with fail
        refine (err_any _ _ _ _ _ d6).mono ?_
        rintro r w7 ⟨rfl, rfl⟩
        go_wp2_with fail
        refine (err_any _ _ _ _ _ c6).mono ?_
        rintro r w7 ⟨rfl, rfl⟩
        go_wp2_with fail
        refine ⟨⟨k + 1, p + v, by omega, by go_num, by omega, by omega, c6, d6, bl6⟩, ?_⟩
        simp [intOf]; omega
      · rw [byS_err hE]
        rw [byI_err hE] at c6
        obtain ⟨s1, s2, s3, s4, s5, s6, s7, s8, s9⟩ := by_stop (t := a0) (i := p) (v := 0) hE
        have he : (v < 0 ∧ byE a0 p 0 v = 1) ∨ (¬ v < 0 ∧ a0.size - p < v ∧ byE a0 p 0 v = 2) := by
          by_cases hv : v < 0
          · exact Or.inl ⟨hv, by simp [byE, hv]⟩
          · by_cases hl : a0.size - p < v
            · exact Or.inr ⟨hv, hl, by simp [byE, hv, hl]⟩
            · exact absurd (by simp [byE, hv, hl]) hE
        generalize byE a0 p 0 v = x at *
        have S := Lib.hid (And.intro s1 (And.intro s2 (And.intro s3 (And.intro s4 (And.intro s5 (And.intro s6 (And.intro s7 (And.intro s8 s9))))))))
        clear s1 s2 s3 s4 s5 s6 s7 s8 s9 hE
        generalize byS T p 0 v = y at *
        rcases he with ⟨hv, rfl⟩ | ⟨hv, hl, rfl⟩
        · have z1 : decide (v < 0) = true := by simp [hv]
          have z2 : decide ((a0.size : Int) - p < v) = false := by simp; omega
          clear d6
          go_wp2_with fail
          refine (err_any _ _ _ _ _ c6).mono ?_
          rintro r w7 ⟨rfl, rfl⟩
          go_wp2_with fail
          refine (err_any _ _ _ _ _ c6).mono ?_
          rintro r w7 ⟨rfl, rfl⟩
          go_wp2_with fail
          refine (at_any _ _ _ _ _ c6).mono ?_
          rintro r w7 ⟨rfl, rfl⟩
          go_wp2_with fail
          refine (int_any _ _ _ _ _ _ c6 p0 p1 (by omega)).mono ?_
          rintro r w7 ⟨rfl, c7, g7⟩
          rw [S.out.2.2.2.1]
          rw [S.out.2.2.2.2.1, S.out.2.2.2.2.2.1] at c7
          go_wp2_with fail
          refine (bytes_any _ _ _ _ _ _ c7 p0 p1 (by omega)).mono ?_
          rintro r w8 ⟨rfl, c8, g8⟩
          rw [S.out.1]
          rw [S.out.2.1, S.out.2.2.1] at c8
          go_wp2_with fail
          refine (csigned_any _ _ _ _ _ c8 p0 p1 (by omega)).mono ?_
          rintro r w9 ⟨rfl, c9, g9⟩
          rw [S.out.2.2.2.2.2.2.1]
          rw [S.out.2.2.2.2.2.2.2.1, S.out.2.2.2.2.2.2.2.2] at c9
          have bl9 := below_grown (below_grown (below_grown bl6 g7 k1) g8 k1) g9 k1
          have hcell9 : w9.cell? ⟨b, off + k, none⟩ = some (.int .i64 v) := by
            rw [World.cell?_of_block (w := w6) ((grown_trans (grown_trans g7 g8) g9).block b (by have := bl6.size; omega) (by simp; omega))]; exact hcell6
          clear c6 c7 c8 g7 g8 g9 bl6 hcell6
          go_wp2_with fail
          refine (at_any _ _ _ _ _ c9).mono ?_
          rintro r w10 ⟨rfl, rfl⟩
          go_wp2_with fail
          go_quiet ((go_at_call 26; exact quiet_w (err_any _ _ _ _ _ (show CurAt _ (w9.drewN _) _ _ _ _ from c9))))
          go_wp2_with fail
          go_ret
          exact ⟨rfl, below_drewN bl9 _⟩
        · have z1 : decide (v < 0) = false := by simp; omega
          have z2 : decide ((a0.size : Int) - p < v) = true := by simp; omega
          clear d6
          go_wp2_with fail
          refine (err_any _ _ _ _ _ c6).mono ?_
          rintro r w7 ⟨rfl, rfl⟩
          go_wp2_with fail
          refine (err_any _ _ _ _ _ c6).mono ?_
          rintro r w7 ⟨rfl, rfl⟩
          go_wp2_with fail
          refine (at_any _ _ _ _ _ c6).mono ?_
          rintro r w7 ⟨rfl, rfl⟩
          go_wp2_with fail
          refine (int_any _ _ _ _ _ _ c6 p0 p1 (by omega)).mono ?_
          rintro r w7 ⟨rfl, c7, g7⟩
          rw [S.out.2.2.2.1]
          rw [S.out.2.2.2.2.1, S.out.2.2.2.2.2.1] at c7
          go_wp2_with fail
          refine (bytes_any _ _ _ _ _ _ c7 p0 p1 (by omega)).mono ?_
          rintro r w8 ⟨rfl, c8, g8⟩
          rw [S.out.1]
          rw [S.out.2.1, S.out.2.2.1] at c8
          go_wp2_with fail
          refine (csigned_any _ _ _ _ _ c8 p0 p1 (by omega)).mono ?_
          rintro r w9 ⟨rfl, c9, g9⟩
          rw [S.out.2.2.2.2.2.2.1]
          rw [S.out.2.2.2.2.2.2.2.1, S.out.2.2.2.2.2.2.2.2] at c9
          have bl9 := below_grown (below_grown (below_grown bl6 g7 k1) g8 k1) g9 k1
          have hcell9 : w9.cell? ⟨b, off + k, none⟩ = some (.int .i64 v) := by
            rw [World.cell?_of_block (w := w6) ((grown_trans (grown_trans g7 g8) g9).block b (by have := bl6.size; omega) (by simp; omega))]; exact hcell6
          clear c6 c7 c8 g7 g8 g9 bl6 hcell6
          go_wp2_with fail
          refine (at_any _ _ _ _ _ c9).mono ?_
          rintro r w10 ⟨rfl, rfl⟩
          go_wp2_with fail
          go_quiet ((go_at_call 26; exact quiet_w (err_any _ _ _ _ _ (show CurAt _ (w9.drewN _) _ _ _ _ from c9))))
          go_wp2_with fail
          go_ret
          exact ⟨rfl, below_drewN bl9 _⟩
    · obtain rfl : k = len := by omega
      go_wp2_with fail
      go_ret
      exact ⟨rfl, bl⟩

theorem none_left (a0 a1 : ByteArray) (a : Option Addr) (cap : Nat) (w : World) (q0 : a0.size ≤ 300) (q1 : a1.size ≤ 300) :
    Calls Try.prog 6 #[.string a0, .string a1, .slice a 0 cap] w fun e w' => e = .returned (.bool true) ∧ Below w.heap.size w w' := by
  go_enter Try.func6, Try.ntmps6
  go_wp2_with fail
  refine (works_any _).mono ?_
  rintro r w1 ⟨rfl, b1⟩
  go_wp2_with fail
  refine (new_any _ _).mono ?_
  rintro r w2 ⟨rfl, c2, b2⟩
  go_wp2_with fail
  refine (new_any _ _).mono ?_
  rintro r w3 ⟨rfl, d3, b3⟩
  go_wp2_with fail
  refine wp_loop_rounds 1 ?_
  rw [rounds_succ]
  go_wp2_with fail
  go_ret
  exact ⟨rfl, below_next (below_next b1 b2) b3⟩

theorem early (a0 a1 : ByteArray) (a : Option Addr) (len cap : Nat) (w : World) (w0 : a0.size ≤ maxLen) (w1 : a1.size ≤ maxLen) (hl : len ≤ maxLen) (h : 300 < a0.size ∨ 300 < a1.size ∨ 300 < len) :
    Calls Try.prog 6 #[.string a0, .string a1, .slice a len cap] w fun e w' => e = .returned (.bool true) ∧ Below w.heap.size w w' := by
  unfold maxLen at *
  by_cases h1 : 300 < a0.size
  · clear h
    go_enter Try.func6, Try.ntmps6
    go_wp2_with fail
    refine (works_any _).mono ?_
    rintro r w1 ⟨rfl, b1⟩
    go_wp2_with fail
    all_goals (go_ret; exact ⟨rfl, b1⟩)
  by_cases h2 : 300 < a1.size
  · clear h
    have d1 : decide (300 < (a0.size : Int)) = false := by simp; omega
    have d2 : decide (300 < (a1.size : Int)) = true := by simp; omega
    go_enter Try.func6, Try.ntmps6
    go_wp2_with fail
    refine (works_any _).mono ?_
    rintro r w1 ⟨rfl, b1⟩
    go_wp2_with fail
    all_goals (go_ret; exact ⟨rfl, b1⟩)
  have h3 : 300 < len := by omega
  clear h
  have d1 : decide (300 < (a0.size : Int)) = false := by simp; omega
  have d2 : decide (300 < (a1.size : Int)) = false := by simp; omega
  have d3 : decide (300 < (len : Int)) = true := by simp; omega
  go_enter Try.func6, Try.ntmps6
  go_wp2_with fail
  refine (works_any _).mono ?_
  rintro r w1 ⟨rfl, b1⟩
  go_wp2_with fail
  all_goals (go_ret; exact ⟨rfl, b1⟩)

theorem walk (a0 : ByteArray) (a1 : ByteArray) (a2 : Option Addr) (len2 cap2 : Nat) (z2 : List Int) (w : World) (w0 : a0.size ≤ maxLen) (w1 : a1.size ≤ maxLen) (w2 : IsRow .i64 w a2 len2 cap2 z2) :
    Calls Try.prog 6 #[.string a0, .string a1, .slice a2 len2 cap2] w fun e w' => e = .returned (.bool true) ∧ Below w.heap.size w w' := by
  have hl : len2 ≤ maxLen := by
    rcases w2 with ⟨_, rfl, _⟩ | ⟨x, rfl, h1, h2, _⟩
    · exact Nat.zero_le _
    · omega
  by_cases h : 300 < a0.size ∨ 300 < a1.size ∨ 300 < len2
  · exact early a0 a1 a2 len2 cap2 w w0 w1 hl h
  by_cases h0 : len2 = 0
  · subst h0
    exact none_left a0 a1 a2 cap2 w (by omega) (by omega)
  rcases w2 with ⟨_, h1, _⟩ | ⟨x, rfl, h1, h2, h3, h4, _⟩
  · omega
  · obtain ⟨b, off, rfl, hc⟩ := ints_at h4 (by omega)
    refine main a0 a1 b off len2 cap2 z2 w (by omega) (by omega) (by omega) ?_ (fun i hi => hc i (by omega))
    exact World.block_lt_of_cell? w _ (hc 0 (by omega))

set_option maxRecDepth 100000 in
theorem lifted (os : Os) (started : os.Started) (H : Type) (enc : TypeId × Value → H) :
    ReturnsInHanded {} Try.checked os 6 .any (Rows.octetsMoreSpec.pre6 enc Try.prog Try.f6 Rows.octetsMoreRow.domain false) (Rows.octetsMoreSpec.post enc Try.prog Try.f6 false true false false) := by
  refine returnsInHanded_of_change (C := Try.checked) own started (by kernel_rfl) Try.func6
    (ChangeSpec.witness6 (enc := enc) (C := Try.checked) false ⟨#[], #[.string ByteArray.empty, .string ByteArray.empty, .slice none 0 0], []⟩ 8 (by kernel_rfl) (by kernel_rfl) (by kernel_rfl) (by kernel_rfl)) ?_
  intro W base args ds gs before hval0 hW hcnd _
  have hval : ∀ (j : Nat) t v, Try.f6.params[j]? = some t → args[j]? = some v → Value.okWide Try.prog W .any base t v := hval0
  have hW' := hW
  obtain ⟨p, q, hA0, hV, rfl, hfz, hnd⟩ := hW
  have hA : DataW.TrodAll enc Try.prog W 0 (fun _ => true) true Try.f6.params.toList args.toList ds p := hA0
  rw [Try.params6] at hA hval
  obtain ⟨v0, vs0, d0, ds0, p0, q0, hargs, rfl, rfl, h0, r0⟩ := trodAll_cons hA
  obtain ⟨v1, vs1, d1, ds1, p1, q1, rfl, rfl, rfl, h1, r1⟩ := trodAll_cons r0
  obtain ⟨v2, vs2, d2, ds2, p2, q2, rfl, rfl, rfl, h2, r2⟩ := trodAll_cons r1
  obtain ⟨rfl, rfl, rfl⟩ := trodAll_nil r2
  obtain rfl : args = #[v0, v1, v2] := by cases args; simp_all
  obtain ⟨rfl, rfl⟩ := trodVars_none hV
  obtain ⟨a0, rfl, rfl, rfl, w0⟩ := open_string Try.underlying9 (hval 0 9 v0 rfl rfl) h0
  obtain ⟨a1, rfl, rfl, rfl, w1⟩ := open_string Try.underlying9 (hval 1 9 v1 rfl rfl) h1
  obtain ⟨a2, len2, cap2, rfl⟩ := okWide_slice Try.underlying29 (hval 2 29 v2 rfl rfl)
  have k2 := h2
  have lt2 : ∀ x ∈ p2, x.block < W.heap.size := by obtain ⟨m, hm⟩ := k2; exact DataW.trod_lt m _ _ _ hm
  obtain ⟨z2, w2⟩ : ∃ zs, IsRow .i64 W a2 len2 cap2 zs := by
    obtain ⟨fuel, hf⟩ := h2
    rcases open_ints Try.underlying29 Try.underlying3 (by kernel_rfl) hf with ⟨hcs, _⟩ | ⟨x, l, c, zs, hcs, _, hl, hm, hz, _, hcell, hwz⟩
    · simp [Value.cells] at hcs
      obtain ⟨rfl, rfl, rfl⟩ := hcs
      exact ⟨[], .inl ⟨rfl, rfl, rfl, rfl⟩⟩
    · simp [Value.cells] at hcs
      obtain ⟨rfl, rfl, rfl⟩ := hcs
      exact ⟨zs, .inr ⟨_, rfl, hl, hm, by simpa using hz, hcell, hwz⟩⟩
  clear hA0 hval0
  refine (walk a0 a1 a2 len2 cap2 z2 W w0 w1 w2).mono fun e W' ⟨he, bel⟩ => ?_
  subst he
  exact ⟨_, rfl, _, _, _, [], _, [], hW', trodAll_mk1 (shut_bool Try.underlying4 _), (trodAll_cons_mk (shut_string Try.underlying9 w0) (trodAll_cons_mk (shut_string Try.underlying9 w1) (trodAll_cons_mk (Below.trod laidOut (by kernel_rfl) (of_decide_eq_true (by kernel_rfl)) k2 bel lt2) trodAll_mk0))), rfl, bel.frame _, fun h => by cases h⟩

theorem over : Rows.octetsMoreRow.holds Try.pinned (OpenSpec.ofChange Rows.octetsMoreSpec) :=
  OpenClaim.holds_of_wide 6 Try.f6 rfl rfl rfl rfl rfl rfl rfl ⟨rfl, rfl, rfl, rfl, rfl⟩ rfl rfl rfl rfl rfl (by kernel_rfl) Try.func6 (by kernel_rfl)
    (of_decide_eq_true (by kernel_rfl)) (by unfold Func.isWrapper; first | (rw [if_pos (by decide +kernel)]; kernel_rfl) | (rw [if_neg (by decide +kernel)]; exact ⟨rfl, rfl⟩))
    (fun os started H enc _ => lifted os started H enc)

theorem proved : Rows.OctetsMoreSaid := over
end Go.Proofs.Ytfelecomjllphaa.octetsMore
