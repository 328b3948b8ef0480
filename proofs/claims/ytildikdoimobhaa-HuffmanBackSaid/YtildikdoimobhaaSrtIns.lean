/-
  Contract of the library's insertionSort_func.
-/
import Derived.Test.YtildikdoimobhaaSrtSwap
namespace Go.Proofs.Ytildikdoimobhaa.Srt
open Go.Sort Go.RowKit
variable {α : Type} [Inhabited α]
set_option linter.unusedVariables false

set_option maxRecDepth 10000 in
set_option maxHeartbeats 4000000 in
theorem insertion_any (enc : α → List Value) (k : Nat) (hk : ∀ x, (enc x).length = k) (key : α → Nat) (g : Nat) (lb : Array Value) (sf : Nat) (sb : Array Value) (w0 : World) (blk size : Nat) (hblk : blk < w0.heap.size)
    (eg : ∀ args w, (callFunc g args).run Try.prog w = .ok (.enter g args) w) (hless : LessAt Try.prog g lb enc k key blk size w0)
    (hswap : Go.Proofs.SwapSwapsK Try.prog sf sb enc k blk 0 size) (a b : Nat) (d : Array α) (W : World) (hst : St enc k w0 blk d W) (hs : d.size = size) (hsz : size ≤ 1000000)
    (h1 : a ≤ b) (h2 : b ≤ size) :
    Calls Try.prog 71 #[.agg (dataV g lb sf sb), .int .i64 a, .int .i64 b] W fun e w' =>
      e = .returned (.tuple #[]) ∧ ∃ d', PermIn a b d d' ∧ Up key a b d' ∧ St enc k w0 blk d' w' ∧ W.grownBy w' (some blk) := by
  have hle := hst.le
  have hst1 := hst.alloc hblk (.cells (dataV g lb sf sb) 99)
  have HST1 := Lib.hid hst1
  have HSW := Lib.hid hswap
  have HLS := Lib.hid hless
  clear hst hst1 hswap hless
  unfold dataV at *
  go_enter Try.func71, Try.ntmps71
  go_wp2_with fail
  go_loopw [6] (fun vi wr => ∃ (i : Nat) (dk : Array α), vi = .int .i64 i ∧ a < i ∧ i ≤ b + 1 ∧ Up key a (if i ≤ b then i else b) dk ∧ PermIn a b d dk ∧ St enc k w0 blk dk wr ∧ (W.alloc (.cells #[.func (.func g) #[] lb, .func (.func sf) #[] sb] 99)).grownBy wr (some blk)) (fun vi _ => b + 1 - (intOf vi).toNat)
  case atStart => exact ⟨a + 1, d, by go_num, by omega, by omega, Up.one key _ _ _ (by split <;> omega), perm_refl _ _ _, HST1.out, World.grownBy.refl _ _⟩
  case round =>
    obtain ⟨i, dk, rfl, hai, hib, hup, hp, hst, hg⟩ := hrel
    by_cases hlt : i < b
    · rw [if_pos (by omega)] at hup
      have HU := Lib.hid hup
      have HP := Lib.hid hp
      have HS := Lib.hid hst
      have HG := Lib.hid hg
      clear hup hp hst hg HST1
      go_wp2_with fail
      go_loopw [7] (fun vj wr2 => ∃ (j : Nat) (dj : Array α), vj = .int .i64 j ∧ a ≤ j ∧ j ≤ i ∧ Put key a j i dj ∧ PermIn a b d dj ∧ St enc k w0 blk dj wr2 ∧ (W.alloc (.cells #[.func (.func g) #[] lb, .func (.func sf) #[] sb] 99)).grownBy wr2 (some blk)) (fun vj _ => (intOf vj).toNat)
      case atStart => exact ⟨i, dk, rfl, by omega, Nat.le_refl _, Put.start HU.out, HP.out, HS.out, HG.out⟩
      case round =>
        obtain ⟨j, dj, rfl, haj, hji, hput, hp, hst, hg⟩ := hrel
        clear HU HP HS HG
        have hsk : dj.size = size := hp.1.trans hs
        have c0 : wr.cell? ⟨W.heap.size, 0, none⟩ = some (.func (.func g) #[] lb) := by
          rw [World.cell?_of_block (a := ⟨W.heap.size, 0, none⟩) (hg.block W.heap.size (by simp) (by simp; omega))]
          simp
        have c1 : ∀ q, (wr.drewN q).cell? ⟨W.heap.size, 1, none⟩ = some (.func (.func sf) #[] sb) := fun q => by
          show wr.cell? _ = _
          rw [World.cell?_of_block (a := ⟨W.heap.size, 1, none⟩) (hg.block W.heap.size (by simp) (by simp; omega))]
          simp
        have HPT := Lib.hid hput
        have HP := Lib.hid hp
        have HG := Lib.hid hg
        have HST := Lib.hid hst
        clear hput hp hg hst
        by_cases hja : a < j
        · have hl := HLS.out wr dj HST.out hsk j (j - 1) (by omega) (by omega)
          rw [show ((j - 1 : Nat) : Int) = (j : Int) - 1 by omega] at hl
          by_cases hlv : key dj[j]! < key dj[j - 1]!
          · rw [decide_eq_true hlv] at hl
            have HL := Lib.hid hl
            have HLV := Lib.hid hlv
            clear hl hlv
            go_wp2_with (go_at_fn g; refine HL.out.mono ?_; rintro e w' ⟨rfl, q, rfl⟩)
            have hsw2 := HSW.out (wr.drewN q) dj (HST.out.drewN q).holds hsk j (j - 1) (by omega) (by omega)
            rw [show ((j - 1 : Nat) : Int) = (j : Int) - 1 by omega] at hsw2
            have H1 := Lib.hid ((HST.out.drewN q).swap hk j (j - 1) (by omega) (by omega))
            have H2 := Lib.hid (grown_trans HG.out (grown_trans (grown_drewN wr q _) (grown_swap (wr.drewN q) blk (0 + j * k) (0 + (j - 1) * k) (enc dj[j - 1]!) (enc dj[j]!))))
            have H3 := Lib.hid (HPT.out.step HLV.out hja (by omega))
            have H4 := Lib.hid (perm_swp HP.out (by omega) (show a ≤ j by omega) (show j < b by omega) (show a ≤ j - 1 by omega) (show j - 1 < b by omega))
            rw [hsw2, Oper.upon_value]
            clear hsw2 c0 c1 HL HPT HP HG HST HLV
            generalize ((wr.drewN q).setCells blk (0 + j * k) (enc dj[j - 1]!)).setCells blk (0 + (j - 1) * k) (enc dj[j]!) = w2 at *
            generalize swp dj j (j - 1) = d2 at *
            go_wp2_with fail
            refine ⟨⟨j - 1, d2, by go_num, by omega, by omega, H3.out, H4.out, H1.out, H2.out⟩, ?_⟩
            simp [intOf]; omega
          · rw [decide_eq_false hlv] at hl
            have HL := Lib.hid hl
            have HLV := Lib.hid hlv
            clear hl hlv
            go_wp2_with (go_at_fn g; refine HL.out.mono ?_; rintro e w' ⟨rfl, q, rfl⟩)
            refine ⟨⟨i + 1, dj, by go_num, by omega, by omega, ?_, HP.out, HST.out.drewN q, grown_trans HG.out (grown_drewN wr q _)⟩, ?_⟩
            · rw [if_pos (by omega)]; exact HPT.out.stop (.inr (Nat.le_of_not_lt HLV.out))
            · simp [intOf]; omega
        · go_wp2_with fail
          refine ⟨⟨i + 1, dj, by go_num, by omega, by omega, ?_, HP.out, HST.out, HG.out⟩, ?_⟩
          · rw [if_pos (by omega)]; exact HPT.out.stop (.inl (by omega))
          · simp [intOf]; omega
    · have HU : Hid (Up key a b dk) := by
        show Up key a b dk
        by_cases h : i ≤ b
        · rw [if_pos h] at hup
          rwa [show i = b by omega] at hup
        · rwa [if_neg h] at hup
      have HP := Lib.hid hp
      have HS := Lib.hid hst
      have HG := Lib.hid (grown_trans (grown_alloc W _ _) hg)
      clear hup hp hst hg HST1
      go_wp2_with fail
      go_end0
      exact ⟨rfl, dk, HP.out, HU.out, HS.out, HG.out⟩

end Go.Proofs.Ytildikdoimobhaa.Srt
