/-
  The program's area and shift, over what Make answers.
-/
import Derived.Test.YtedlhfemmofbpaaRegPrgR
namespace Go.Proofs.Ytedlhfemmofbpaa.Reg
open Go.ChangeShapes Go.WideShapes Go.ChangeAt Go.RowKit Go.Shelf Lz RowG RegVal OwnL
set_option linter.unusedVariables false
set_option linter.unusedSimpArgs false
set_option maxRecDepth 100000

/-- What Make answers. -/
def MakeSays : Prop := ∀ (l : List Rc) (v : Value) (w : World), l.length ≤ 5000 → WFs l → SeesR w v l → Calls Try.prog 12 #[v] w fun e w' => ∃ u, e = .returned u ∧ RectsAt w.heap.size w' u (make l) ∧ Below w.heap.size w w'
theorem make_len (a : List Rc) (h : a.length ≤ 5000) : (make a).length ≤ 100000000 := by
  have h1 := comb_length fOr a []
  have h2 : (2 * (a.length + ([] : List Rc).length)) * (2 * (a.length + ([] : List Rc).length)) ≤ 10000 * 10000 := Nat.mul_le_mul (by simp; omega) (by simp; omega)
  exact Nat.le_trans h1 h2
set_option maxHeartbeats 4000000 in
theorem area_any (MK : MakeSays) (a : List Rc) (va : Value) (w : World) (hn : a.length ≤ 5000) (hw : WFs a) (ha : SeesR w va a) :
    Calls Try.prog 19 #[va] w fun e w' => e = .returned (.int .i64 (areaL (make a))) ∧ Below w.heap.size w w' := by
  have C := Lib.hid (MK a va w hn hw ha)
  have hform : IsB (comb fOr a []) := comb_form rfl a []
  have AT : RowKit.Hid (∀ k, 0 ≤ areaL ((make a).take k) ∧ areaL ((make a).take k) ≤ 4398046511104) := Lib.hid (fun k => by
    have h1 := areaL_take (l := make a) (fun r hr => hform.counts r hr) k
    have h2 : areaL (make a) ≤ 4398046511104 := area_bound hform
    omega)
  have AS : RowKit.Hid (∀ k r, (make a)[k]? = some r → areaL ((make a).take (k + 1)) = areaL ((make a).take k) + r.w * r.h) := Lib.hid (fun k r hr => areaL_succ hr)
  have hlen := make_len a hn
  obtain ⟨aa, ca, rfl, _, _⟩ := ha
  generalize make a = L at *
  obtain ⟨N0, hN0⟩ : ∃ N0, a.length = N0 := ⟨_, rfl⟩
  rw [hN0] at C ⊢
  clear hform hw hn
  go_enter Try.func19, Try.ntmps19
  go_wp2_with fail
  refine C.out.mono ?_
  rintro r w1 ⟨u, rfl, h1, b1⟩
  obtain ⟨n, hn'⟩ : ∃ n, L.length = n := ⟨_, rfl⟩
  have HN := Lib.hid hn'
  obtain ⟨p, c, rfl⟩ := RowAt.shape h1
  rw [hn'] at hlen h1 ⊢
  have B1 := Lib.hid b1
  have H1 := Lib.hid h1
  have hz := b1.size
  clear h1 b1 C hn'
  go_wp2_with fail
  go_loopw [3, 9] (fun s i wr => ∃ k : Nat, k ≤ n ∧ i = .int .i64 k ∧ s = .int .i64 (areaL (L.take k)) ∧ Below w1.heap.size w1 wr) (fun _ i _ => n - (intOf i).toNat)
  case atStart => exact ⟨0, Nat.zero_le _, rfl, rfl, Below.refl _ _⟩
  case round =>
    obtain ⟨k, hk, rfl, rfl, hB⟩ := hrel
    by_cases hlt : k < n
    · obtain ⟨g, rfl⟩ : ∃ g, p = some ⟨g, 0, none⟩ := by
        rcases H1.out.1.2 with ⟨h5, _⟩ | ⟨g, cap', cur, h5, _⟩
        · simp only [Value.slice.injEq] at h5
          omega
        · simp only [Value.slice.injEq] at h5
          exact ⟨g, h5.1⟩
      have hkl : k < L.length := by rw [HN.out]; exact hlt
      obtain ⟨r, hr⟩ : ∃ r, L[k]? = some r := ⟨L[k], List.getElem?_eq_getElem _⟩
      obtain ⟨b1, b2, b3, b4, b5, b6⟩ := RectsAt.cells HN.out (RowG.RowAt.below H1.out (hB.mono (by omega)))
      have hcell := b4 k hkl
      rw [show L[k] = r from Option.some.inj ((List.getElem?_eq_getElem hkl).symm.trans hr)] at hcell
      have kA := (Below.refl wr.heap.size wr).alloc (Nat.le_refl _) (.cells #[.int .i64 r.x, .int .i64 r.y, .int .i64 r.w, .int .i64 r.h] 32)
      have bA := box4 wr r 32
      obtain ⟨W1, hW1⟩ : ∃ W1, wr.alloc (.cells #[.int .i64 r.x, .int .i64 r.y, .int .i64 r.w, .int .i64 r.h] 32) = W1 := ⟨_, rfl⟩
      rw [hW1] at bA kA
      have HB3 : RowKit.Hid (Below w1.heap.size w1 W1) := Lib.hid (hB.trans (kA.mono hB.size))
      have hS := AS.out k r hr
      obtain ⟨a1, a2⟩ := AT.out k
      obtain ⟨a3, a4⟩ := AT.out (k + 1)
      obtain ⟨x, y, u, z⟩ := r
      obtain ⟨c0, c1, c2, c3⟩ := hcell
      obtain ⟨e0, e1, e2, e3⟩ := bA
      simp only [Nat.zero_add] at e0 e1 e2 e3
      simp only at c0 c1 c2 c3 e0 e1 e2 e3 hW1 hS
      obtain ⟨P, hP⟩ : ∃ P, u * z = P := ⟨_, rfl⟩
      rw [hP] at hS
      obtain ⟨S1, hS1⟩ : ∃ S, areaL (L.take (k + 1)) = S := ⟨_, rfl⟩
      have ES := Lib.hid hS1
      rw [hS1] at hS a3 a4
      generalize areaL (L.take k) = S at *
      have wP : IntKind.i64.wrap P = P := IntWalk.i64_in _ (by omega)
      have wS : IntKind.i64.wrap (S + P) = S + P := IntWalk.i64_in _ (by omega)
      have HSS := Lib.hid hS
      clear hr hS1 hS hB b4 b5 b6 kA
      go_wp2_with fail
      exact ⟨⟨k + 1, by omega, by go_num, by rw [ES.out, HSS.out], HB3.out⟩, by simp [intOf]; omega⟩
    · obtain rfl : k = n := by omega
      have e : areaL (L.take k) = areaL L := by rw [List.take_of_length_le (by rw [HN.out]; exact Nat.le_refl _)]
      have HE := Lib.hid e
      have HB3 : RowKit.Hid (Below w.heap.size w wr) := Lib.hid (B1.out.trans (hB.mono (by omega)))
      clear e hB
      generalize areaL (L.take k) = S at *
      go_wp2_with fail
      go_ret
      exact ⟨retI HE.out, HB3.out⟩
end Go.Proofs.Ytedlhfemmofbpaa.Reg
