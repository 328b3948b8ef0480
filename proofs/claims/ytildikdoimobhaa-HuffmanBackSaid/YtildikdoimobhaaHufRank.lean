/-
  Contract of huffman.ranked.
-/
import Derived.Test.YtildikdoimobhaaHufPair
namespace Go.Proofs.Ytildikdoimobhaa.Huf
open Go.ChangeShapes Go.WideShapes Go.ChangeAt Go.RowKit Go.Sort
open Go.Proofs.Ytildikdoimobhaa.Srt
set_option linter.unusedVariables false

theorem flat_length (f : Nat → Nat) (d : List Pk) : (d.flatMap (enc f)).length = d.length * 2 := by
  induction d with
  | nil => rfl
  | cons p r ih => simp only [List.flatMap_cons, List.length_append, enc_length, ih, List.length_cons]; omega
theorem flat_get (f : Nat → Nat) : ∀ (d : List Pk) (i c : Nat), i < d.length → c < 2 → (d.flatMap (enc f))[i * 2 + c]? = some ((enc f d.toArray[i]!)[c]!)
  | [], i, c, h, _ => by simp at h
  | p :: r, 0, c, _, hc => by
    have : c = 0 ∨ c = 1 := by omega
    rcases this with rfl | rfl <;> rfl
  | p :: r, i + 1, c, h, hc => by
    have ih := flat_get f r i c (by simpa using h) hc
    rw [List.flatMap_cons, List.getElem?_append_right (by rw [enc_length]; omega), enc_length, show (i + 1) * 2 + c - 2 = i * 2 + c by omega, ih]
    have h1 : i < r.length := by simpa using h
    simp [h1]
theorem flat_one (f : Nat → Nat) (d : List Pk) : ∀ v ∈ d.flatMap (enc f), v.oneCell' = true := by
  intro v hv
  obtain ⟨p, _, hp⟩ := List.mem_flatMap.1 hv
  exact enc_one f p v hp

theorem pks_of_row {f : Nat → Nat} {w : World} {g n cap : Nat} {d : List Pk} (h : w.ownsRow 0 80 2 (.slice (some ⟨g, 0, none⟩) n cap) n (d.flatMap (enc f))) (hd : d.length = n) : PksAt f w g d.toArray := by
  refine ⟨(h.lt g rfl).2, fun t ht => ?_⟩
  have ht2 : t < n * 2 := by rw [size_flatK] at ht; simpa [hd] using ht
  rw [Nat.zero_add, h.cellAt t ht2, get_flatK _ _ _ _ (by simpa [hd] using ht2)]
  refine ⟨?_, h.frozenAt t⟩
  have := flat_get f d (t / 2) (t % 2) (by omega) (by omega)
  rw [show t / 2 * 2 + t % 2 = t by omega] at this
  exact this
theorem row_of_pks {f : Nat → Nat} {w : World} {b : Nat} {d : Array Pk} (h : PksAt f w b d) : RowAt f w b d.toList := by
  refine ⟨h.1, fun i p hp => ?_⟩
  have hi : i < d.size := by
    have := (List.getElem?_eq_some_iff.1 hp).1; simpa using this
  have he : d[i]! = p := by
    rw [getElem!_pos d i hi]
    have := (List.getElem?_eq_some_iff.1 hp).2
    simpa using this
  have := h.cost i hi
  rw [he] at this
  exact this
theorem Packs.sees {f : Nat → Nat} {w : World} {B : Nat} {v : Value} {l : List Pk} (h : Packs f w B v l) : Sees w 2 v l.length (l.flatMap (enc f)) := by
  refine ⟨flat_length f l, flat_one f l, ?_⟩
  rcases h.row.2 with ⟨h1, h2⟩ | ⟨g, cap, cur, h1, _, _⟩
  · exact .inl ⟨h1, h2⟩
  · refine .inr ⟨g, 0, cap, h1, (h.row.lt g (by rw [h1]; rfl)).2, fun j u hj => ?_⟩
    have := h.row.cells (g := g) (by rw [h1]; rfl) j u hj
    rw [Go.WideShapes.add_plain] at this
    exact this
theorem sees_nil (w : World) (size : Nat) : Sees w size (.slice none 0 0) 0 [] := ⟨by simp, fun _ h => (by simp at h), .inl ⟨rfl, rfl⟩⟩

set_option maxHeartbeats 2000000 in
theorem ranked_any (f : Nat → Nat) (v1 v2 : Value) (d1 d2 : List Pk) (n : Nat) (w : World) (hn : d1.length + d2.length = n) (h2 : 2 ≤ n) (s1 : Sees w 2 v1 d1.length (d1.flatMap (enc f))) (s2 : Sees w 2 v2 d2.length (d2.flatMap (enc f)))
    (hl1 : d1.length ≤ 500000) (hl2 : d2.length ≤ 500000) :
    Calls Try.prog 50 #[v1, v2] w fun e w' => ∃ b cap d', e = .returned (.slice (some ⟨b, 0, none⟩) n cap) ∧ n ≤ cap ∧ cap ≤ maxLen ∧ d'.Perm (d1 ++ d2) ∧ d'.Pairwise (fun p q => p.t.wt f ≤ q.t.wt f) ∧ RowAt f w' b d' ∧ Below w.heap.size w w' ∧ w.heap.size ≤ b := by
  have bA := (Below.refl w.heap.size w).alloc (Nat.le_refl _) (.cells #[v1, v2] 76)
  have nA := heap_alloc_new w (.cells #[v1, v2] 76)
  have C1 := Lib.hid (concatP_any v1 v2 d1.length d2.length _ _ w.heap.size (w.alloc (.cells #[v1, v2] 76)) (s1.below bA (Nat.le_refl _)) (s2.below bA (Nat.le_refl _)) ((cell_of_row _ _ 0 _ _ _ nA).trans rfl) ((cell_of_row _ _ 1 _ _ _ nA).trans rfl) (by simp) hl1 hl2)
  rw [hn] at C1
  have BA := Lib.hid bA
  have E1 : ∃ a m c, v1 = .slice a m c := by obtain ⟨a, c, h⟩ := s1.form; exact ⟨a, _, c, h⟩
  have E2 : ∃ a m c, v2 = .slice a m c := by obtain ⟨a, c, h⟩ := s2.form; exact ⟨a, _, c, h⟩
  obtain ⟨a1, m1, c1, rfl⟩ := E1
  obtain ⟨a2, m2, c2, rfl⟩ := E2
  clear s1 s2 bA nA
  go_enter Try.func50, Try.ntmps50
  go_wp2_with fail
  refine C1.out.mono ?_
  rintro r w1 ⟨v, rfl, ho, hb, hv⟩
  obtain ⟨b, cap, rfl⟩ := own_form ho (by omega)
  have HO := Lib.hid ho
  have HB := Lib.hid (BA.out.trans (hb.mono BA.out.size))
  have HV : Hid (w.heap.size < b) := Lib.hid (by have := hv b rfl; have := BA.out.size; simp at *; omega)
  clear ho hb hv C1
  go_wp2_with fail
  have HCAP : Hid (n ≤ cap ∧ cap ≤ maxLen) := Lib.hid (by
    rcases HO.out.2 with ⟨h, _⟩ | ⟨g, c, cur, h1, _, _, h4, h5, _⟩
    · cases h
    · cases h1; exact ⟨h4, h5⟩)
  have bl : b < w1.heap.size := (HO.out.lt b rfl).2
  have bB := (Below.refl w1.heap.size w1).alloc (Nat.le_refl _) (.cells #[.slice (some ⟨b, 0, none⟩) n cap] 76)
  have ho2 : (w1.alloc (.cells #[.slice (some ⟨b, 0, none⟩) n cap] 76)).ownsRow 0 80 2 (.slice (some ⟨b, 0, none⟩) n cap) n ((d1 ++ d2).flatMap (enc f)) := by
    rw [List.flatMap_append]; exact HO.out.alloc _
  have hP := pks_of_row ho2 (by rw [List.length_append]; exact hn)
  have hs : (w1.alloc (.cells #[.slice (some ⟨b, 0, none⟩) n cap] 76)).cell? ⟨w1.heap.size, 0, none⟩ = some (.slice (some ⟨b, 0, none⟩) n cap) := (cell_of_row _ _ 0 _ _ _ (heap_alloc_new _ _)).trans rfl
  refine (sliceStable_any f b w1.heap.size n cap (d1 ++ d2).toArray _ hP (by simpa using hn) h2 (by omega) hs (by omega) (by simp)).mono ?_
  rintro r w2 ⟨rfl, d', hperm, hup, hp2, hg⟩
  have hc : w2.cell? ⟨w1.heap.size, 0, none⟩ = some (.slice (some ⟨b, 0, none⟩) n cap) := (World.cell?_of_block (a := ⟨w1.heap.size, 0, none⟩) (hg.block w1.heap.size (by simp) (by simp; omega))).trans hs
  have R1 : Hid (d'.toList.Perm (d1 ++ d2)) := Lib.hid (by
    have h := hperm.2.2
    have e1 : d'.size = n := by rw [hperm.1]; simpa using hn
    have e2 : (d1 ++ d2).toArray.size = n := by simpa using hn
    have e3 : d'.extract 0 n = d' := by rw [← e1]; exact Array.extract_size ..
    have e4 : (d1 ++ d2).toArray.extract 0 n = (d1 ++ d2).toArray := by
      conv => lhs; rw [← e2]
      exact Array.extract_size ..
    rw [e3, e4] at h
    exact h)
  have R2 : Hid (d'.toList.Pairwise (fun p q => p.t.wt f ≤ q.t.wt f)) := Lib.hid (by
    have e1 : d'.size = n := by rw [hperm.1]; simpa using hn
    rw [List.pairwise_iff_getElem]
    intro i j hi hj hij
    have hi' : i < d'.size := by simpa using hi
    have hj' : j < d'.size := by simpa using hj
    have := hup i j (Nat.zero_le _) hij (by omega)
    rw [getElem!_pos d' i hi', getElem!_pos d' j hj'] at this
    simpa [key] using this)
  have R3 := Lib.hid (row_of_pks hp2)
  have R4 := Lib.hid ((HB.out.trans (bB.mono HB.out.size)).grown hg (by have := HB.out.size; simp; omega) (fun j hj => by cases hj; have := HV.out; omega))
  clear hperm hup hp2 hg bB ho2 hP hs HO
  go_wp2_with fail
  go_ret
  exact ⟨b, cap, d'.toList, rfl, HCAP.out.1, HCAP.out.2, R1.out, R2.out, R3.out, R4.out, Nat.le_of_lt HV.out⟩

end Go.Proofs.Ytildikdoimobhaa.Huf
