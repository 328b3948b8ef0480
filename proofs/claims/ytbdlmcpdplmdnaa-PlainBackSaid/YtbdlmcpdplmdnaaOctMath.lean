/-
  Plain facts of layer 1: a number as bytes. Nothing of the program is named here.
-/
import Derived.WalkKit
import Derived.ProofKit
import Derived.Laws.Cells
import Derived.Laws.BytesString
namespace Go.Proofs.Ytbdlmcpdplmdnaa.Oct

/-- Byte number i of n, counted from the least one. -/
def byt (n : Int) (i : Nat) : UInt8 := UInt8.ofNat (n / 2 ^ (8 * i) % 256).toNat

theorem byt_toNat (n : Int) (i : Nat) : ((byt n i).toNat : Int) = n / 2 ^ (8 * i) % 256 := by
  unfold byt
  have h0 : 0 ≤ n / 2 ^ (8 * i) % 256 := Int.emod_nonneg _ (by decide)
  have h1 : n / 2 ^ (8 * i) % 256 < 256 := Int.emod_lt_of_pos _ (by decide)
  rw [UInt8.toNat_ofNat']
  omega

/-- The bytes of n, the least one first. -/
def leL (s : Nat) (n : Int) : List UInt8 := (List.range s).map (byt n)
/-- The bytes of n, the greatest one first. -/
def beL (s : Nat) (n : Int) : List UInt8 := (leL s n).reverse

theorem leL_length (s : Nat) (n : Int) : (leL s n).length = s := by simp [leL]
theorem beL_length (s : Nat) (n : Int) : (beL s n).length = s := by simp [beL, leL]

theorem ofNat_foldl (ns : List UInt8) : ∀ s : ByteArray, (ns.map fun b => (b.toNat : Int)).foldl (fun r n => r.push (UInt8.ofNat n.toNat)) s = ⟨s.data ++ ns.toArray⟩ := by
  induction ns with
  | nil => intro s; cases s; simp
  | cons n ns ih =>
    intro s
    simp only [List.map_cons, List.foldl_cons]
    rw [ih]
    cases s
    simp [ByteArray.push]

theorem addr_add (g j : Nat) : (⟨g, 0, none⟩ : Addr).add j = ⟨g, j, none⟩ := by
  unfold Addr.add
  split
  · next h => simp_all
  · simp

/-- 'string(b)' of a slice that reads as bytes. -/
theorem run_string_of {P : Program} (w : World) (src dst e : TypeId) (a : Addr) (c : Nat) (bs : List UInt8) (len : Nat) (hl : bs.length = len)
    (hs : P.underlying src = some (.slice e)) (he : P.underlying e = some (.int .u8)) (hd : P.underlying dst = some .string)
    (h : ∀ j, j < len → w.cell? (a.add j) = (bs.map fun b => Value.int .u8 b.toNat)[j]?) :
    (convert src dst (.slice (some a) len c)).run P w = .ok (.string ⟨bs.toArray⟩) w := by
  subst hl
  rw [run_convert_bytes_string w src dst e _ _ _ hs he hd]
  have h1 := run_loadCells_list (P := P) (w := w) a (bs.map fun b => Value.int .u8 b.toNat) (by
    intro j v hj
    have hlt : j < bs.length := by
      have := (List.getElem?_eq_some_iff.1 hj).1
      simpa using this
    rw [h j hlt, hj])
  rw [List.length_map] at h1
  rw [run_bytesToString w a bs.length c (bs.map fun b => (b.toNat : Int)) (by rw [h1, List.map_map]; rfl), ofNat_foldl]
  rw [show ByteArray.empty.data = #[] from rfl, Array.empty_append]

end Go.Proofs.Ytbdlmcpdplmdnaa.Oct
