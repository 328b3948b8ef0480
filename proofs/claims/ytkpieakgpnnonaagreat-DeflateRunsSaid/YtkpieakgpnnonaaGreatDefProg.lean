/-
  What is asked of deflate's calls: their contracts as one structure.
-/
import Derived.Test.YtkpieakgpnnonaaGreatDefOut
namespace Go.Proofs.YtkpieakgpnnonaaGreat.Def
open Go.ChangeShapes Go.WideShapes Go.ChangeAt Go.RowKit
open Go.Proofs.YtkpieakgpnnonaaGreat.Huf (IsInts nats)
open Go.Proofs.YtkpieakgpnnonaaGreat.Bit (WrAt But Near)
open Go.Proofs.YtkpieakgpnnonaaGreat.Lz (Tok okT IsToks)
open Go.Proofs.YtkpieakgpnnonaaGreat.Sym
set_option linter.unusedVariables false

/-- What deflate's calls do. -/
structure Says : Prop where
  stored : ∀ (b : Nat) (v : Value) (l0 : List Bool) (s : ByteArray) (last : Bool) (w : World) (hw : WrAt w b v l0) (hl : l0.length ≤ 1000000) (hs : s.size ≤ 70000),
    Calls Tryz.prog 11 #[.pointer (some ⟨b, 0, none⟩), .string s, .bool last] w fun r w' => r = .returned (.tuple #[]) ∧ ∃ v', WrAt w' b v' (stB last l0 s.data.toList) ∧ But b v w w' ∧ Near w v v'
  lengths : ∀ (b : Nat) (v : Value) (l0 : List Bool) (a1 a2 : Option Addr) (n c1 m c2 : Nat) (L M : List Int) (w : World) (hw : WrAt w b v l0) (hl : l0.length ≤ 1000000) (hL : L.length = n) (hM : M.length = m) (iL : IsInts w a1 L) (iM : IsInts w a2 M)
    (ap : ∀ x, (0 < n ∧ a1 = some x ∨ 0 < m ∧ a2 = some x) → x.block ≠ b ∧ v.ownBlock ≠ some x.block) (hn : n ≤ 1000) (hm : m ≤ 1000),
    Calls Tryz.prog 17 #[.pointer (some ⟨b, 0, none⟩), .slice a1 n c1, .slice a2 m c2] w fun r w' => ∃ e l1, r = .returned (.int .i64 e) ∧ hdrOut L M e l1 ∧ l1.length ≤ 100000 ∧ ∃ v', WrAt w' b v' (l0 ++ l1) ∧ But b v w w' ∧ Near w v v'
  coded : ∀ (b : Nat) (v : Value) (l0 : List Bool) (a : Option Addr) (n c : Nat) (l : List Tok) (own last : Bool) (w : World) (hw : WrAt w b v l0) (hl : l0.length ≤ 700000) (hL : l.length = n) (iT : IsToks w a l)
    (ap : ∀ x, 0 < n → a = some x → x.block ≠ b ∧ v.ownBlock ≠ some x.block) (hn : n ≤ 6000),
    Calls Tryz.prog 22 #[.pointer (some ⟨b, 0, none⟩), .slice a n c, .bool own, .bool last] w fun r w' => ∃ e l1, r = .returned (.int .i64 e) ∧ codedOut l own last e l1 ∧ l1.length ≤ 1000000 ∧ ∃ v', WrAt w' b v' (l0 ++ l1) ∧ But b v w w' ∧ Near w v v'
  whole : ∀ (win s : ByteArray) (w : World) (hw : win.size ≤ 100000) (hs : s.size ≤ 5000),
    Calls Tryz.prog 26 #[.string win, .string s] w fun r w' => ∃ t, r = .returned (.string t) ∧ wholeOut win s t ∧ Below w.heap.size w w'
  segment : ∀ (win s : ByteArray) (w : World) (hw : win.size ≤ 100000) (hs : s.size ≤ 5000),
    Calls Tryz.prog 27 #[.string win, .string s] w fun r w' => ∃ t, r = .returned (.string t) ∧ segOut win s t ∧ Below w.heap.size w w'
end Go.Proofs.YtkpieakgpnnonaaGreat.Def
