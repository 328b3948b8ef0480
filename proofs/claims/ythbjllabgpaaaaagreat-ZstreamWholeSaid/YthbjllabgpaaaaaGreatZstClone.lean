/-
  Contract of the library's strings.Clone.
-/
import Derived.Test.YthbjllabgpaaaaaGreatAllPack
import Derived.Test.YthbjllabgpaaaaaGreatAllHuf
import Derived.Lib.FrozenHead
import Derived.Lib.BufferWrite
namespace Go.Proofs.YthbjllabgpaaaaaGreat.Zst
open Go.Lib (hid)
set_option maxHeartbeats 2000000
open Go.ChangeShapes Go.WideShapes Go.ChangeAt Go.RowKit
open Go.Proofs.YthbjllabgpaaaaaGreat.Huf (info_parts)
open Go.Proofs.YthbjllabgpaaaaaGreat.Lz (info_u8)
set_option linter.unusedVariables false
set_option maxRecDepth 100000
theorem lite_any (s:ByteArray) (w:World) (hs:s.size≤100000000) :
  Calls Tryz.prog 75 #[.string s] w fun r w'=>r=.returned (.string s)∧Below w.heap.size w w':=by
 obtain ⟨i0,hi,hz0,hz1,hz2⟩:=info_parts info_u8
 by_cases h0:s.size=0
 ·have he:s=⟨#[]⟩:=by
   apply ByteArray.ext
   apply Array.ext'
   have:s.data.toList.length=0:=by simpa using h0
   exact List.eq_nil_of_length_eq_zero this
  subst he;clear h0 hi hz0 hz1 hz2
  go_enter Tryz.func75,Tryz.ntmps75
  go_wp2
  go_ret;exact ⟨rfl,Below.refl _ _⟩
 ·obtain ⟨n,hn⟩:∃n,s.size=n:=⟨_,rfl⟩;have hl:s.data.toList.length=n:=by rw [←hn];simp
  have hmk:=run_make (P:=Tryz.prog) w 68 5 i0 (.int .u8 0) Tryz.underlying68 hi hz0 .i64 .i64 n n (by omega) (by omega) (by rw [hz2];omega) (by omega)
  rw [hz1,show (Value.int IntKind.u8 0).cells=#[Value.int .u8 0] from rfl,Int.toNat_natCast,Nat.mul_one] at hmk
  have hc:(madeCells #[Value.int .u8 0] n).size=n:=by rw [←Array.length_toList,toList_madeCells_one];simp
  obtain ⟨C,hC⟩:∃C,madeCells #[Value.int .u8 0] n=C:=⟨_,rfl⟩;rw [hC] at hmk hc;obtain ⟨g,hg⟩:∃g,w.heap.size=g:=⟨_,rfl⟩;have ha:=heap_alloc_new w (.cells C 5);have bl:Below w.heap.size w (w.alloc (.cells C 5)):=(Below.refl _ _).alloc (Nat.le_refl _) _;rw [hg] at ha hmk;obtain ⟨w1,hw1⟩:∃w1,w.alloc (.cells C 5)=w1:=⟨_,rfl⟩;rw [hw1] at ha bl hmk;have hcp:=Lib.run_copy_row_string (P:=Tryz.prog) w1 68 9 3 5 g 0 n n s C 5 (by kernel_rfl) (by kernel_rfl) ha (by omega) (by omega)
  have hrow:((C.toList.take 0++Lib.byteCells s.data.toList++C.toList.drop (0+s.size)).toArray)=(Lib.byteCells s.data.toList).toArray:=by
   rw [List.take_zero,List.nil_append,Nat.zero_add,hn,List.drop_of_length_le (by rw [Array.length_toList];omega),List.append_nil]
  rw [hrow,hn] at hcp;obtain ⟨w2,hw2⟩:∃w2,w1.setRow g (Lib.byteCells s.data.toList).toArray=w2:=⟨_,rfl⟩;rw [hw2] at hcp;have hr2:w2.heap[g]?=some (.cells (Lib.byteCells s.data.toList).toArray 5 (0,0)):=by rw [←hw2];exact setRow_heap w1 g _ _ _ _ ha
  have b2:w1.grownBy w2 (some g):=by
   rw [←hw2];exact ⟨rfl,rfl,rfl,by simp [World.setRow],fun k hk hne=>setRow_other w1 g k _ (fun e=>hne (by rw [e]))⟩
  have hus:=Lib.run_unsafeString_row (P:=Tryz.prog) w2 140 3 9 5 (by kernel_rfl) (by kernel_rfl) g n (by simp [World.shape?,hr2,Lib.byteCells_length,hl]) s.data.toList (fun e=>h0 (by rw [hn,←hl,e];rfl)) (by omega) (by omega) (by
   intro j x hx;rw [Go.WideShapes.add_plain,Nat.zero_add,cell_of_row w2 g j _ _ _ hr2,List.getElem?_toArray];simp [Lib.byteCells,hx])
  rw [hl] at hus;have es:(⟨s.data.toList.toArray⟩:ByteArray)=s:=by simp
  rw [es] at hus;have B3:Hid (Below w.heap.size w (w2.freeze ⟨g,0,none⟩ n)):=hid (Lib.below_freeze (bl.grown b2 bl.size (fun j hj=>by cases hj;omega)) (p:=⟨g,0,none⟩) (by show w.heap.size≤g;omega) n)
  have hsz:((n:Int)==0)=false:=by simp;omega
  have hnb:(n:Int)≤100000000:=by omega
  have hn0:(0:Int)<(n:Int):=by omega
  have hn1:0<n:=by omega
  clear ha bl hw1 hw2 hr2 b2 hrow hc hC hg h0 hs hl es
  go_enter Tryz.func75,Tryz.ntmps75
  rw [←hn] at *
  go_wp2
  go_ret;exact ⟨rfl,B3.out⟩
theorem clone_any (s:ByteArray) (w:World) (hs:s.size≤100000000) :
  Calls Tryz.prog 45 #[.string s] w fun r w'=>r=.returned (.string s)∧Below w.heap.size w w':=by
 have C:=hid (lite_any s w hs);clear hs
 go_enter Tryz.func45,Tryz.ntmps45
 go_wp2_with fail
 refine C.out.mono ?_;rintro r w1 ⟨rfl,b1⟩
 go_wp2_with fail
 go_ret;exact ⟨rfl,b1⟩
end Go.Proofs.YthbjllabgpaaaaaGreat.Zst
