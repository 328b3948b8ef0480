/-
  Texts in one: OctBase, OctWrite, OctPut, OctRef, OctCur, OctRead.
-/
import Derived.Test.YthbjllabgpaaaaaGreatRows
import Derived.WalkKit
import Derived.ProofKit
import Derived.OpenShut
import Derived.ShutString
import Derived.ChangeOld
import Derived.Below
import Derived.WalkSpells
import Derived.WalkLawsBesides
import Derived.Deep.QuietTactic
import Derived.BigQuiet
import Derived.BigGuardPart
import Derived.StillTailTactics
import Derived.Deep.RegionHeld3
import Derived.Deep.RegionWith
import Derived.Outline
import Derived.IntWalk
import Derived.Lib.Hide
import Derived.Test.YthbjllabgpaaaaaGreatAllBit
namespace Go.Proofs.YthbjllabgpaaaaaGreat.Oct
open Go.Lib (hid)
set_option maxHeartbeats 1000000
open Go.ChangeShapes Go.WideShapes Go.ChangeAt Go.RowKit
set_option linter.unusedVariables false
set_option maxRecDepth 100000
def sizeB (n:Int):Bool:=decide (n=1∨n=2∨n=4)
theorem isSize_any (n:Int) (w:World) :
  Calls Tryz.prog 63 #[.int .i64 n] w fun e w'=>e=.returned (.bool (sizeB n))∧w=w':=by
 by_cases h1:n=1
 ·subst h1
  go_enter Tryz.func63,Tryz.ntmps63
  go_wp2
  go_ret;exact ⟨rfl,rfl⟩
 by_cases h2:n=2
 ·subst h2
  go_enter Tryz.func63,Tryz.ntmps63
  go_wp2
  go_ret;exact ⟨rfl,rfl⟩
 by_cases h4:n=4
 ·subst h4
  go_enter Tryz.func63,Tryz.ntmps63
  go_wp2
  go_ret;exact ⟨rfl,rfl⟩
 have e:sizeB n=false:=by simp [sizeB,h1,h2,h4]
 have e1:(n==1)=false:=by simp [h1]
 have e2:(n==2)=false:=by simp [h2]
 have e4:(n==4)=false:=by simp [h4]
 clear h1 h2 h4
 go_enter Tryz.func63,Tryz.ntmps63
 go_wp2
 go_ret;exact ⟨by rw [e];rfl,rfl⟩
def fitsB (s n:Int):Bool:=(n/2^(8*s).toNat==0)
theorem fits_any (s n:Int) (w:World) (h0:0≤s) (h1:s≤4) :
  Calls Tryz.prog 76 #[.int .i64 s,.int .i64 n] w fun e w'=>e=.returned (.bool (fitsB s n))∧w=w':=by
 go_enter Tryz.func76,Tryz.ntmps76
 go_wp2
 go_ret;exact ⟨rfl,rfl⟩
theorem turned1_any (i s:Int) (a:Addr) (w:World) (hc:w.cell? a=some (.int .i64 s)) (h0:0≤s) (h1:s≤4) (i0:0≤i) (i1:i≤4) :
  Calls Tryz.prog 67 #[.int .i64 i,.pointer (some a)] w fun e w'=>e=.returned (.int .i64 (s-1-i))∧w=w':=by
 go_enter Tryz.func67,Tryz.ntmps67
 go_wp2
 go_ret;exact ⟨rfl,rfl⟩
theorem turned_any (s:Int) (w:World) :
  Calls Tryz.prog 41 #[.int .i64 s] w fun e w'=>e=.returned (.func (.func 67) #[] #[.pointer (some ⟨w.heap.size,0,none⟩)])∧w'=w.alloc (.cells #[.int .i64 s] 3):=by
 have hmf:∀(fn:Fn) (first cap:Array Value) (w:World),(Instr.makeFunc fn first cap).run Tryz.prog w=.ok (.func fn first cap) w:=fun _ _ _ _=>rfl
 go_enter Tryz.func41,Tryz.ntmps41
 go_wp2
 go_ret;exact ⟨rfl,rfl⟩
end Go.Proofs.YthbjllabgpaaaaaGreat.Oct
namespace Go.Proofs.YthbjllabgpaaaaaGreat.Oct
open Go.Lib (hid)
set_option maxHeartbeats 1000000
open Go.ChangeShapes Go.WideShapes Go.ChangeAt Go.RowKit
set_option linter.unusedVariables false
set_option maxRecDepth 100000
theorem info5:(Tryz.prog.info? 5).map (fun i=>(i.zero,i.size,i.bytes))=some (some (.int .u8 0),1,1):=by kernel_rfl
def rowT (place:Nat→Nat) (s:Nat) (n:Int) (k:Nat):List Value:=(List.range s).map fun j=>if place j<k then Value.int .u8 (n/2^(8*place j)%256) else Value.int .u8 0
theorem rowT_zero (place:Nat→Nat) (s:Nat) (n:Int):rowT place s n 0=List.replicate s (Value.int .u8 0):=by
 apply List.ext_getElem?
 intro j
 by_cases hj:j<s
 ·simp [rowT,hj]
 ·simp [rowT,hj]
theorem rowT_step (place:Nat→Nat) (s:Nat) (n:Int) (k:Nat) (hi:∀j,j<s→place (place j)=j) (hl:∀j,j<s→place j<s) (hk:k<s) :
  (rowT place s n k).set (place k) (Value.int .u8 (n/2^(8*k)%256))=rowT place s n (k+1):=by
 apply List.ext_getElem?
 intro j;rw [List.getElem?_set]
 by_cases hj:j<s
 ·by_cases hjk:place k=j
  ·subst hjk;simp [rowT,hi k hk,hl k hk]
  ·have:place j≠k:=by intro h;subst h;exact hjk (hi j hj)
   simp only [rowT,List.getElem?_map,List.getElem?_range hj,Option.map_some,List.length_map,List.length_range,if_neg hjk]
   congr 1
   by_cases h:place j<k
   ·rw [if_pos h,if_pos (by omega)]
   ·rw [if_neg h,if_neg (by omega)]
 ·have hpk:place k≠j:=by have:=hl k hk;omega
  simp [rowT,hj,hpk]
theorem rowT_done (place:Nat→Nat) (s:Nat) (n:Int) (hl:∀j,j<s→place j<s):rowT place s n s=((List.range s).map fun j=>byt n (place j)).map fun b=>Value.int .u8 b.toNat:=by
 unfold rowT;rw [List.map_map]
 apply List.map_congr_left
 intro j hj;rw [if_pos (hl j (List.mem_range.1 hj))];simp only [Function.comp,byt_toNat]
theorem turnedL (s:Nat) (n:Int):((List.range s).map fun j=>byt n (s-1-j))=beL s n:=by
 unfold beL leL
 apply List.ext_getElem?
 intro j
 by_cases hj:j<s
 ·rw [List.getElem?_reverse (by simpa using hj)]
  simp [hj,show s-1-j<s by omega]
 ·rw [List.getElem?_eq_none (by simpa using hj),List.getElem?_eq_none (by simpa using hj)]
theorem write_turned (s:Nat) (n:Int) (c:Addr) (w:World) (h0:1≤s) (h4:s≤4) (hs:sizeB s=true) (hn0:0≤n) (hf:fitsB s n=true)
  (hc:w.cell? c=some (.int .i64 s)) (hb:c.block<w.heap.size) :
  Calls Tryz.prog 47 #[.int .i64 s,.int .i64 n,.func (.func 67) #[] #[.pointer (some c)]] w fun e w'=>e=.returned (.tuple #[.string ⟨(beL s n).toArray⟩,.int .i64 0])∧Below w.heap.size w w':=by
 obtain ⟨i0,hi,hz0,hz1,hz2⟩:=info_parts info5
 go_enter Tryz.func47,Tryz.ntmps47
 go_wp2_with (first
  | (go_at_call 63;refine (isSize_any _ _).mono ?_;rintro e w' ⟨rfl,rfl⟩)
  | (go_at_call 76;refine (fits_any _ _ _ (by omega) (by omega)).mono ?_;rintro e w' ⟨rfl,rfl⟩)
  | (at_make;refine wpList_make_full _ rfl _ _ 68 rfl w.heap.size 5 i0 (.int .u8 0) 1 Tryz.underlying68 hi hz0 hz1 .i64 .i64 _ _ s rfl rfl rfl rfl (by rw [hz2];omega) (by unfold maxLen;omega) (Nat.le_refl _) ?_;intro w1 hown hgrow))
 go_loopw [26] (fun i wr=>∃k:Nat,k≤s∧i=.int .i64 k∧wr.ownsRow w.heap.size 5 1 (.slice (some ⟨w.heap.size,0,none⟩) s s) s (rowT (fun j=>s-1-j) s n k)∧Below w.heap.size w wr) (fun i _=>s-(intOf i).toNat)
 case atStart=>
  refine ⟨0,Nat.zero_le _,rfl,?_,(Below.refl _ _).grown hgrow (Nat.le_refl _) (fun j hj=>by cases hj)⟩
  rw [rowT_zero];rw [show (Value.int IntKind.u8 0).cells=#[Value.int .u8 0] from rfl,toList_madeCells_one,Nat.mul_one] at hown
  exact hown
 case round=>
  obtain ⟨k,hk,rfl,hown1,hbel⟩:=hrel
  by_cases hlt:k<s
  ·have hc1:wr.cell? c=some (.int .i64 s):=by rw [hbel.cell hb];exact hc
   have fz:=hown1.frozenAt (s-1-k)
   have cz:wr.cell? ⟨w.heap.size,s-1-k,none⟩=some (.int .u8 0):=by
    rw [hown1.cellAt _ (by omega)]
    simp [rowT,show s-1-k<s by omega,show s-1-(s-1-k)=k by omega]
   have hst:=hown1.stored (s-1-k) (Value.int .u8 (n/2^(8*k)%256));rw [show ((rowT (fun j=>s-1-j) s n k).set (s-1-k) _=_) from rowT_step (fun j=>s-1-j) s n k (by intro j hj;show s-1-(s-1-j)=j;omega) (by intro j hj;show s-1-j<s;omega) hlt] at hst
   have HST:=hid hst;have HBEL:=hid hbel;clear hown hgrow hown1 hst hbel;have e1:IntKind.i64.wrap (8*(k:Int))=8*k:=IntWalk.i64_in _ (by omega)
   have e2:0≤8*(k:Int):=by omega
   have e3:8*(k:Int)≤64:=by omega
   have e4:0≤(s:Int)-1-k:=by omega
   have e5:(s:Int)-1-k<s:=by omega
   have e6:((s:Int)-1-k).toNat=s-1-k:=by omega
   go_wp2_with fail
   go_region_with (go_at_call 67;refine (turned1_any _ s _ _ ?_ (by omega) (by omega) (by omega) (by omega)).mono ?_;exact hc1;rintro e w' ⟨rfl,rfl⟩)
   go_wp2_with fail
   refine ⟨⟨k+1,by omega,by go_num,HST.out.1.drew,(HBEL.out.setCell (Nat.le_refl _) _).drew⟩,?_⟩
   simp [intOf];omega
  ·obtain rfl:k=s:=by omega
   have hcv:=fun W (hW:∀j,j<k→W.cell? ((⟨w.heap.size,0,none⟩:Addr).add j)=((beL k n).map fun b=>Value.int .u8 b.toNat)[j]?)=>run_string_of (P:=Tryz.prog) W 68 9 5 ⟨w.heap.size,0,none⟩ k (beL k n) k (beL_length k n) Tryz.underlying68 Tryz.underlying5 Tryz.underlying9 hW
   have hcv1:=hcv wr (fun j hj=>by
    have:=hown1.cellAt j (by omega)
    rw [rowT_done _ _ _ (by intro j hj;omega),turnedL] at this
    rw [addr_add];exact this)
   have HBEL:=hid hbel;clear hcv hown hgrow hown1 hbel
   go_wp2
   go_ret2;exact ⟨rfl,HBEL.out⟩
end Go.Proofs.YthbjllabgpaaaaaGreat.Oct
namespace Go.Proofs.YthbjllabgpaaaaaGreat.Oct
open Go.Lib (hid)
set_option maxHeartbeats 1000000
open Go.ChangeShapes Go.WideShapes Go.ChangeAt Go.RowKit
set_option linter.unusedVariables false
set_option maxRecDepth 100000
def okB (s n:Int):Bool:=sizeB s&&decide (0≤n)&&fitsB s n
def putS (s n:Int):ByteArray:=⟨(if okB s n then beL s.toNat n else []).toArray⟩
def litS (s n:Int):ByteArray:=⟨(if okB s n then leL s.toNat n else []).toArray⟩
def putE (s n:Int):Int:=if okB s n then 0 else 1
theorem sizeB_cases {s:Int} (h:sizeB s=true):s=1∨s=2∨s=4:=by simpa [sizeB] using h
theorem write_no (s n:Int) (pl:Value) (w:World) (h:okB s n=false) :
  Calls Tryz.prog 47 #[.int .i64 s,.int .i64 n,pl] w fun e w'=>e=.returned (.tuple #[.string ⟨#[]⟩,.int .i64 1])∧w=w':=by
 by_cases hs:sizeB s=true
 ·have hb:=sizeB_cases hs;have b0:0≤s:=by omega
  have b4:s≤4:=by omega
  by_cases hn:0≤n
  ·have hf:fitsB s n=false:=by simpa [okB,hs,hn] using h
   clear h hb
   go_enter Tryz.func47,Tryz.ntmps47
   go_wp2_with (first
    | (go_at_call 63;refine (isSize_any _ _).mono ?_;rintro e w' ⟨rfl,rfl⟩)
    | (go_at_call 76;refine (fits_any _ _ _ (by omega) (by omega)).mono ?_;rintro e w' ⟨rfl,rfl⟩))
   go_ret2;exact ⟨rfl,rfl⟩
  ·have hn':n<0:=by omega
   clear h hb hn
   go_enter Tryz.func47,Tryz.ntmps47
   go_wp2_with (go_at_call 63;refine (isSize_any _ _).mono ?_;rintro e w' ⟨rfl,rfl⟩)
   go_ret2;exact ⟨rfl,rfl⟩
 ·have hs':sizeB s=false:=by simpa using hs
  clear hs h
  go_enter Tryz.func47,Tryz.ntmps47
  go_wp2_with (go_at_call 63;refine (isSize_any _ _).mono ?_;rintro e w' ⟨rfl,rfl⟩)
  go_ret2;exact ⟨rfl,rfl⟩
theorem okB_parts {s n:Int} (h:okB s n=true):sizeB s=true∧0≤n∧fitsB s n=true:=by
 simp [okB] at h;exact ⟨h.1.1,h.1.2,h.2⟩
theorem write_t (s n:Int) (c:Addr) (w:World) (hc:w.cell? c=some (.int .i64 s)) (hb:c.block<w.heap.size) :
  Calls Tryz.prog 47 #[.int .i64 s,.int .i64 n,.func (.func 67) #[] #[.pointer (some c)]] w fun e w'=>e=.returned (.tuple #[.string (putS s n),.int .i64 (putE s n)])∧Below w.heap.size w w':=by
 by_cases h:okB s n=true
 ·obtain ⟨h1,h2,h3⟩:=okB_parts h;have hb':=sizeB_cases h1;obtain ⟨k,rfl⟩:∃k:Nat,s=k:=⟨s.toNat,by omega⟩
  refine (write_turned k n c w (by omega) (by omega) h1 h2 h3 hc hb).mono ?_
  rintro e w' ⟨rfl,hbel⟩;exact ⟨by simp [putS,putE,h],hbel⟩
 ·refine (write_no s n _ w (by simpa using h)).mono ?_
  rintro e w' ⟨rfl,rfl⟩;exact ⟨by simp [putS,putE,h],Below.refl _ _⟩
theorem put_any (s n:Int) (w:World) :
  Calls Tryz.prog 25 #[.int .i64 s,.int .i64 n] w fun e w'=>e=.returned (.tuple #[.string (putS s n),.int .i64 (putE s n)])∧Below w.heap.size w w':=by
 go_enter Tryz.func25,Tryz.ntmps25
 go_wp2_with (first
  | (go_at_call 41;refine (turned_any _ _).mono ?_;rintro e w' ⟨rfl,rfl⟩)
  | (go_at_call 47;refine (write_t _ _ _ _ (by simp) (by simp)).mono ?_;rintro e w' ⟨rfl,hbel⟩))
 go_ret2;exact ⟨rfl,((Below.refl _ _).alloc (Nat.le_refl _) _).trans (hbel.mono (by simp))⟩
end Go.Proofs.YthbjllabgpaaaaaGreat.Oct
namespace Go.Proofs.YthbjllabgpaaaaaGreat.Oct
open Go.Lib (hid)
set_option maxHeartbeats 1000000
open Go.ChangeShapes Go.WideShapes Go.ChangeAt Go.RowKit
set_option linter.unusedVariables false
set_option maxRecDepth 100000

end Go.Proofs.YthbjllabgpaaaaaGreat.Oct
namespace Go.Proofs.YthbjllabgpaaaaaGreat.Oct
open Go.Lib (hid)
set_option maxHeartbeats 1000000
open Go.ChangeShapes Go.WideShapes Go.ChangeAt Go.RowKit
set_option linter.unusedVariables false
set_option maxRecDepth 100000
def CurAt (T:TypeId) (w:World) (b:Nat) (t:ByteArray) (i e:Int):Prop:=w.heap[b]?=some (.cells #[.string t,.int .i64 i,.int .i64 e] T (0,0))
theorem CurAt.lt {T:TypeId} {w:World} {b:Nat} {t:ByteArray} {i e:Int} (h:CurAt T w b t i e):b<w.heap.size:=(Array.getElem?_eq_some_iff.1 h).1
theorem CurAt.cells {T:TypeId} {w:World} {b:Nat} {t:ByteArray} {i e:Int} (h:CurAt T w b t i e) :
  w.cell? ⟨b,0,none⟩=some (.string t)∧w.cell? ⟨b,1,none⟩=some (.int .i64 i)∧w.cell? ⟨b,2,none⟩=some (.int .i64 e)∧w.frozen? ⟨b,1,none⟩=false∧w.frozen? ⟨b,2,none⟩=false:=by
 unfold CurAt at h;refine ⟨?_,?_,?_,?_,?_⟩
 ·rw [cell_of_row w b 0 _ _ _ h];rfl
 ·rw [cell_of_row w b 1 _ _ _ h];rfl
 ·rw [cell_of_row w b 2 _ _ _ h];rfl
 ·exact frozen_of_row w b 1 _ _ h
 ·exact frozen_of_row w b 2 _ _ h
theorem CurAt.set1 {T:TypeId} {w:World} {b:Nat} {t:ByteArray} {i e:Int} (h:CurAt T w b t i e) (j:Int):CurAt T (w.setCell ⟨b,1,none⟩ (.int .i64 j)) b t j e:=by
 unfold CurAt at *;rw [heap_setCell_same w b 1 _ T _ h];rfl
theorem CurAt.set2 {T:TypeId} {w:World} {b:Nat} {t:ByteArray} {i e:Int} (h:CurAt T w b t i e) (j:Int):CurAt T (w.setCell ⟨b,2,none⟩ (.int .i64 j)) b t i j:=by
 unfold CurAt at *;rw [heap_setCell_same w b 2 _ T _ h];rfl
theorem grown_set (w:World) (b o:Nat) (v:Value):w.grownBy (w.setCell ⟨b,o,none⟩ v) (some b):=
 ⟨rfl,rfl,rfl,by simp,fun k _ hk=>heap_setCell_other w ⟨b,o,none⟩ k v (fun e=>hk (by simp [e]))⟩
theorem grown_set_drewN (w:World) (n b o:Nat) (v:Value):w.grownBy ((w.drewN n).setCell ⟨b,o,none⟩ v) (some b):=by
 have hg:=grown_set (w.drewN n) b o v;exact ⟨hg.os,hg.tape,hg.output,hg.size,hg.block⟩
theorem grown_trans {a b c:World} {row:Option Nat} (h:a.grownBy b row) (k:b.grownBy c row):a.grownBy c row:=
 ⟨k.os.trans h.os,k.tape.trans h.tape,k.output.trans h.output,Nat.le_trans h.size k.size,fun i hi hr=>(k.block i (Nat.lt_of_lt_of_le hi h.size) hr).trans (h.block i hi hr)⟩
def keepE (e x:Int):Int:=if e=0 then x else e
theorem keep_any (b:Nat) (t:ByteArray) (i e x:Int) (w:World) (h:CurAt 80 w b t i e) :
  Calls Tryz.prog 64 #[.pointer (some ⟨b,0,none⟩),.int .i64 x] w fun r w'=>r=.returned (.tuple #[])∧CurAt 80 w' b t i (keepE e x)∧w.grownBy w' (some b):=by
 obtain ⟨c0,c1,c2,f1,f2⟩:=h.cells;have H:=hid h;clear h
 by_cases he:e=0
 ·subst he
  go_enter Tryz.func64,Tryz.ntmps64
  go_wp2
  go_end0;exact ⟨rfl,H.out.set2 x,grown_set _ _ _ _⟩
 ·have he':(e==0)=false:=by simp [he]
  have hk:keepE e x=e:=by simp [keepE,he]
  rw [hk];clear hk he
  go_enter Tryz.func64,Tryz.ntmps64
  go_wp2
  go_end0;exact ⟨rfl,H.out,World.grownBy.refl _ _⟩
theorem left_any (b:Nat) (t:ByteArray) (i e:Int) (w:World) (h:CurAt 80 w b t i e) (h0:0≤i) (h1:i≤t.size) (ht:t.size≤9223372036854775807) :
  Calls Tryz.prog 96 #[.pointer (some ⟨b,0,none⟩)] w fun r w'=>r=.returned (.int .i64 (t.size-i))∧∃n,w'=w.drewN n:=by
 obtain ⟨c0,c1,c2,f1,f2⟩:=h.cells;clear h
 go_enter Tryz.func96,Tryz.ntmps96
 go_wp2
 go_quiet (fail)
 go_wp2
 go_ret;exact ⟨rfl,_,rfl⟩
theorem at_any (b:Nat) (t:ByteArray) (i e:Int) (w:World) (h:CurAt 80 w b t i e) :
  Calls Tryz.prog 39 #[.pointer (some ⟨b,0,none⟩)] w fun r w'=>r=.returned (.int .i64 i)∧w=w':=by
 obtain ⟨c0,c1,c2,f1,f2⟩:=h.cells;clear h
 go_enter Tryz.func39,Tryz.ntmps39
 go_wp2
 go_ret;exact ⟨rfl,rfl⟩
theorem err_any (b:Nat) (t:ByteArray) (i e:Int) (w:World) (h:CurAt 80 w b t i e) :
  Calls Tryz.prog 21 #[.pointer (some ⟨b,0,none⟩)] w fun r w'=>r=.returned (.int .i64 e)∧w=w':=by
 obtain ⟨c0,c1,c2,f1,f2⟩:=h.cells;clear h
 go_enter Tryz.func21,Tryz.ntmps21
 go_wp2
 go_ret;exact ⟨rfl,rfl⟩
theorem new_any (t:ByteArray) (w:World) :
  Calls Tryz.prog 19 #[.string t] w fun r w'=>r=.returned (.pointer (some ⟨w.heap.size,0,none⟩))∧CurAt 80 w' w.heap.size t 0 0∧Below w.heap.size w w':=by
 go_enter Tryz.func19,Tryz.ntmps19
 go_wp2
 go_ret;refine ⟨rfl,?_,(Below.refl _ _).alloc (Nat.le_refl _) _⟩;unfold CurAt;exact heap_alloc_new _ _
def byE (t:ByteArray) (i e n:Int):Int:=if e=0 then (if n<0 then 1 else if t.size-i<n then 2 else 0) else e
def byS (t:ByteArray) (i e n:Int):ByteArray:=if byE t i e n=0 then t.extract i.toNat (i+n).toNat else ⟨#[]⟩
def byI (t:ByteArray) (i e n:Int):Int:=if byE t i e n=0 then i+n else i
theorem byE_err {t:ByteArray} {i e n:Int} (he:¬e=0):byE t i e n=e:=by simp [byE,he]
theorem byS_err {t:ByteArray} {i e n:Int} (he:¬byE t i e n=0):byS t i e n=⟨#[]⟩:=by simp [byS,he]
theorem byI_err {t:ByteArray} {i e n:Int} (he:¬byE t i e n=0):byI t i e n=i:=by simp [byI,he]
theorem bytes_any (b:Nat) (t:ByteArray) (i e n:Int) (w:World) (h:CurAt 80 w b t i e) (h0:0≤i) (h1:i≤t.size) (ht:t.size≤9223372036854775807) :
  Calls Tryz.prog 66 #[.pointer (some ⟨b,0,none⟩),.int .i64 n] w fun r w'=>r=.returned (.string (byS t i e n))∧CurAt 80 w' b t (byI t i e n) (byE t i e n)∧w.grownBy w' (some b):=by
 by_cases he:e=0
 ·subst he
  by_cases hn:n<0
  ·have hk:byE t i 0 n=1:=by simp [byE,hn]
   have hkk:keepE 0 1=1:=rfl;rw [byS_err (by omega),byI_err (by omega),hk];clear hk
   go_enter Tryz.func66,Tryz.ntmps66
   go_wp2_with fail
   refine (keep_any _ _ _ _ _ _ h).mono ?_;rintro r w' ⟨rfl,hc,hg⟩;rw [hkk] at hc;obtain ⟨c0,c1,c2,f1,f2⟩:=hc.cells;have HC:=hid hc;have HG:=hid hg;clear hc hg hkk h
   go_wp2_with fail
   go_ret;exact ⟨rfl,HC.out,HG.out⟩
  ·by_cases hl:t.size-i<n
   ·have hk:byE t i 0 n=2:=by simp [byE,hn,hl]
    have hkk:keepE 0 2=2:=rfl;rw [byS_err (by omega),byI_err (by omega),hk];clear hk
    go_enter Tryz.func66,Tryz.ntmps66
    go_wp2_with fail
    refine (left_any _ _ _ _ _ h h0 h1 ht).mono ?_;rintro r w' ⟨rfl,nd,rfl⟩
    go_wp2_with fail
    refine (keep_any _ _ _ _ _ _ (show CurAt _ (w.drewN nd) b t i 0 from h)).mono ?_
    rintro r w' ⟨rfl,hc,hg⟩;rw [hkk] at hc;obtain ⟨c0,c1,c2,f1,f2⟩:=hc.cells;have HC:=hid hc;have HG:=hid hg;clear hc hg hkk h
    go_wp2_with fail
    go_ret;exact ⟨rfl,HC.out,HG.out.os,HG.out.tape,HG.out.output,HG.out.size,HG.out.block⟩
   ·have hk:byE t i 0 n=0:=by simp [byE,hn,hl]
    have hS:byS t i 0 n=t.extract i.toNat (i+n).toNat:=by simp [byS,hk]
    have hI:byI t i 0 n=i+n:=by simp [byI,hk]
    rw [hS,hI,hk];clear hk hS hI;obtain ⟨j,rfl⟩:∃j:Nat,i=j:=⟨i.toNat,by omega⟩
    obtain ⟨m,rfl⟩:∃m:Nat,n=m:=⟨n.toNat,by omega⟩
    have q1:j+m≤t.size:=by omega
    obtain ⟨c0,c1,c2,f1,f2⟩:=h.cells;have e1:IntKind.i64.wrap ((j:Int)+(m:Int))=j+m:=IntWalk.i64_in _ (by omega)
    go_enter Tryz.func66,Tryz.ntmps66
    go_wp2_with fail
    refine (left_any _ _ _ _ _ h h0 h1 ht).mono ?_;rintro r w' ⟨rfl,nd,rfl⟩;have H:=hid h;clear h
    go_wp2_with fail
    go_quiet (fail)
    go_wp2_with fail
    go_ret;rw [show ((j:Int)+(m:Int)).toNat=j+m by omega]
    refine ⟨rfl,CurAt.set1 (show CurAt _ (w.drewN (nd+nq)) b t j 0 from H.out) _,?_⟩
    exact grown_set_drewN _ _ _ _ _
 ·have hne:¬byE t i e n=0:=by rw [byE_err he];exact he
  have hkk:∀x,keepE e x=e:=by intro x;simp [keepE,he]
  rw [byS_err hne,byI_err hne,byE_err he];have he':(e != 0)=true:=by simp [he]
  clear hne
  by_cases hn:n<0
  ·go_enter Tryz.func66,Tryz.ntmps66
   go_wp2_with fail
   refine (keep_any _ _ _ _ _ _ h).mono ?_;rintro r w' ⟨rfl,hc,hg⟩;rw [hkk] at hc;obtain ⟨c0,c1,c2,f1,f2⟩:=hc.cells;have HC:=hid hc;have HG:=hid hg;clear hc hg hkk h
   go_wp2_with fail
   go_ret;exact ⟨rfl,HC.out,HG.out⟩
  ·by_cases hl:t.size-i<n
   ·go_enter Tryz.func66,Tryz.ntmps66
    go_wp2_with fail
    refine (left_any _ _ _ _ _ h h0 h1 ht).mono ?_;rintro r w' ⟨rfl,nd,rfl⟩
    go_wp2_with fail
    refine (keep_any _ _ _ _ _ _ (show CurAt _ (w.drewN nd) b t i e from h)).mono ?_
    rintro r w' ⟨rfl,hc,hg⟩;rw [hkk] at hc;obtain ⟨c0,c1,c2,f1,f2⟩:=hc.cells;have HC:=hid hc;have HG:=hid hg;clear hc hg hkk h
    go_wp2_with fail
    go_ret;exact ⟨rfl,HC.out,HG.out.os,HG.out.tape,HG.out.output,HG.out.size,HG.out.block⟩
   ·go_enter Tryz.func66,Tryz.ntmps66
    go_wp2_with fail
    refine (left_any _ _ _ _ _ h h0 h1 ht).mono ?_;rintro r w' ⟨rfl,nd,rfl⟩;obtain ⟨c0,c1,c2,f1,f2⟩:=h.cells;have H:=hid h;clear h hkk
    go_wp2_with fail
    go_ret;exact ⟨rfl,H.out,rfl,rfl,rfl,Nat.le_refl _,fun _ _ _=>rfl⟩
theorem intsz (t:ByteArray) (i e n:Int) (h0:0≤i) (h1:i≤t.size):0≤byI t i e n∧byI t i e n≤t.size∧((byS t i e n).size=if byE t i e n=0 then n.toNat else 0):=by
 by_cases he:byE t i e n=0
 ·have h2:0≤n∧n≤t.size-i:=by
   unfold byE at he
   by_cases h:e=0
   ·by_cases hn:n<0
    ·simp [h,hn] at he
    ·by_cases hl:t.size-i<n
     ·simp [h,hn,hl] at he
     ·omega
   ·simp [h] at he
  simp only [byI,byS,he,if_true];refine ⟨by omega,by omega,?_⟩
  rw [ByteArray.size_extract];omega
 ·simp only [byI,byS,he,if_false];exact ⟨h0,h1,rfl⟩
end Go.Proofs.YthbjllabgpaaaaaGreat.Oct
namespace Go.Proofs.YthbjllabgpaaaaaGreat.Oct
open Go.Lib (hid)
set_option maxHeartbeats 1000000
open Go.ChangeShapes Go.WideShapes Go.ChangeAt Go.RowKit
set_option linter.unusedVariables false
set_option maxRecDepth 100000
def valL:List UInt8→Int
 | []=>0
 | b::r=>b.toNat+256*valL r
theorem valL_bd (l:List UInt8):0≤valL l∧valL l<2^(8*l.length):=by
 induction l with
 | nil=>simp [valL]
 | cons b r ih=>
  have hb:=b.toNat_lt;have e:(2:Int)^(8*(r.length+1))=2^(8*r.length)*256:=by rw [show 8*(r.length+1)=8*r.length+8 by omega,Int.pow_add];rfl
  simp only [valL,List.length_cons];rw [e];omega
theorem valL_snoc (l:List UInt8) (b:UInt8):valL (l++[b])=valL l+b.toNat*2^(8*l.length):=by
 induction l with
 | nil=>simp [valL]
 | cons c r ih=>
  have e:(2:Int)^(8*(r.length+1))=2^(8*r.length)*256:=by rw [show 8*(r.length+1)=8*r.length+8 by omega,Int.pow_add];rfl
  simp only [List.cons_append,valL,List.length_cons];rw [ih,e,Int.mul_add,←Int.mul_assoc,Int.add_assoc,Int.mul_comm 256 (b.toNat:Int),Int.mul_assoc,Int.mul_comm 256 (2^_)]
theorem bits_or_comm (k:IntKind) (a b:Int):bits .or k a b=bits .or k b a:=by simp [bits,BitVec.or_comm]
theorem or_step (k:Nat) (hk:k<4) (a:Int) (b:UInt8) (h0:0≤a) (h1:a<2^(8*k)):bits .or .i64 a (wrap64 (wrap64 b.toNat*2^(8*k)))=a+b.toNat*2^(8*k):=by
 have hb:=b.toNat_lt;generalize b.toNat=c at *
 have e:wrap64 (wrap64 (c:Int)*2^(8*k))=c*2^(8*k):=by
  rw [IntWalk.wrap64_in (c:Int) (by omega)]
  rcases (show k=0∨k=1∨k=2∨k=3 by omega) with rfl | rfl | rfl | rfl <;> rw [IntWalk.wrap64_in _ (by simp;omega)]
 rw [e,bits_or_comm,Int.add_comm];have w63:∀n:Int,0≤n→n<2^63→IntKind.i64.wrap n=n:=fun n h0 h1=>IntWalk.i64_in n (by omega)
 refine bits_join .i64 63 (by decide) w63 (8*k) _ _ ?_ ?_ ?_ h0 h1 ?_
 ·exact Int.mul_nonneg (by omega) (Int.le_of_lt (Int.pow_pos (by decide)))
 ·exact Int.mul_emod_left _ _
 ·rcases (show k=0∨k=1∨k=2∨k=3 by omega) with rfl | rfl | rfl | rfl <;> simp <;> omega
 ·rcases (show k=0∨k=1∨k=2∨k=3 by omega) with rfl | rfl | rfl | rfl <;> simp at*<;> omega
theorem val_step (l:List UInt8) (k:Nat) (h:k<l.length) (hk:k<4) (b:UInt8) (hb:l[k]=b) :
  bits .or .i64 (valL (l.take k)) (wrap64 (wrap64 b.toNat*2^(8*k)))=valL (l.take (k+1)):=by
 have hl:(l.take k).length=k:=by simp;omega
 have hv:=valL_bd (l.take k);rw [hl] at hv;rw [or_step k hk _ b hv.1 hv.2,List.take_succ_eq_append_getElem h,hb,valL_snoc,hl]
theorem read_turned (t:ByteArray) (c:Addr) (w:World) (ht:t.size≤4) (hc:t.size≠0→w.cell? c=some (.int .i64 t.size)) :
  Calls Tryz.prog 65 #[.string t,.func (.func 67) #[] #[.pointer (some c)]] w fun e w'=>e=.returned (.int .i64 (valL t.data.toList.reverse))∧w=w':=by
 go_enter Tryz.func65,Tryz.ntmps65
 go_wp2
 go_loop [5,9] (fun n i=>∃k:Nat,k≤t.size∧i=.int .i64 k∧n=.int .i64 (valL (t.data.toList.reverse.take k))) (fun _ i=>t.size-(intOf i).toNat)
 case atStart=>exact ⟨0,Nat.zero_le _,rfl,by simp [valL]⟩
 case round=>
  obtain ⟨k,hk,rfl,rfl⟩:=hrel
  by_cases hlt:k<t.size
  ·have hc':=hc (by omega)
   go_wp2_with (go_at_call 67;refine (turned1_any _ t.size _ _ ?_ (by omega) (by omega) (by omega) (by omega)).mono ?_;exact hc';rintro e w' ⟨rfl,rfl⟩)
   refine ⟨⟨k+1,by omega,by go_num,?_⟩,?_⟩
   ·rw [val_step t.data.toList.reverse k (by simpa using hlt) (by omega) t[t.size-1-k] (by simp;rfl)]
   ·simp [intOf];omega
  ·obtain rfl:k=t.size:=by omega
   go_wp2
   go_ret;exact ⟨by rw [List.take_of_length_le (by simp)];rfl,rfl⟩
def numE (t:ByteArray) (i e n:Int):Int:=if sizeB n then byE t i e n else keepE e 1
def numI (t:ByteArray) (i e n:Int):Int:=if sizeB n then byI t i e n else i
def intV (t:ByteArray) (i e n:Int):Int:=if sizeB n then valL (byS t i e n).data.toList.reverse else 0
def litV (t:ByteArray) (i e n:Int):Int:=if sizeB n then valL (byS t i e n).data.toList else 0
theorem byS_size4 {t:ByteArray} {i e n:Int} (hs:sizeB n=true) (h0:0≤i) (h1:i≤t.size):(byS t i e n).size≤4∧((byS t i e n).size≠0→((byS t i e n).size:Int)=n):=by
 have:=(intsz t i e n h0 h1).2.2
 have hn:=sizeB_cases hs;rw [this]
 split <;> omega
theorem CurAt.alloc {T:TypeId} {w:World} {b:Nat} {t:ByteArray} {i e:Int} (h:CurAt T w b t i e) (o:Obj):CurAt T (w.alloc o) b t i e:=by
 unfold CurAt at *;rw [Below.heap_alloc _ _ _ (CurAt.lt h)];exact h
theorem number_t (b:Nat) (t:ByteArray) (i e n:Int) (c:Addr) (w:World) (h:CurAt 80 w b t i e) (h0:0≤i) (h1:i≤t.size) (ht:t.size≤9223372036854775807)
  (hc:w.cell? c=some (.int .i64 n)) (hcb:c.block<w.heap.size) (hne:c.block≠b) :
  Calls Tryz.prog 40 #[.pointer (some ⟨b,0,none⟩),.int .i64 n,.func (.func 67) #[] #[.pointer (some c)]] w fun r w'=>r=.returned (.int .i64 (intV t i e n))∧CurAt 80 w' b t (numI t i e n) (numE t i e n)∧w.grownBy w' (some b):=by
 by_cases hs:sizeB n=true
 ·have hz:=byS_size4 (e:=e) hs h0 h1;have e1:intV t i e n=valL (byS t i e n).data.toList.reverse:=by simp [intV,hs]
  have e2:numI t i e n=byI t i e n:=by simp [numI,hs]
  have e3:numE t i e n=byE t i e n:=by simp [numE,hs]
  rw [e1,e2,e3];clear e1 e2 e3
  go_enter Tryz.func40,Tryz.ntmps40
  go_wp2_with fail
  refine (isSize_any _ _).mono ?_;rintro r w' ⟨rfl,rfl⟩
  go_wp2_with fail
  refine (bytes_any _ _ _ _ _ _ h h0 h1 ht).mono ?_;rintro r w' ⟨rfl,hc',hg⟩
  have hcc:w'.cell? c=some (.int .i64 n):=by
   rw [World.cell?_of_block (w:=w) (hg.block c.block hcb (by simp;omega))];exact hc
  have HC:=hid hc';have HG:=hid hg;clear hc' hg hc
  go_wp2_with fail
  refine (read_turned _ _ _ hz.1 (fun hne=>by rw [hz.2 hne];exact hcc)).mono ?_
  rintro r w'' ⟨rfl,rfl⟩
  go_wp2_with fail
  go_ret;exact ⟨rfl,HC.out,HG.out⟩
 ·have e1:intV t i e n=0:=by simp [intV,hs]
  have e2:numI t i e n=i:=by simp [numI,hs]
  have e3:numE t i e n=keepE e 1:=by simp [numE,hs]
  rw [e1,e2,e3];clear e1 e2 e3;have hs':sizeB n=false:=by simpa using hs
  clear hs
  go_enter Tryz.func40,Tryz.ntmps40
  go_wp2_with fail
  refine (isSize_any _ _).mono ?_;rintro r w' ⟨rfl,rfl⟩
  go_wp2_with fail
  refine (keep_any _ _ _ _ _ _ h).mono ?_;rintro r w' ⟨rfl,hc',hg⟩;have HC:=hid hc';have HG:=hid hg;clear hc' hg hc
  go_wp2_with fail
  go_ret;exact ⟨rfl,HC.out,HG.out⟩
theorem int_any (b:Nat) (t:ByteArray) (i e n:Int) (w:World) (h:CurAt 80 w b t i e) (h0:0≤i) (h1:i≤t.size) (ht:t.size≤9223372036854775807) :
  Calls Tryz.prog 20 #[.pointer (some ⟨b,0,none⟩),.int .i64 n] w fun r w'=>r=.returned (.int .i64 (intV t i e n))∧CurAt 80 w' b t (numI t i e n) (numE t i e n)∧w.grownBy w' (some b):=by
 have hlt:=h.lt
 go_enter Tryz.func20,Tryz.ntmps20
 go_wp2_with fail
 refine (turned_any _ _).mono ?_;rintro r w' ⟨rfl,rfl⟩
 go_wp2_with fail
 refine (number_t _ _ _ _ _ _ _ (h.alloc _) h0 h1 ht (by simp) (by simp) (by simp;omega)).mono ?_
 rintro r w' ⟨rfl,hc',hg⟩;have HC:=hid hc';have HG:=hid hg;clear hc' hg
 go_wp2_with fail
 go_ret;exact ⟨rfl,HC.out,grown_trans (World.grownBy_alloc w _ _) HG.out⟩
end Go.Proofs.YthbjllabgpaaaaaGreat.Oct
