/-
  Texts in one: DflSt, DflMin.
-/
import Derived.Test.YthbjllabgpaaaaaGreatDflCoded
import Derived.Test.YthbjllabgpaaaaaGreatRegInv
namespace Go.Proofs.YthbjllabgpaaaaaGreat.Dfl
open Go.Lib (hid)
set_option maxHeartbeats 4000000
open Go.ChangeShapes Go.WideShapes Go.ChangeAt Go.RowKit
open Go.Proofs.YthbjllabgpaaaaaGreat.Bit (WrAt But Near bitsOf bitsOf_length tb)
open Go.Proofs.YthbjllabgpaaaaaGreat.Lz (Tok okT IsToks expL expE byteT exp_plain Chain tailL plain_any)
open Go.Proofs.YthbjllabgpaaaaaGreat.Def
open Go.Proofs.YthbjllabgpaaaaaGreat.Sym
set_option linter.unusedVariables false
set_option maxRecDepth 100000
def Mks (win:List UInt8) (last:Bool) (l0:List Bool) (s:List UInt8) (l1:List Bool):Prop:=∃Kd,∀T,Has T 0 l1→Blk T win l0.length last Kd s l1.length
structure Keep (N:Nat) (w w2:World):Prop where
 size:w.heap.size≤w2.heap.size
 block:∀k,N≤k→k<w.heap.size→w2.heap[k]?=w.heap[k]?
theorem Keep.refl (N:Nat) (w:World):Keep N w w:=⟨Nat.le_refl _,fun _ _ _=>rfl⟩
theorem Keep.trans {N:Nat} {w w2 w3:World} (h:Keep N w w2) (k:Keep N w2 w3):Keep N w w3:=⟨Nat.le_trans h.size k.size,fun p hp hl=>(k.block p hp (Nat.lt_of_lt_of_le hl h.size)).trans (h.block p hp hl)⟩
theorem Keep.below {N:Nat} {w w2:World} (h:Below w.heap.size w w2):Keep N w w2:=⟨h.size,fun p _ hl=>h.block p hl⟩
structure PutP (B N:Nat) (l0:List Bool) (G:List Bool→Prop) (K:Nat) (fid:FuncId) (caps:Array Value) (w:World):Prop where
 lit:(fid=120∧∃P,caps=#[.pointer (some ⟨P,0,none⟩)]) ∨
  (fid=127∧∃p1 p2 p3 p4 p5 p6,caps=#[.pointer (some ⟨p1,0,none⟩),.pointer (some ⟨p2,0,none⟩),.pointer (some ⟨p3,0,none⟩),.pointer (some ⟨p4,0,none⟩),.pointer (some ⟨p5,0,none⟩),.pointer (some ⟨p6,0,none⟩)])
 small:K≤1000000
 puts:∀w2,Keep N w w2→∀b v,WrAt w2 b v l0→b<B→(∀k,v.ownBlock=some k→k<B) →
  Calls Tryz.prog fid (#[.pointer (some ⟨b,0,none⟩)]++caps) w2 fun r w3=>r=.returned (.tuple #[])∧∃v' l1,Wt b v w2 w3 v' l1∧l1.length=l0.length+K∧G l1
theorem PutP.imp {B N:Nat} {l0:List Bool} {G G':List Bool→Prop} {K:Nat} {fid:FuncId} {caps:Array Value} {w:World} (h:PutP B N l0 G K fid caps w) (f:∀l1,l1.length=l0.length+K→G l1→G' l1):PutP B N l0 G' K fid caps w:=
 ⟨h.lit,h.small,fun w2 h2 b v hw hb hv=>(h.puts w2 h2 b v hw hb hv).mono fun r w3 ⟨h3,v',l1,h4,h5,h6⟩=>⟨h3,v',l1,h4,h5,f l1 h5 h6⟩⟩
theorem PutP.keep {B N:Nat} {l0:List Bool} {G:List Bool→Prop} {K:Nat} {fid:FuncId} {caps:Array Value} {w w':World} (h:PutP B N l0 G K fid caps w) (k:Keep N w w'):PutP B N l0 G K fid caps w':=
 ⟨h.lit,h.small,fun w2 h2=>h.puts w2 (k.trans h2)⟩
theorem stOne_len (last:Bool) (l:List Bool) (s:List UInt8):(stOne last l s).length=8*((l.length+10)/8)+32+8*s.length:=by
 unfold stOne;rw [List.length_append,pad_length,plB_length,List.length_append];simp only [List.length_cons,List.length_nil];unfold Bit.fre;rw [List.length_append];simp only [List.length_cons,List.length_nil];omega
theorem mks_stored (win:List UInt8) (last:Bool) (l0:List Bool) (s:List UInt8) (hs:s.length≤65535):Mks win last l0 s (stOne last l0 s):=⟨0,fun T hT=>blk_stored win hs hT⟩
theorem mks_coded {win:List UInt8} {own last:Bool} {l0 X:List Bool} {l:List Tok} {s:List UInt8} (h:CodY own last l X) (he:expL win l=s∧expE win l=0):Mks win last l0 s (l0++X):=by
 refine ⟨if own then 2 else 1,fun T hT=>?_⟩
 have h1:=hT.right;rw [Nat.zero_add] at h1;obtain ⟨e1,e2⟩:=he;rcases h with ⟨rfl,hF,rfl⟩ | ⟨rfl,N,M,k,O,Y,hH,hF,rfl⟩
 ·have:=Blk.code (win:=win) 1 l _ (Coded.fixed (last:=last) l hF h1) e2
  rw [e1] at this;have e:(l0++([last,true,false]++wrBits fxL fxD l)).length=l0.length+3+(wrBits fxL fxD l).length:=by simp only [List.length_append,List.length_cons,List.length_nil];omega
  rw [e];exact this
 ·have:=Blk.code (win:=win) 2 l _ (Coded.own (last:=last) N M k O Y l hH hF h1) e2
  rw [e1] at this;have e:(l0++([last,false,true]++(hdrB N M k O Y++wrBits N M l))).length=l0.length+3+(hdrB N M k O Y).length+(wrBits N M l).length:=by simp only [List.length_append,List.length_cons,List.length_nil];omega
  rw [e];exact this
theorem stClo_any (b:Nat) (v:Value) (l0:List Bool) (P:Nat) (s:ByteArray) (last:Bool) (w:World) (hw:WrAt w b v l0) (hl:l0.length≤1000000) (hs:s.size≤65535) (hP:w.heap[P]?=some (.cells #[.string s,.bool last] 116 (0,0))) :
  Calls Tryz.prog 120 #[.pointer (some ⟨b,0,none⟩),.pointer (some ⟨P,0,none⟩)] w fun r w'=>r=.returned (.tuple #[])∧∃v',Wt b v w w' v' (stOne last l0 s.data.toList):=by
 have CS:=hid (stored_any b v l0 s last w hw hl (by omega))
 rw [stB_last _ _ _ (by rw [size_list];exact hs)] at CS
 have c0:w.cell? ⟨P,0,none⟩=some (.string s):=(cell_of_row _ _ 0 _ _ _ hP).trans rfl;have c1:w.cell? ⟨P,1,none⟩=some (.bool last):=(cell_of_row _ _ 1 _ _ _ hP).trans rfl;clear hw hl hP
 go_enter Tryz.func120,Tryz.ntmps120
 go_wp2_with fail
 refine CS.out.mono ?_;rintro r w1 ⟨rfl,v1,h1⟩;have H1:=hid h1;clear h1 CS c0 c1
 go_wp2_with fail
 go_end0;exact ⟨rfl,v1,H1.out⟩
theorem ret_st (tmps:Array Value) (w:World) (R:Nat) (K:Nat) (f:Value) (hp:tmps.getD 4 undef=.pointer (some ⟨R,0,none⟩)) (hg:w.heap[R]?=some (.cells #[.int .i64 (K:Nat),f] 119 (0,0))) :
  (results Tryz.f99 tmps).run Tryz.prog w=.ok (.agg #[.int .i64 (K:Nat),f]) w:=
 results_cell_row rfl tmps w R 119 #[.int .i64 (K:Nat),f] (0,0) _ hp hg Tryz.underlying119 rfl (by kernel_rfl)
theorem storedBlock_any (l0:List Bool) (win:List UInt8) (s:ByteArray) (last:Bool) (w:World) (B N:Nat) (hN:N≤w.heap.size) (hl:l0.length≤800000) (hs:s.size≤65535) :
  Calls Tryz.prog 99 #[.agg #[.string s,.bool last],.int .i64 l0.length] w fun r w'=>∃K fid caps,r=.returned (.agg #[.int .i64 (K:Nat),.func (.func fid) #[] caps])∧l0.length+K=(stOne last l0 s.data.toList).length∧PutP B N l0 (fun l1=>Mks win last l0 s.data.toList l1∧l1=stOne last l0 s.data.toList) K fid caps w'∧Below w.heap.size w w':=by
 obtain ⟨at_,hat⟩:∃at_,l0.length=at_:=⟨_,rfl⟩;rw [hat];obtain ⟨n,hn⟩:∃n,s.size=n:=⟨_,rfl⟩;have HA:=hid (And.intro hat hn);have hl2:at_≤800000:=by omega
 have hs2:n≤65535:=by omega
 obtain ⟨d,hd⟩:∃d,(at_+10)/8=d:=⟨_,rfl⟩;obtain ⟨K,hK⟩:∃K,8*(d+4+n)-at_=K:=⟨_,rfl⟩
 have a1:Int.tdiv ((at_:Int)+1+2+7) 8=d:=by
  rw [show ((at_:Int)+1+2+7)=((at_+10:Nat):Int) by omega]
  show Int.tdiv ((at_+10:Nat):Int) ((8:Nat):Int)=d;rw [←hd];rfl
 have a2:((at_:Int)+1+2+7)/8=d:=by omega
 have a3:8*((d:Int)+2+2+n)-at_=K:=by omega
 have HK:Hid (at_+K=(stOne last l0 s.data.toList).length∧K≤1000000):=hid (by
  rw [stOne_len,size_list,hat,hn];omega)
 obtain ⟨x1,x2,x3⟩:=two_new w (.cells #[.string s,.bool last] 116) (.cells #[.int .i64 (K:Nat),.nilFunc] 119);have hst:=store_at (f:=.func (.func 120) #[] #[.pointer (some ⟨w.heap.size,0,none⟩)]) ((cell_of_row _ _ 1 _ _ _ x2).trans rfl) (frozen_of_row _ _ 1 _ _ x2) rfl;have hz:((w.alloc (.cells #[.string s,.bool last] 116)).alloc (.cells #[.int .i64 (K:Nat),.nilFunc] 119)).heap.size=w.heap.size+2:=by simp
 generalize hW:((w.alloc (.cells #[.string s,.bool last] 116)).alloc (.cells #[.int .i64 (K:Nat),.nilFunc] 119))=W at *
 have FIN:Hid ((W.setCell ⟨w.heap.size+1,1,none⟩ (.func (.func 120) #[] #[.pointer (some ⟨w.heap.size,0,none⟩)])).heap[w.heap.size+1]?=some (.cells #[.int .i64 (K:Nat),.func (.func 120) #[] #[.pointer (some ⟨w.heap.size,0,none⟩)]] 119 (0,0)) ∧
   (W.setCell ⟨w.heap.size+1,1,none⟩ (.func (.func 120) #[] #[.pointer (some ⟨w.heap.size,0,none⟩)])).heap[w.heap.size]?=some (.cells #[.string s,.bool last] 116 (0,0)) ∧
   Below w.heap.size w (W.setCell ⟨w.heap.size+1,1,none⟩ (.func (.func 120) #[] #[.pointer (some ⟨w.heap.size,0,none⟩)]))):=hid (by
  refine ⟨?_,?_,x3.setCell (by show w.heap.size≤w.heap.size+1;omega) _⟩
  ·rw [heap_setCell_same W (w.heap.size+1) 1 _ _ _ x2];rfl
  ·rw [heap_setCell_other W ⟨w.heap.size+1,1,none⟩ w.heap.size _ (by show w.heap.size≠w.heap.size+1;omega)];exact x1)
 clear x1 x2 x3 hz hd hK hat hl hs
 go_enter Tryz.func99,Tryz.ntmps99
 go_wp2_with fail
 refine bodyPost_ret (ret_st _ _ (w.heap.size+1) K _ rfl FIN.out.1) rfl ?_;refine ⟨K,_,_,rfl,HK.out.1,⟨.inl ⟨rfl,_,rfl⟩,HK.out.2,fun w2 hb b v hw hbB hvB=>?_⟩,FIN.out.2.2⟩
 refine (stClo_any b v l0 w.heap.size s last w2 hw (by have:=HA.out.1;omega) (by have:=HA.out.2;omega) ?_).mono ?_
 ·rw [hb.block _ hN (Array.getElem?_eq_some_iff.1 FIN.out.2.1).1];exact FIN.out.2.1
 ·rintro r w3 ⟨rfl,v',hW3⟩;refine ⟨rfl,v',_,hW3,?_,mks_stored _ _ _ _ (by rw [size_list];have:=HA.out.2;omega),rfl⟩
  rw [←HK.out.1,HA.out.1]
end Go.Proofs.YthbjllabgpaaaaaGreat.Dfl
namespace Go.Proofs.YthbjllabgpaaaaaGreat.Dfl
open Go.Lib (hid)
set_option maxHeartbeats 4000000
open Go.ChangeShapes Go.WideShapes Go.ChangeAt Go.RowKit
open Go.Proofs.YthbjllabgpaaaaaGreat.RegInv
open Go.Proofs.YthbjllabgpaaaaaGreat.RegTwo (arr_all getD_same)
set_option linter.unusedVariables false
set_option maxRecDepth 100000
theorem isNaN_any (x:Int) (w:World):Calls Tryz.prog 129 #[.int .i64 x] w fun r w'=>r=.returned (.bool false)∧w=w':=by
 go_enter Tryz.func129,Tryz.ntmps129
 go_wp2_with fail
 go_ret;exact ⟨by simp,rfl⟩
def sg (x y:Nat):Int:=if x<y then -1 else if y<x then 1 else 0
theorem compare_any (x y:Nat) (w:World):Calls Tryz.prog 103 #[.int .i64 x,.int .i64 y] w fun r w'=>r=.returned (.int .i64 (sg x y))∧w=w':=by
 have C1:=hid (isNaN_any (x:Int));have C2:=hid (isNaN_any (y:Int));obtain ⟨e,he⟩:∃e,sg x y=e:=⟨_,rfl⟩;rw [he];have HE:=hid he;clear he;have hcase:x<y∨y<x∨x=y:=by omega
 go_enter Tryz.func103,Tryz.ntmps103
 go_wp2_with fail
 refine (C1.out w).mono ?_;rintro r w1 ⟨rfl,rfl⟩
 go_wp2_with fail
 refine (C2.out w).mono ?_;rintro r w1 ⟨rfl,rfl⟩;clear C1 C2;rcases hcase with h | h | h
 ·have h1:(x:Int)<y:=by omega
  obtain rfl:e = -1:=by rw [←HE.out];unfold sg;rw [if_pos h]
  go_wp2_with fail
  go_ret;exact ⟨rfl,rfl⟩
 ·have h1:¬(x:Int)<y:=by omega
  have h2:(y:Int)<x:=by omega
  obtain rfl:e=1:=by rw [←HE.out];unfold sg;rw [if_neg (by omega),if_pos h]
  go_wp2_with fail
  go_ret;exact ⟨rfl,rfl⟩
 ·subst h;obtain rfl:e=0:=by rw [←HE.out];unfold sg;rw [if_neg (by omega),if_neg (by omega)]
  go_wp2_with fail
  go_ret;exact ⟨rfl,rfl⟩
theorem less_any (x y:Nat) (F1 F2:FuncId) (C1 C2:Array Value) (w:World) :
  Calls Tryz.prog 102 #[.agg #[.int .i64 (x:Nat),.func (.func F1) #[] C1],.agg #[.int .i64 (y:Nat),.func (.func F2) #[] C2]] w fun r w'=>r=.returned (.int .i64 (sg x y))∧Below w.heap.size w w':=by
 obtain ⟨x1,x2,x3⟩:=two_new w (.cells #[.int .i64 (x:Nat),.func (.func F1) #[] C1] 119) (.cells #[.int .i64 (y:Nat),.func (.func F2) #[] C2] 119);have d1:=(cell_of_row _ _ 0 _ _ _ x1).trans rfl;have d2:=(cell_of_row _ _ 0 _ _ _ x2).trans rfl;have HB:=hid x3;have CC:=hid (compare_any x y);clear x1 x2 x3
 go_enter Tryz.func102,Tryz.ntmps102
 go_wp2_with fail
 refine (CC.out _).mono ?_;rintro r w1 ⟨rfl,rfl⟩
 go_wp2_with fail
 go_ret;exact ⟨rfl,HB.out⟩
def minU (g n c i Ki Kj p5:Nat) (Fi Fj:FuncId) (Ci Cj:Array Value) (e:Int) (B:Bool) (j:Nat) (v:Value) (_:World):Prop:=match j with
 | 0=>v=.func (.func 102) #[] #[]
 | 1=>v=.slice (some ⟨g,0,none⟩) n c
 | 2=>v=.int .i64 (i:Nat)
 | 3=>v=.pointer (some ⟨g,i*2,none⟩)
 | 4=>v=.agg #[.int .i64 (Ki:Nat),.func (.func Fi) #[] Ci]
 | 5=>v=.agg #[.int .i64 (Kj:Nat),.func (.func Fj) #[] Cj]
 | 6=>v=.int .i64 e
 | 7=>v=.bool B
 | _=>True
def BlksAt (w:World) (g n:Nat) (bs:Nat→Nat×FuncId×Array Value):Prop:=g<w.heap.size∧∀i,i<n→w.cell? ⟨g,i*2,none⟩=some (.int .i64 ((bs i).1:Nat))∧w.cell? ⟨g,i*2+1,none⟩=some (.func (.func (bs i).2.1) #[] (bs i).2.2)
theorem BlksAt.below {w w':World} {g n B:Nat} {bs:Nat→Nat×FuncId×Array Value} (h:BlksAt w g n bs) (k:Below B w w') (hB:w.heap.size≤B):BlksAt w' g n bs:=
 ⟨Nat.lt_of_lt_of_le h.1 k.size,fun i hi=>⟨(k.cell (p:=⟨g,i*2,none⟩) (Nat.lt_of_lt_of_le h.1 hB)).trans (h.2 i hi).1,(k.cell (p:=⟨g,i*2+1,none⟩) (Nat.lt_of_lt_of_le h.1 hB)).trans (h.2 i hi).2⟩⟩
theorem ret_min (tmps:Array Value) (w:World) (R:Nat) (K:Nat) (f:Value) (hp:tmps.getD 4 undef=.pointer (some ⟨R,0,none⟩)) (hg:w.heap[R]?=some (.cells #[.int .i64 (K:Nat),f] 119 (0,0))) :
  (results Tryz.f101 tmps).run Tryz.prog w=.ok (.agg #[.int .i64 (K:Nat),f]) w:=
 results_cell_row rfl tmps w R 119 #[.int .i64 (K:Nat),f] (0,0) _ hp hg Tryz.underlying119 rfl (by kernel_rfl)
theorem store_blk {W:World} {p:Nat} {u1 u2:Value} (K:Nat) (F:FuncId) (C:Array Value) (h:W.heap[p]?=some (.cells #[u1,u2] 119 (0,0))) :
  (W.cell? ⟨p,0,none⟩=some u1∧W.frozen? ⟨p,0,none⟩=false)∧(store ⟨p,1,none⟩ (.func (.func F) #[] C)).run Tryz.prog (W.setCell ⟨p,0,none⟩ (.int .i64 (K:Nat)))=.ok () ((W.setCell ⟨p,0,none⟩ (.int .i64 (K:Nat))).setCell ⟨p,1,none⟩ (.func (.func F) #[] C)) ∧
  ((W.setCell ⟨p,0,none⟩ (.int .i64 (K:Nat))).setCell ⟨p,1,none⟩ (.func (.func F) #[] C)).heap[p]?=some (.cells #[.int .i64 (K:Nat),.func (.func F) #[] C] 119 (0,0)):=by
 have h1:=codF_one (K:=K) h;refine ⟨⟨(cell_of_row _ _ 0 _ _ _ h).trans rfl,frozen_of_row _ _ 0 _ _ h⟩,store_at ((cell_of_row _ _ 1 _ _ _ h1).trans rfl) (frozen_of_row _ _ 1 _ _ h1) rfl,?_⟩;rw [heap_setCell_same _ p 1 _ _ _ h1];rfl
theorem min_any (g n c:Nat) (bs:Nat→Nat×FuncId×Array Value) (w:World) (h:BlksAt w g n bs) (h1:1≤n) (hn:n≤1000) :
  Calls Tryz.prog 101 #[.slice (some ⟨g,0,none⟩) n c,.func (.func 102) #[] #[]] w fun r w'=>∃j,j<n∧(∀k,k<n→(bs j).1≤(bs k).1∧(k<j→(bs j).1<(bs k).1))∧r=.returned (.agg #[.int .i64 ((bs j).1:Nat),.func (.func (bs j).2.1) #[] (bs j).2.2])∧Below w.heap.size w w':=by
 have HH:=hid h;obtain ⟨i0,i1⟩:=h.2 0 (by omega)
 rw [Nat.zero_mul] at i0 i1;rw [Nat.zero_add] at i1;have b1:=(Below.refl w.heap.size w).alloc (Nat.le_refl _) (.cells #[.int .i64 0,.nilFunc] 119);have s1:(w.alloc (.cells #[.int .i64 0,.nilFunc] 119)).heap.size=w.heap.size+1:=by simp
 have x4:=heap_alloc_new w (.cells #[.int .i64 0,.nilFunc] 119);obtain ⟨w1,hw1⟩:∃w1,w.alloc (.cells #[.int .i64 0,.nilFunc] 119)=w1:=⟨_,rfl⟩;rw [hw1] at b1 s1 x4;have j0:=(b1.cell (p:=⟨g,0,none⟩) h.1).trans i0;have j1:=(b1.cell (p:=⟨g,1,none⟩) h.1).trans i1;obtain ⟨p4,hp4⟩:∃p4,w.heap.size=p4:=⟨_,rfl⟩;have hn0:¬(n:Int)<1:=by omega
 have hn2:(0:Int)<n:=by omega
 have HX:=hid (And.intro b1 (And.intro s1 x4));clear h i0 i1 b1 s1 x4;obtain ⟨K0,hK0⟩:∃K0,(bs 0).1=K0:=⟨_,rfl⟩;obtain ⟨F0,hF0⟩:∃F0,(bs 0).2.1=F0:=⟨_,rfl⟩;obtain ⟨C0,hC0⟩:∃C0,(bs 0).2.2=C0:=⟨_,rfl⟩;have HB0:=hid (And.intro hK0 (And.intro hF0 hC0));rw [hK0] at j0;rw [hF0,hC0] at j1;clear hK0 hF0 hC0;have y5:=heap_alloc_new w1 (.cells #[.int .i64 (K0:Nat),.nilFunc] 119);have b2:=(Below.refl w1.heap.size w1).alloc (Nat.le_refl _) (.cells #[.int .i64 (K0:Nat),.nilFunc] 119);have s2:w1.heap.size<(w1.alloc (.cells #[.int .i64 (K0:Nat),.nilFunc] 119)).heap.size:=by simp
 obtain ⟨w2,hw2⟩:∃w2,w1.alloc (.cells #[.int .i64 (K0:Nat),.nilFunc] 119)=w2:=⟨_,rfl⟩;rw [hw2] at y5 b2 s2;obtain ⟨p5,hp5⟩:∃p5,w1.heap.size=p5:=⟨_,rfl⟩;rw [hp5] at y5 s2;have hst0:=store_at (W:=w2) (a:=⟨p5,1,none⟩) (f:=.func (.func F0) #[] C0) ((cell_of_row _ _ 1 _ _ _ y5).trans rfl) (frozen_of_row _ _ 1 _ _ y5) rfl
 have X3:Hid ((w2.setCell ⟨p5,1,none⟩ (.func (.func F0) #[] C0)).heap[p5]?=some (.cells #[.int .i64 (K0:Nat),.func (.func F0) #[] C0] 119 (0,0))∧(w2.setCell ⟨p5,1,none⟩ (.func (.func F0) #[] C0)).heap[p4]?=some (.cells #[.int .i64 0,.nilFunc] 119 (0,0))∧Below w.heap.size w (w2.setCell ⟨p5,1,none⟩ (.func (.func F0) #[] C0))∧p4≠p5∧w.heap.size≤p4∧w.heap.size≤p5):=hid (by
  have h45:p4≠p5:=by have:=HX.out.2.1;omega
  have h5:w.heap.size≤p5:=by have:=HX.out.2.1;omega
  refine ⟨?_,?_,(HX.out.1.trans (b2.mono HX.out.1.size)).setCell (by show w.heap.size≤p5;omega) _,h45,by omega,h5⟩
  ·rw [heap_setCell_same w2 p5 1 _ _ _ y5];rfl
  ·rw [heap_setCell_other w2 ⟨p5,1,none⟩ p4 _ (fun e=>h45 e),b2.block p4 (by have:=HX.out.2.1;omega),←hp4];exact HX.out.2.2)
 clear y5 b2 s2
 go_enter Tryz.func101,Tryz.ntmps101
 go_wp2_with fail
 generalize (w2.setCell ⟨p5,1,none⟩ (.func (.func F0) #[] C0))=w3 at *
 go_loopw [6] (fun s wr=>∃i j:Nat,1≤i∧i≤n∧s=.int .i64 i∧j<i∧(∀k,k<i→(bs j).1≤(bs k).1∧(k<j→(bs j).1<(bs k).1))∧wr.heap[p5]?=some (.cells #[.int .i64 ((bs j).1:Nat),.func (.func (bs j).2.1) #[] (bs j).2.2] 119 (0,0))∧wr.heap[p4]?=some (.cells #[.int .i64 0,.nilFunc] 119 (0,0))∧Below w.heap.size w wr) (fun s _=>n-(intOf s).toNat)
 case atStart=>
  refine ⟨1,0,Nat.le_refl _,h1,rfl,by omega,fun k hk=>?_,?_,X3.out.2.1,X3.out.2.2.1⟩
  ·rw [show k=0 by omega];exact ⟨Nat.le_refl _,fun h=>by omega⟩
  ·rw [HB0.out.1,HB0.out.2.1,HB0.out.2.2];exact X3.out.1
 case round=>
  obtain ⟨i,j,hi1,hin,rfl,hji,hmin,h5,h4,hb⟩:=hrel;clear j0 j1 hst0 hw1 hw2 hp4 hp5 HX HB0 hn0;have hG:=HH.out.below hb (Nat.le_refl _);have N45:=hid X3.out.2.2.2;obtain ⟨Kj,hKj⟩:∃K,(bs j).1=K:=⟨_,rfl⟩;obtain ⟨Fj,hFj⟩:∃K,(bs j).2.1=K:=⟨_,rfl⟩;obtain ⟨Cj,hCj⟩:∃K,(bs j).2.2=K:=⟨_,rfl⟩;rw [hKj,hFj,hCj] at h5;have HJ:=hid (And.intro hKj (And.intro hFj hCj));have e0:wr.cell? ⟨p5,0,none⟩=some (.int .i64 (Kj:Nat)):=(cell_of_row _ _ 0 _ _ _ h5).trans rfl;have e1:wr.cell? ⟨p5,1,none⟩=some (.func (.func Fj) #[] Cj):=(cell_of_row _ _ 1 _ _ _ h5).trans rfl;clear hKj hFj hCj X3
  by_cases hlt:i<n
  ·have hlt':(i:Int)<n:=by omega
   obtain ⟨q0,q1⟩:=hG.2 i hlt;obtain ⟨Ki,hKi⟩:∃K,(bs i).1=K:=⟨_,rfl⟩;obtain ⟨Fi,hFi⟩:∃K,(bs i).2.1=K:=⟨_,rfl⟩;obtain ⟨Ci,hCi⟩:∃K,(bs i).2.2=K:=⟨_,rfl⟩;rw [hKi] at q0;rw [hFi,hCi] at q1;have HI:=hid (And.intro hKi (And.intro hFi hCi));have HM:=hid hmin;obtain ⟨e,he⟩:∃e,sg Ki Kj=e:=⟨_,rfl⟩;obtain ⟨B,hBB⟩:∃B,decide (e<0)=B:=⟨_,rfl⟩
   have HBV:Hid (B=decide (Ki<Kj)):=hid (by
    rw [←hBB,←he];unfold sg
    by_cases h:Ki<Kj
    ·rw [if_pos h,decide_eq_true h];rfl
    ·rw [if_neg h,decide_eq_false h]
     split <;> rfl)
   have CC:=hid (fun W=>less_any Ki Kj Fi Fj Ci Cj W)
   rw [he] at CC;have HD:Hid (∀W,Below wr.heap.size wr W→W.cell? ⟨g,i*2,none⟩=some (.int .i64 (Ki:Nat))∧W.cell? ⟨g,i*2+1,none⟩=some (.func (.func Fi) #[] Ci)):=hid fun W hW=>⟨(hW.cell (p:=⟨g,i*2,none⟩) hG.1).trans q0,(hW.cell (p:=⟨g,i*2+1,none⟩) hG.1).trans q1⟩
   have l5:=(Array.getElem?_eq_some_iff.1 h5).1;have l4:=(Array.getElem?_eq_some_iff.1 h4).1;have HE:Hid (∀W,Below wr.heap.size wr W→W.cell? ⟨p5,0,none⟩=some (.int .i64 (Kj:Nat))∧W.cell? ⟨p5,1,none⟩=some (.func (.func Fj) #[] Cj)):=hid fun W hW=>⟨(hW.cell (p:=⟨p5,0,none⟩) l5).trans e0,(hW.cell (p:=⟨p5,1,none⟩) l5).trans e1⟩
   have H45:Hid (∀W,Below wr.heap.size wr W→W.heap[p5]?=some (.cells #[.int .i64 (Kj:Nat),.func (.func Fj) #[] Cj] 119 (0,0))∧W.heap[p4]?=some (.cells #[.int .i64 0,.nilFunc] 119 (0,0))∧Below w.heap.size w W):=hid fun W hW=>⟨(hW.block p5 l5).trans h5,(hW.block p4 l4).trans h4,hb.trans (hW.mono hb.size)⟩
   clear hmin h5 h4 hb hG q0 q1 hKi hFi hCi e0 e1 he l4 l5
   go_wp2_with fail
   refine region_ops (n:=33) (by kernel_rfl) (minU g n c i Ki Kj p5 Fi Fj Ci Cj e B) (fun W=>Below wr.heap.size wr W) (by kernel_rfl) (by kernel_rfl) (by rfl) (by kernel_rfl) ((Below.refl _ _).drew) ⟨?_,?_,?_,?_,?_,?_,?_,?_,trivial⟩ ?_
   ·intro act W hS hsame hdeps;have e1:act.tmps[1]?=some (.func (.func 102) #[] #[]):=hsame 1 (by kernel_rfl)
    clear hsame hdeps;refine ⟨wanted_none (by rfl),fun K hK=>?_⟩
    go_simp;exact hK _ _ (by rfl) hS (fun _ _ h=>h)
   ·intro act W hS hsame hdeps;have e0:act.tmps[0]?=some (.slice (some ⟨g,0,none⟩) n c):=hsame 0 (by kernel_rfl)
    clear hsame hdeps;refine ⟨wanted_none (by rfl),fun K hK=>?_⟩
    go_simp;exact hK _ _ (by rfl) hS (fun _ _ h=>h)
   ·intro act W hS hsame hdeps;have e6:act.tmps[6]?=some (.int .i64 (i:Nat)):=hsame 6 (by kernel_rfl)
    clear hsame hdeps;refine ⟨wanted_none (by rfl),fun K hK=>?_⟩
    go_simp;exact hK _ _ (by rfl) hS (fun _ _ h=>h)
   ·intro act W hS hsame hdeps;obtain ⟨x21,e21,y21⟩:=hdeps ⟨1,.data⟩ (by simp) (by rfl) 21 (by rfl)
    replace y21:x21=.slice (some ⟨g,0,none⟩) n c:=y21
    subst y21;obtain ⟨x22,e22,y22⟩:=hdeps ⟨2,.data⟩ (by simp) (by rfl) 22 (by rfl)
    replace y22:x22=.int .i64 (i:Nat):=y22
    subst y22;clear hsame hdeps;refine ⟨wanted_none (by rfl),fun K hK=>?_⟩
    go_simp;exact hK _ _ (by rfl) hS (fun _ _ h=>h)
   ·intro act W hS hsame hdeps;obtain ⟨x23,e23,y23⟩:=hdeps ⟨3,.data⟩ (by simp) (by rfl) 23 (by rfl)
    replace y23:x23=.pointer (some ⟨g,i*2,none⟩):=y23
    subst y23;clear hsame hdeps;refine ⟨wanted_none (by rfl),fun K hK=>?_⟩
    obtain ⟨d0,d1⟩:=HD.out W hS;go_simp;exact hK _ _ (by rfl) hS (fun _ _ h=>h)
   ·intro act W hS hsame hdeps;have e5:act.tmps[5]?=some (.pointer (some ⟨p5,0,none⟩)):=hsame 5 (by kernel_rfl)
    clear hsame hdeps;refine ⟨wanted_none (by rfl),fun K hK=>?_⟩
    obtain ⟨d0,d1⟩:=HE.out W hS;go_simp;exact hK _ _ (by rfl) hS (fun _ _ h=>h)
   ·intro act W hS hsame hdeps;obtain ⟨x20,e20,y20⟩:=hdeps ⟨0,.data⟩ (by simp) (by rfl) 20 (by rfl)
    replace y20:x20=.func (.func 102) #[] #[]:=y20
    subst y20;obtain ⟨x24,e24,y24⟩:=hdeps ⟨4,.data⟩ (by simp) (by rfl) 24 (by rfl)
    replace y24:x24=.agg #[.int .i64 (Ki:Nat),.func (.func Fi) #[] Ci]:=y24
    subst y24;obtain ⟨x25,e25,y25⟩:=hdeps ⟨5,.data⟩ (by simp) (by rfl) 25 (by rfl)
    replace y25:x25=.agg #[.int .i64 (Kj:Nat),.func (.func Fj) #[] Cj]:=y25
    subst y25;clear hsame hdeps;refine ⟨wanted_none (by rfl),fun K hK=>?_⟩
    go_simp;refine (CC.out W).mono ?_;rintro r w' ⟨rfl,b'⟩;exact hK _ _ (by rfl) (hS.trans (b'.mono hS.size)) (fun _ _ h=>h)
   ·intro act W hS hsame hdeps;obtain ⟨x26,e26,y26⟩:=hdeps ⟨6,.data⟩ (by simp) (by rfl) 26 (by rfl)
    replace y26:x26=.int .i64 e:=y26
    subst y26;clear hsame hdeps;refine ⟨wanted_none (by rfl),fun K hK=>?_⟩
    go_simp;exact hK _ _ (by rfl) hS (fun _ _ h=>h)
   ·intro act W hS hd hz hsame hdone;obtain ⟨tm,df⟩:=act;obtain rfl:df=[]:=hd;obtain ⟨x27,e27,y27⟩:=hdone 7 27 (by rfl)
    replace y27:x27=.bool B:=y27
    subst y27;have q27:=getD_same e27;have q0:=getD_same (hsame 0 (by kernel_rfl))
    have q1:=getD_same (hsame 1 (by kernel_rfl))
    have q2:=getD_same (hsame 2 (by kernel_rfl))
    have q3:=getD_same (hsame 3 (by kernel_rfl))
    have q4:=getD_same (hsame 4 (by kernel_rfl))
    have q5:=getD_same (hsame 5 (by kernel_rfl))
    have q6:=getD_same (hsame 6 (by kernel_rfl))
    have q7:=getD_same (hsame 7 (by kernel_rfl))
    have q8:=getD_same (hsame 8 (by kernel_rfl))
    have q9:=getD_same (hsame 9 (by kernel_rfl))
    have q10:=getD_same (hsame 10 (by kernel_rfl))
    have q11:=getD_same (hsame 11 (by kernel_rfl))
    have q12:=getD_same (hsame 12 (by kernel_rfl))
    have q13:=getD_same (hsame 13 (by kernel_rfl))
    have q14:=getD_same (hsame 14 (by kernel_rfl))
    have q15:=getD_same (hsame 15 (by kernel_rfl))
    have q16:=getD_same (hsame 16 (by kernel_rfl))
    have q17:=getD_same (hsame 17 (by kernel_rfl))
    have q18:=getD_same (hsame 18 (by kernel_rfl))
    have q19:=getD_same (hsame 19 (by kernel_rfl))
    have q28:=getD_same (hsame 28 (by kernel_rfl))
    have q29:=getD_same (hsame 29 (by kernel_rfl))
    have q30:=getD_same (hsame 30 (by kernel_rfl))
    have q31:=getD_same (hsame 31 (by kernel_rfl))
    have q32:=getD_same (hsame 32 (by kernel_rfl))
    clear hsame hdone;clear e27;rw [arr_all tm 33 hz,show List.range 33=[0,1,2,3,4,5,6,7,8,9,10,11,12,13,14,15,16,17,18,19,20,21,22,23,24,25,26,27,28,29,30,31,32] from rfl]
    simp only [List.map_cons,List.map_nil,List.getElem_toArray,List.getElem_cons_zero,List.getElem_cons_succ,q0,q1,q2,q3,q4,q5,q6,q7,q8,q9,q10,q11,q12,q13,q14,q15,q16,q17,q18,q19,q27,q28,q29,q30,q31,q32];clear q0 q1 q2 q3 q4 q5 q6 q7 q8 q9 q10 q11 q12 q13 q14 q15 q16 q17 q18 q19 q27 q28 q29 q30 q31 q32 hz;generalize tm.getD 20 undef=z20;generalize tm.getD 21 undef=z21;generalize tm.getD 22 undef=z22;generalize tm.getD 23 undef=z23;generalize tm.getD 24 undef=z24;generalize tm.getD 25 undef=z25;generalize tm.getD 26 undef=z26;obtain ⟨h5,h4,hb⟩:=H45.out W hS;obtain ⟨d0,d1⟩:=HD.out W hS;have HS:=hid (And.intro h5 (And.intro h4 hb));obtain ⟨⟨s0,f0⟩,hst,hfin⟩:=store_blk Ki Fi Ci h5;have HF:=hid hfin;have c5:W.cell? ⟨p5,0,none⟩=some (.int .i64 (Kj:Nat)):=s0;clear h5 h4 hb hS hfin CC HD HE H45 hBB s0
    cases B with
    | true=>
     have hlt2:Ki<Kj:=by have:=HBV.out;simpa using this.symm
     have FIN:Hid (((W.setCell ⟨p5,0,none⟩ (.int .i64 (Ki:Nat))).setCell ⟨p5,1,none⟩ (.func (.func Fi) #[] Ci)).heap[p4]?=some (.cells #[.int .i64 0,.nilFunc] 119 (0,0))∧Below w.heap.size w ((W.setCell ⟨p5,0,none⟩ (.int .i64 (Ki:Nat))).setCell ⟨p5,1,none⟩ (.func (.func Fi) #[] Ci))∧∀k,k<i+1→(bs i).1≤(bs k).1∧(k<i→(bs i).1<(bs k).1)):=hid (by
      have h45:=N45.out;refine ⟨?_,(HS.out.2.2.setCell (by show w.heap.size≤p5;exact h45.2.2) _).setCell (by show w.heap.size≤p5;exact h45.2.2) _,fun k hk=>?_⟩
      ·rw [heap_setCell_other _ ⟨p5,1,none⟩ p4 _ (fun e=>h45.1 e),heap_setCell_other _ ⟨p5,0,none⟩ p4 _ (fun e=>h45.1 e)];exact HS.out.2.1
      ·rcases Nat.lt_or_ge k i with h | h
       ·have:=(HM.out k h).1
        have h1:=HI.out.1;have h2:=HJ.out.1;exact ⟨by omega,fun _=>by omega⟩
       ·rw [show k=i by omega];exact ⟨Nat.le_refl _,fun h=>by omega⟩)
     go_wp2_with fail
     refine ⟨⟨i+1,i,by omega,by omega,by go_num,by omega,FIN.out.2.2,?_,FIN.out.1,FIN.out.2.1⟩,?_⟩
     ·rw [HI.out.1,HI.out.2.1,HI.out.2.2];exact HF.out
     ·simp [intOf];omega
    | false=>
     have hlt2:¬Ki<Kj:=by have:=HBV.out;simpa using this.symm
     have FIN:Hid (∀k,k<i+1→(bs j).1≤(bs k).1∧(k<j→(bs j).1<(bs k).1)):=hid fun k hk=>by
      rcases Nat.lt_or_ge k i with h | h
      ·exact HM.out k h
      ·have h1:=HI.out.1;have h2:=HJ.out.1;rw [show k=i by omega];exact ⟨by omega,fun _=>by omega⟩
     clear hst f0 c5 d0 d1
     go_wp2_with fail
     refine ⟨⟨i+1,j,by omega,by omega,by go_num,by omega,FIN.out,?_,HS.out.2.1,HS.out.2.2⟩,?_⟩
     ·rw [HJ.out.1,HJ.out.2.1,HJ.out.2.2];exact HS.out.1
     ·simp [intOf];omega
  ·obtain rfl:i=n:=by omega
   obtain ⟨⟨s0,f0⟩,hst,hfin⟩:=store_blk Kj Fj Cj h4;have HF:=hid hfin;have FIN:Hid (Below w.heap.size w ((wr.setCell ⟨p4,0,none⟩ (.int .i64 (Kj:Nat))).setCell ⟨p4,1,none⟩ (.func (.func Fj) #[] Cj))):=hid ((hb.setCell (by show w.heap.size≤p4;exact N45.out.2.1) _).setCell (by show w.heap.size≤p4;exact N45.out.2.1) _)
   have HM:=hid hmin;clear h5 h4 hb hG hfin hmin
   go_wp2_with fail
   refine bodyPost_ret (ret_min _ _ p4 Kj _ rfl HF.out) rfl ?_;refine ⟨j,hji,HM.out,?_,FIN.out⟩;rw [HJ.out.1,HJ.out.2.1,HJ.out.2.2]
end Go.Proofs.YthbjllabgpaaaaaGreat.Dfl
