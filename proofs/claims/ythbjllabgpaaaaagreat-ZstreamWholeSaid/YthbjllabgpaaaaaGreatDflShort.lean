/-
  Contract of deflate's shortest: of the blocks that could be one that is not longer than the others.
-/
import Derived.Test.YthbjllabgpaaaaaGreatDflStA
import Derived.Test.YthbjllabgpaaaaaGreatDefRun
namespace Go.Proofs.YthbjllabgpaaaaaGreat.Dfl
open Go.Lib (hid)
set_option maxHeartbeats 8000000
open Go.ChangeShapes Go.WideShapes Go.ChangeAt Go.RowKit
open Go.Proofs.YthbjllabgpaaaaaGreat.Bit (WrAt But Near bitsOf bitsOf_length tb)
open Go.Proofs.YthbjllabgpaaaaaGreat.Lz (Tok okT IsToks expL expE byteT byteT_ok exp_plain Chain Best tailL tailL_length pack_full plain_any errT_ok)
open Go.Proofs.YthbjllabgpaaaaaGreat.Def
open Go.Proofs.YthbjllabgpaaaaaGreat.Sym
open Go.Proofs.YthbjllabgpaaaaaGreat.RegInv
open Go.Proofs.YthbjllabgpaaaaaGreat.RegTwo (arr_all getD_same)
set_option linter.unusedVariables false
set_option maxRecDepth 100000
theorem chain_ok {T:List UInt8} {P:Nat→Tok→Prop} {s p:Nat} {l:List Tok} (h:Chain T P s l p):l.all okT=true:=by
 induction h with
 | nil=>rfl
 | snoc h1 h2 h3 _ ih=>
  rw [List.all_append,ih];simp only [List.all_cons,List.all_nil,Bool.and_true,Bool.true_and];exact (errT_ok (h3.makes h2).1).1
def PackOf (win s:List UInt8) (l:List Tok):Prop:=∃A,Go.Proofs.YthbjllabgpaaaaaGreat.Lz.Links (tailL win++s) ((tailL win).length=0) A∧Chain (tailL win++s) (fun p t=>t=Go.Proofs.YthbjllabgpaaaaaGreat.Lz.longF (tailL win++s) A p) (tailL win).length l (tailL win++s).length
theorem PackOf.det {win s:List UInt8} {l m:List Tok} (h:PackOf win s l) (k:PackOf win s m) (hw:win=[]):l=m:=by
 obtain ⟨A,h1,h2⟩:=h;obtain ⟨B,k1,k2⟩:=k;obtain rfl:=h1.det k1 (by rw [hw];rfl)
 exact Go.Proofs.YthbjllabgpaaaaaGreat.Lz.Chain.det h2 k2
def CnD (own last:Bool) (l:List Tok) (l0 l1:List Bool):Prop:=∃X,CodZ own last l X∧l1=l0++X
theorem CnD.det {own last:Bool} {l:List Tok} {l0 a b:List Bool} (h:CnD own last l l0 a) (k:CnD own last l l0 b):a=b:=by
 obtain ⟨X,h1,rfl⟩:=h;obtain ⟨Y,k1,rfl⟩:=k;rw [h1.det k1]
def fiveD (last:Bool) (s:List UInt8) (l7 l8:List Tok) (l0:List Bool):Nat→List Bool→Prop
 | 0=>fun l1=>l1=stOne last l0 s
 | 1=>CnD false last l7 l0
 | 2=>CnD true last l7 l0
 | 3=>CnD false last l8 l0
 | _=>CnD true last l8 l0
theorem fiveD_det {last:Bool} {s:List UInt8} {l7 l8:List Tok} {l0 a b:List Bool} (j:Nat):fiveD last s l7 l8 l0 j a→fiveD last s l7 l8 l0 j b→a=b:=by
 match j with
 | 0=>exact fun h k=>Eq.trans h (Eq.symm k)
 | 1=>exact fun h k=>CnD.det h k
 | 2=>exact fun h k=>CnD.det h k
 | 3=>exact fun h k=>CnD.det h k
 | n+4=>exact fun h k=>CnD.det h k
def Least (D:Nat→List Bool→Prop) (l1:List Bool):Prop:=
 ∃(c:Nat→List Bool) (j:Nat),(∀i,i<5→D i (c i))∧j<5∧(∀k,k<5→(c j).length≤(c k).length∧(k<j→(c j).length<(c k).length))∧l1=c j
theorem Least.det {D:Nat→List Bool→Prop} (hD:∀j a b,D j a→D j b→a=b) {a b:List Bool} (h:Least D a) (k:Least D b):a=b:=by
 obtain ⟨c,j,h1,h2,h3,rfl⟩:=h;obtain ⟨d,i,k1,k2,k3,rfl⟩:=k;have e:∀i,i<5→c i=d i:=fun i hi=>hD i _ _ (h1 i hi) (k1 i hi)
 have e1:=e i k2;have e2:=e j h2;have p:=h3 i k2;have q:=k3 j h2;rw [e1,e2] at p
 obtain rfl:i=j:=by
  rcases Nat.lt_trichotomy i j with x | x | x
  ·have:=p.2 x;omega
  ·exact x
  ·have:=q.2 x;omega
 exact e1
def ShD (win s:List UInt8) (last:Bool) (l0 l1:List Bool):Prop:=∃l7,PackOf win s l7∧Least (fiveD last s l7 (s.map byteT) l0) l1
theorem ShD.det {win s:List UInt8} {last:Bool} {l0 a b:List Bool} (h:ShD win s last l0 a) (k:ShD win s last l0 b) (hw:win=[]):a=b:=by
 obtain ⟨l,h1,h2⟩:=h;obtain ⟨m,k1,k2⟩:=k;obtain rfl:=h1.det k1 hw;exact h2.det (fun j a b=>fiveD_det j) k2
structure PkV (N:Nat) (win s:List UInt8) (rn:Bool) (v:Value) (w:World):Prop where
 is:∃(a:Option Addr) (q c:Nat) (l:List Tok),v=.slice a q c∧l.length=q∧q≤6000∧IsToks w a l∧l.all okT=true∧(expL win l=s∧expE win l=0)∧(∀x,0<q→a=some x→N≤x.block) ∧
  (rn=true→win=[]→∀c n,s=List.replicate n c→(wrBits fxL fxD l).length≤79+18*(n/258))∧(rn=true→PackOf win s l)∧(rn=false→l=s.map byteT)
theorem PkV.below {N:Nat} {win s:List UInt8} {rn:Bool} {v:Value} {w w':World} (h:PkV N win s rn v w) (k:Below w.heap.size w w'):PkV N win s rn v w':=by
 obtain ⟨a,q,c,l,h1,h2,h3,h4,h5⟩:=h.is;exact ⟨a,q,c,l,h1,h2,h3,h4.below k (Nat.le_refl _),h5⟩
theorem pk_any (win s:ByteArray) (N:Nat) (W:World) (hN:N≤W.heap.size) (ws:win.size≤100000) (hs:s.size≤5000) :
  Calls Tryz.prog 97 #[.string win,.string s] W fun r w'=>∃v,r=.returned v∧PkV N win.data.toList s.data.toList true v w'∧Below W.heap.size W w':=by
 refine (pack_full win s W (by unfold maxLen;omega) (by omega)).mono ?_
 rintro r w' ⟨a,cap,l,rfl,hT,hb,_,hnew,A,hLk,hch⟩;have hpk:PackOf win.data.toList s.data.toList l:=⟨A,hLk,hch.mono fun p t h=>h.2⟩
 obtain ⟨e1,e2,e3⟩:=Lz.Chain.back hch;have hsz:s.data.toList.length=s.size:=by simp
 refine ⟨_,rfl,⟨a,l.length,cap,l,rfl,rfl,by omega,hT,chain_ok hch,⟨e1,e2⟩,fun x h0 hx=>?_,fun _ hw c n hs=>?_,fun _=>hpk,fun h=>by cases h⟩,hb⟩
 ·have:=hnew x.block (by rw [hx];simp [Value.ownBlock])
  omega
 ·rw [hw,hs] at hch;have e4:tailL ([]:List UInt8)=[]:=rfl;rw [e4,List.nil_append,List.length_nil,List.length_replicate] at hch;exact run_short (chain_mono (fun p t h=>h.1 rfl) hch)
theorem pl_any (win s:ByteArray) (N:Nat) (W:World) (hN:N≤W.heap.size) (hs:s.size≤5000) :
  Calls Tryz.prog 98 #[.string s] W fun r w'=>∃v,r=.returned v∧PkV N win.data.toList s.data.toList false v w'∧Below W.heap.size W w':=by
 refine (plain_any s W (by omega)).mono ?_
 rintro r w' ⟨rfl,hT,hb⟩;refine ⟨_,rfl,⟨_,s.size,s.size,s.data.toList.map byteT,rfl,by simp,by omega,hT,?_,exp_plain _ _,fun x _ hx=>?_,(fun h=>by cases h),(fun h=>by cases h),fun _=>rfl⟩,hb⟩
 ·rw [List.all_eq_true];intro t ht;obtain ⟨b,_,rfl⟩:=List.mem_map.1 ht;exact byteT_ok b
 ·cases hx;exact hN
structure BkV (B N:Nat) (l0:List Bool) (win s:List UInt8) (last:Bool) (D:List Bool→Prop) (Z:Nat→Prop) (v:Value) (w:World):Prop where
 is:∃(K:Nat) (F:FuncId) (C:Array Value),v=.agg #[.int .i64 (K:Nat),.func (.func F) #[] C]∧PutP B N l0 (fun l1=>Mks win last l0 s l1∧D l1) K F C w∧(∃l1,D l1∧l1.length=l0.length+K)∧Z K
theorem BkV.below {B N:Nat} {l0:List Bool} {win s:List UInt8} {last:Bool} {D:List Bool→Prop} {Z:Nat→Prop} {v:Value} {w w':World} (h:BkV B N l0 win s last D Z v w) (k:Below w.heap.size w w'):BkV B N l0 win s last D Z v w':=by
 obtain ⟨K,F,C,h1,h2,h3⟩:=h.is;exact ⟨K,F,C,h1,h2.keep (.below k),h3⟩
theorem stBk (B N:Nat) (l0:List Bool) (win:List UInt8) (s:ByteArray) (last:Bool) (W:World) (hN:N≤W.heap.size) (hl:l0.length≤800000) (hs:s.size≤65535) :
  Calls Tryz.prog 99 #[.agg #[.string s,.bool last],.int .i64 l0.length] W fun r w'=>∃v,r=.returned v∧BkV B N l0 win s.data.toList last (fun l1=>l1=stOne last l0 s.data.toList) (fun K=>l0.length+K=(stOne last l0 s.data.toList).length) v w'∧Below W.heap.size W w':=by
 refine (storedBlock_any l0 win s last W B N hN hl hs).mono ?_;rintro r w' ⟨K,F,C,rfl,h1,h2,h3⟩;exact ⟨_,rfl,⟨K,F,C,rfl,h2,⟨_,rfl,h1.symm⟩,h1⟩,h3⟩
theorem coBk (B N:Nat) (l0:List Bool) (win s:List UInt8) (a:Option Addr) (q c:Nat) (own last:Bool) (l:List Tok) (W:World) (hB:B≤N) (hN:N≤W.heap.size) (hl:l0.length≤800000) (hT:IsToks W a l) (hq:l.length=q) (hq2:q≤6000) (hv:l.all okT=true)
  (he:expL win l=s∧expE win l=0) (hnew:∀x,0<q→a=some x→N≤x.block) :
  Calls Tryz.prog 100 #[.slice a q c,.bool own,.bool last] W fun r w'=>∃v,r=.returned v∧BkV B N l0 win s last (CnD own last l l0) (fun K=>own=false→K=3+(wrBits fxL fxD l).length) v w'∧Below W.heap.size W w':=by
 refine (codedBlock_any a q c own last l W hT hq hq2 hv).mono ?_;rintro r w' ⟨v,rfl,hC,hb⟩
 have hlt:∀x,0<q→a=some x→x.block<w'.heap.size:=by
  intro x h0 hx;obtain ⟨b',off,e,hb',_⟩:=hT (by omega)
  rw [e] at hx
  cases hx
  exact Nat.lt_of_lt_of_le hb' hb.size
 obtain ⟨K,p1,p2,p3,p4,p5,p6,rfl,h1,h2,⟨X0,hX0,hX1⟩,h3⟩:=hC.puts hq hq2;refine ⟨_,rfl,⟨K,_,_,rfl,⟨.inr ⟨rfl,p1,p2,p3,p4,p5,p6,rfl⟩,h2,fun w2 hk b v hw hbB hvB=>?_⟩,⟨l0++X0,⟨X0,hX0,rfl⟩,by rw [List.length_append,hX1]⟩,h1⟩,hb⟩
 refine (h3 w2 hk.size (fun k hk1 hk2=>hk.block k (by omega) hk2) (fun x h0 hx=>hk.block x.block (hnew x h0 hx) (hlt x h0 hx)) b v l0 hw hl (by omega) (fun k hk=>by have:=hvB k hk;omega) (fun x h0 hx=>?_)).mono ?_
 ·have:=hnew x h0 hx
  exact ⟨by omega,fun e=>by have:=hvB _ e;omega⟩
 ·rintro r w3 ⟨rfl,v',X,h4,h5,h6,h7⟩;refine ⟨rfl,v',_,h4,?_,mks_coded h6 he,X,h7,rfl⟩;rw [List.length_append,h5]
theorem BkV.map {B N:Nat} {l0:List Bool} {win s:List UInt8} {last:Bool} {D:List Bool→Prop} {Z Y:Nat→Prop} {v:Value} {w:World} (h:BkV B N l0 win s last D Z v w) (f:∀K,Z K→Y K):BkV B N l0 win s last D Y v w:=by
 obtain ⟨K,F,C,h1,h2,h3,h4⟩:=h.is;exact ⟨K,F,C,h1,h2,h3,f K h4⟩
structure LsV (B N:Nat) (l0:List Bool) (win s:List UInt8) (last:Bool) (D:Nat→List Bool→Prop) (Z0 Z1:Nat→Prop) (v:Value) (w:World):Prop where
 is:∃(g:Nat) (bs:Nat→Nat×FuncId×Array Value),v=.slice (some ⟨g,0,none⟩) 5 5∧BlksAt w g 5 bs∧(∀i,i<5→PutP B N l0 (fun l1=>Mks win last l0 s l1∧D i l1) (bs i).1 (bs i).2.1 (bs i).2.2 w)∧(∀i,i<5→∃l1,D i l1∧l1.length=l0.length+(bs i).1)∧Z0 (bs 0).1∧Z1 (bs 1).1
def fives (K0 K1 K2 K3 K4:Nat) (F0 F1 F2 F3 F4:FuncId) (C0 C1 C2 C3 C4:Array Value):Nat→Nat×FuncId×Array Value
 | 0=>(K0,F0,C0)
 | 1=>(K1,F1,C1)
 | 2=>(K2,F2,C2)
 | 3=>(K3,F3,C3)
 | _=>(K4,F4,C4)
theorem ls_new {B N:Nat} {l0:List Bool} {win s:List UInt8} {last:Bool} {D:Nat→List Bool→Prop} {Z0 Z1:Nat→Prop} {W:World} {K0 K1 K2 K3 K4:Nat} {F0 F1 F2 F3 F4:FuncId} {C0 C1 C2 C3 C4:Array Value} (T:TypeId)
  (h0:PutP B N l0 (fun l1=>Mks win last l0 s l1∧D 0 l1) K0 F0 C0 W) (h1:PutP B N l0 (fun l1=>Mks win last l0 s l1∧D 1 l1) K1 F1 C1 W) (h2:PutP B N l0 (fun l1=>Mks win last l0 s l1∧D 2 l1) K2 F2 C2 W) (h3:PutP B N l0 (fun l1=>Mks win last l0 s l1∧D 3 l1) K3 F3 C3 W) (h4:PutP B N l0 (fun l1=>Mks win last l0 s l1∧D 4 l1) K4 F4 C4 W)
  (x0:∃l1,D 0 l1∧l1.length=l0.length+K0) (x1:∃l1,D 1 l1∧l1.length=l0.length+K1) (x2:∃l1,D 2 l1∧l1.length=l0.length+K2) (x3:∃l1,D 3 l1∧l1.length=l0.length+K3) (x4:∃l1,D 4 l1∧l1.length=l0.length+K4) (z0:Z0 K0) (z1:Z1 K1) :
  LsV B N l0 win s last D Z0 Z1 (.slice (some ⟨W.heap.size,0,none⟩) 5 5) (W.alloc (.cells #[.int .i64 (K0:Nat),.func (.func F0) #[] C0,.int .i64 (K1:Nat),.func (.func F1) #[] C1,.int .i64 (K2:Nat),.func (.func F2) #[] C2,.int .i64 (K3:Nat),.func (.func F3) #[] C3,.int .i64 (K4:Nat),.func (.func F4) #[] C4] T)) ∧
   Below W.heap.size W (W.alloc (.cells #[.int .i64 (K0:Nat),.func (.func F0) #[] C0,.int .i64 (K1:Nat),.func (.func F1) #[] C1,.int .i64 (K2:Nat),.func (.func F2) #[] C2,.int .i64 (K3:Nat),.func (.func F3) #[] C3,.int .i64 (K4:Nat),.func (.func F4) #[] C4] T)):=by
 have hb:=(Below.refl W.heap.size W).alloc (Nat.le_refl _) (.cells #[.int .i64 (K0:Nat),.func (.func F0) #[] C0,.int .i64 (K1:Nat),.func (.func F1) #[] C1,.int .i64 (K2:Nat),.func (.func F2) #[] C2,.int .i64 (K3:Nat),.func (.func F3) #[] C3,.int .i64 (K4:Nat),.func (.func F4) #[] C4] T);have hn:=heap_alloc_new W (.cells #[.int .i64 (K0:Nat),.func (.func F0) #[] C0,.int .i64 (K1:Nat),.func (.func F1) #[] C1,.int .i64 (K2:Nat),.func (.func F2) #[] C2,.int .i64 (K3:Nat),.func (.func F3) #[] C3,.int .i64 (K4:Nat),.func (.func F4) #[] C4] T);refine ⟨⟨W.heap.size,fives K0 K1 K2 K3 K4 F0 F1 F2 F3 F4 C0 C1 C2 C3 C4,rfl,⟨(Array.getElem?_eq_some_iff.1 hn).1,fun i hi=>?_⟩,fun i hi=>?_,fun i hi=>?_,z0,z1⟩,hb⟩
 ·rw [cell_of_row _ _ _ _ _ _ hn,cell_of_row _ _ _ _ _ _ hn]
  match i,hi with
  | 0,_=>exact ⟨rfl,rfl⟩
  | 1,_=>exact ⟨rfl,rfl⟩
  | 2,_=>exact ⟨rfl,rfl⟩
  | 3,_=>exact ⟨rfl,rfl⟩
  | 4,_=>exact ⟨rfl,rfl⟩
 ·match i,hi with
  | 0,_=>exact h0.keep (.below hb)
  | 1,_=>exact h1.keep (.below hb)
  | 2,_=>exact h2.keep (.below hb)
  | 3,_=>exact h3.keep (.below hb)
  | 4,_=>exact h4.keep (.below hb)
 ·match i,hi with
  | 0,_=>exact x0
  | 1,_=>exact x1
  | 2,_=>exact x2
  | 3,_=>exact x3
  | 4,_=>exact x4
theorem LsV.below {B N:Nat} {l0:List Bool} {win s:List UInt8} {last:Bool} {D:Nat→List Bool→Prop} {Z0 Z1:Nat→Prop} {v:Value} {w w':World} (h:LsV B N l0 win s last D Z0 Z1 v w) (k:Below w.heap.size w w'):LsV B N l0 win s last D Z0 Z1 v w':=by
 obtain ⟨g,bs,h1,h2,h3,h4⟩:=h.is;exact ⟨g,bs,h1,h2.below k (Nat.le_refl _),fun i hi=>(h3 i hi).keep (.below k),h4⟩
theorem least_of {l0 l1:List Bool} {D:Nat→List Bool→Prop} {bs:Nat→Nat×FuncId×Array Value} {j:Nat} (hj:j<5) (hm:∀k,k<5→(bs j).1≤(bs k).1∧(k<j→(bs j).1<(bs k).1)) (hx:∀i,i<5→∃l1,D i l1∧l1.length=l0.length+(bs i).1) (h:D j l1) (hl:l1.length=l0.length+(bs j).1):Least D l1:=by
 have hc:∀i,∃x:List Bool,i<5→D i x∧x.length=l0.length+(bs i).1∧(i=j→x=l1):=fun i=>by
  by_cases e:i=j
  ·subst e;exact ⟨l1,fun _=>⟨h,hl,fun _=>rfl⟩⟩
  ·by_cases hi:i<5
   ·obtain ⟨x,h1,h2⟩:=hx i hi;exact ⟨x,fun _=>⟨h1,h2,fun h=>absurd h e⟩⟩
   ·exact ⟨[],fun h=>absurd h hi⟩
 refine ⟨fun i=>Classical.choose (hc i),j,fun i hi=>(Classical.choose_spec (hc i) hi).1,hj,fun k hk=>?_,((Classical.choose_spec (hc j) hj).2.2 rfl).symm⟩
 have e1:=(Classical.choose_spec (hc j) hj).2.1;have e2:=(Classical.choose_spec (hc k) hk).2.1
 have:=hm k hk
 show (Classical.choose (hc j)).length≤(Classical.choose (hc k)).length∧_;rw [e1,e2];exact ⟨by omega,fun h=>by have:=this.2 h;omega⟩
theorem ret_sh (tmps:Array Value) (w:World) (R:Nat) (K:Nat) (f:Value) (hp:tmps.getD 6 undef=.pointer (some ⟨R,0,none⟩)) (hg:w.heap[R]?=some (.cells #[.int .i64 (K:Nat),f] 119 (0,0))) :
  (results Tryz.f69 tmps).run Tryz.prog w=.ok (.agg #[.int .i64 (K:Nat),f]) w:=
 results_cell_row rfl tmps w R 119 #[.int .i64 (K:Nat),f] (0,0) _ hp hg Tryz.underlying119 rfl (by kernel_rfl)
def shU (N p4:Nat) (win s:ByteArray) (j:Nat) (v:Value) (w:World):Prop:=match j with
 | 0=>v=.string win
 | 1=>v=.pointer (some ⟨p4,0,none⟩)
 | 2=>v=.string s
 | 3=>PkV N win.data.toList s.data.toList true v w
 | 4=>v=.pointer (some ⟨p4,0,none⟩)
 | 5=>v=.string s
 | 6=>PkV N win.data.toList s.data.toList false v w
 | 7=>PkV N win.data.toList s.data.toList true v w
 | 8=>PkV N win.data.toList s.data.toList false v w
 | _=>True
theorem shU_keep {N p4:Nat} {win s:ByteArray} {W W':World} (k:Below W.heap.size W W') (j:Nat) (u:Value) (h:shU N p4 win s j u W):shU N p4 win s j u W':=by
 unfold shU at h ⊢
 split at h
 all_goals first
  | exact h
  | exact PkV.below h k
def shV (B N p4 at_ S r1:Nat) (l0:List Bool) (win:List UInt8) (s:ByteArray) (last:Bool) (a1:Option Addr) (q1 c1:Nat) (a2:Option Addr) (q2 c2:Nat) (l7 l8:List Tok) (j:Nat) (v:Value) (w:World):Prop:=match j with
 | 0=>v=.agg #[.string s,.bool last]
 | 1=>v=.int .i64 at_
 | 2=>BkV B N l0 win s.data.toList last (fun l1=>l1=stOne last l0 s.data.toList) (fun K=>at_+K=S) v w
 | 3=>v=.slice a1 q1 c1
 | 4=>v=.pointer (some ⟨p4,1,none⟩)
 | 5=>v=.bool last
 | 6=>BkV B N l0 win s.data.toList last (CnD false last l7 l0) (fun K=>false=false→K=3+r1) v w
 | 7=>v=.slice a1 q1 c1
 | 8=>v=.pointer (some ⟨p4,1,none⟩)
 | 9=>v=.bool last
 | 10=>BkV B N l0 win s.data.toList last (CnD true last l7 l0) (fun _=>True) v w
 | 11=>v=.slice a2 q2 c2
 | 12=>v=.pointer (some ⟨p4,1,none⟩)
 | 13=>v=.bool last
 | 14=>BkV B N l0 win s.data.toList last (CnD false last l8 l0) (fun _=>True) v w
 | 15=>v=.slice a2 q2 c2
 | 16=>v=.pointer (some ⟨p4,1,none⟩)
 | 17=>v=.bool last
 | 18=>BkV B N l0 win s.data.toList last (CnD true last l8 l0) (fun _=>True) v w
 | 19=>LsV B N l0 win s.data.toList last (fiveD last s.data.toList l7 l8 l0) (fun K=>at_+K=S) (fun K=>false=false→K=3+r1) v w
 | 20=>LsV B N l0 win s.data.toList last (fiveD last s.data.toList l7 l8 l0) (fun K=>at_+K=S) (fun K=>false=false→K=3+r1) v w
 | _=>True
theorem shV_keep {B N p4 at_ S r1:Nat} {l0:List Bool} {win:List UInt8} {s:ByteArray} {last:Bool} {a1:Option Addr} {q1 c1:Nat} {a2:Option Addr} {q2 c2:Nat} {l7 l8:List Tok} {W W':World} (k:Below W.heap.size W W') (j:Nat) (u:Value) (h:shV B N p4 at_ S r1 l0 win s last a1 q1 c1 a2 q2 c2 l7 l8 j u W):shV B N p4 at_ S r1 l0 win s last a1 q1 c1 a2 q2 c2 l7 l8 j u W':=by
 unfold shV at h ⊢
 split at h
 all_goals first
  | exact h
  | exact BkV.below h k
  | exact LsV.below h k
theorem Keep.set {N p i:Nat} {W:World} (v:Value) (h:p<N):Keep N W (W.setCell ⟨p,i,none⟩ v):=
 ⟨by simp [World.setCell],fun k hk _=>heap_setCell_other W ⟨p,i,none⟩ k _ (by show k≠p;omega)⟩
theorem shortest_any (l0:List Bool) (win s:ByteArray) (last:Bool) (w:World) (hl:l0.length≤800000) (ws:win.size≤100000) (hs:s.size≤5000) :
  Calls Tryz.prog 69 #[.string win,.agg #[.string s,.bool last],.int .i64 l0.length] w fun r w'=>∃N K F C,r=.returned (.agg #[.int .i64 (K:Nat),.func (.func F) #[] C])∧PutP w.heap.size N l0 (fun l1=>Mks win.data.toList last l0 s.data.toList l1∧ShD win.data.toList s.data.toList last l0 l1) K F C w' ∧
   l0.length+K≤(stOne last l0 s.data.toList).length∧(win.data.toList=[]→∀c n,s.data.toList=List.replicate n c→K≤82+18*(n/258))∧Below w.heap.size w w':=by
 obtain ⟨x1,x2,x3⟩:=two_new w (.cells #[.string s,.bool last] 116) (.cells #[.int .i64 0,.nilFunc] 119);have hz:((w.alloc (.cells #[.string s,.bool last] 116)).alloc (.cells #[.int .i64 0,.nilFunc] 119)).heap.size=w.heap.size+2:=by simp
 obtain ⟨at_,hat⟩:∃at_,l0.length=at_:=⟨_,rfl⟩;obtain ⟨S,hS⟩:∃S,(stOne last l0 s.data.toList).length=S:=⟨_,rfl⟩
 have HST:Hid (∀B N W,N≤W.heap.size→Calls Tryz.prog 99 #[.agg #[.string s,.bool last],.int .i64 at_] W fun r w'=>∃v,r=.returned v∧BkV B N l0 win.data.toList s.data.toList last (fun l1=>l1=stOne last l0 s.data.toList) (fun K=>at_+K=S) v w'∧Below W.heap.size W w'):=hid fun B N W h=>by
  have:=stBk B N l0 win.data.toList s last W h hl (by omega)
  rw [hat,hS] at this;exact this
 have HCO:Hid (∀B N,B≤N→∀a q c l own W,N≤W.heap.size→IsToks W a l→l.length=q→q≤6000→l.all okT=true→(expL win.data.toList l=s.data.toList∧expE win.data.toList l=0)→(∀x,0<q→a=some x→N≤x.block) →
   Calls Tryz.prog 100 #[.slice a q c,.bool own,.bool last] W fun r w'=>∃v,r=.returned v∧BkV B N l0 win.data.toList s.data.toList last (CnD own last l l0) (fun K=>own=false→K=3+(wrBits fxL fxD l).length) v w'∧Below W.heap.size W w'):=hid fun B N hBN a q c l own W h1 h2 h3 h4 h5 h6 h7=>coBk B N l0 win.data.toList s.data.toList a q c own last l W hBN h1 hl h2 h3 h4 h5 h6 h7
 have HSZ:=hid (And.intro ws hs);have HAT:=hid hat;rw [hat,hS];clear hat hS hl ws hs
 go_enter Tryz.func69,Tryz.ntmps69
 go_wp2_with fail
 generalize ((w.alloc (.cells #[.string s,.bool last] 116)).alloc (.cells #[.int .i64 0,.nilFunc] 119))=w1 at *;obtain ⟨B,hB⟩:∃B,w.heap.size=B:=⟨_,rfl⟩;rw [hB] at x1 x2 x3 hz ⊢;obtain ⟨N,hN⟩:∃N,w1.heap.size=N:=⟨_,rfl⟩;have HB:Hid (B+2=N∧Below B w w1∧w1.heap.size=N):=hid ⟨by omega,x3,hN⟩
 have HX:Hid (w1.heap[B]?=some (.cells #[.string s,.bool last] 116 (0,0))∧w1.heap[B+1]?=some (.cells #[.int .i64 0,.nilFunc] 119 (0,0))):=hid ⟨x1,x2⟩
 have HD:Hid (∀W,Below w1.heap.size w1 W→W.cell? ⟨B,0,none⟩=some (.string s)∧W.cell? ⟨B,1,none⟩=some (.bool last)):=hid fun W hW=>
  ⟨(hW.cell (p:=⟨B,0,none⟩) (Array.getElem?_eq_some_iff.1 x1).1).trans ((cell_of_row _ _ 0 _ _ _ x1).trans rfl),(hW.cell (p:=⟨B,1,none⟩) (Array.getElem?_eq_some_iff.1 x1).1).trans ((cell_of_row _ _ 1 _ _ _ x1).trans rfl)⟩
 have HBW:=hid hB;clear x1 x2 x3 hz hN hB;refine region_ops (n:=39) (by kernel_rfl) (shU N B win s) (fun W=>Below w1.heap.size w1 W) (by kernel_rfl) (by kernel_rfl) (by rfl) (by kernel_rfl) ((Below.refl _ _).drew) ⟨?_,?_,?_,?_,?_,?_,?_,?_,?_,trivial⟩ ?_
 ·intro act W hS hsame hdeps;have e0:act.tmps[0]?=some (.string win):=hsame 0 (by kernel_rfl)
  clear hsame hdeps;refine ⟨wanted_none (by rfl),fun K hK=>?_⟩
  go_simp;exact hK _ _ (by rfl) hS (fun _ _ h=>h)
 ·intro act W hS hsame hdeps;have e4:act.tmps[4]?=some (.pointer (some ⟨B,0,none⟩)):=hsame 4 (by kernel_rfl)
  clear hsame hdeps;refine ⟨wanted_none (by rfl),fun K hK=>?_⟩
  go_simp;exact hK _ _ (by rfl) hS (fun _ _ h=>h)
 ·intro act W hS hsame hdeps;obtain ⟨x11,e11,y11⟩:=hdeps ⟨1,.data⟩ (by simp) (by rfl) 11 (by rfl)
  replace y11:x11=.pointer (some ⟨B,0,none⟩):=y11
  subst y11;clear hsame hdeps;refine ⟨wanted_none (by rfl),fun K hK=>?_⟩
  obtain ⟨d0,d1⟩:=HD.out W hS;go_simp;exact hK _ _ (by rfl) hS (fun _ _ h=>h)
 ·intro act W hS hsame hdeps;obtain ⟨x10,e10,y10⟩:=hdeps ⟨0,.data⟩ (by simp) (by rfl) 10 (by rfl)
  replace y10:x10=.string win:=y10
  subst y10;obtain ⟨x12,e12,y12⟩:=hdeps ⟨2,.data⟩ (by simp) (by rfl) 12 (by rfl)
  replace y12:x12=.string s:=y12
  subst y12;clear hsame hdeps;refine ⟨wanted_none (by rfl),fun K hK=>?_⟩
  go_simp;refine (pk_any win s N W (by have:=hS.size;have:=HB.out.2.2;omega) HSZ.out.1 HSZ.out.2).mono ?_
  rintro r w' ⟨v,rfl,hv,b'⟩;exact hK _ _ hv (hS.trans (b'.mono hS.size)) (fun j u h=>shU_keep b' j u h)
 ·intro act W hS hsame hdeps;have e4:act.tmps[4]?=some (.pointer (some ⟨B,0,none⟩)):=hsame 4 (by kernel_rfl)
  clear hsame hdeps;refine ⟨wanted_none (by rfl),fun K hK=>?_⟩
  go_simp;exact hK _ _ (by rfl) hS (fun _ _ h=>h)
 ·intro act W hS hsame hdeps;obtain ⟨x14,e14,y14⟩:=hdeps ⟨4,.data⟩ (by simp) (by rfl) 14 (by rfl)
  replace y14:x14=.pointer (some ⟨B,0,none⟩):=y14
  subst y14;clear hsame hdeps;refine ⟨wanted_none (by rfl),fun K hK=>?_⟩
  obtain ⟨d0,d1⟩:=HD.out W hS;go_simp;exact hK _ _ (by rfl) hS (fun _ _ h=>h)
 ·intro act W hS hsame hdeps;obtain ⟨x15,e15,y15⟩:=hdeps ⟨5,.data⟩ (by simp) (by rfl) 15 (by rfl)
  replace y15:x15=.string s:=y15
  subst y15;clear hsame hdeps;refine ⟨wanted_none (by rfl),fun K hK=>?_⟩
  go_simp;refine (pl_any win s N W (by have:=hS.size;have:=HB.out.2.2;omega) HSZ.out.2).mono ?_
  rintro r w' ⟨v,rfl,hv,b'⟩;exact hK _ _ hv (hS.trans (b'.mono hS.size)) (fun j u h=>shU_keep b' j u h)
 ·intro act W hS hsame hdeps;obtain ⟨x13,e13,y13⟩:=hdeps ⟨3,.data⟩ (by simp) (by rfl) 13 (by rfl)
  clear hsame hdeps;refine ⟨wanted_none (by rfl),fun K hK=>?_⟩
  go_simp;exact hK _ _ y13 hS (fun _ _ h=>h)
 ·intro act W hS hsame hdeps;obtain ⟨x16,e16,y16⟩:=hdeps ⟨6,.data⟩ (by simp) (by rfl) 16 (by rfl)
  clear hsame hdeps;refine ⟨wanted_none (by rfl),fun K hK=>?_⟩
  go_simp;exact hK _ _ y16 hS (fun _ _ h=>h)
 ·intro act W hS hd hz hsame hdone;obtain ⟨tm,df⟩:=act;obtain rfl:df=[]:=hd;obtain ⟨x7,e7,y7⟩:=hdone 7 7 (by rfl)
  obtain ⟨⟨a7,q7,c7,l7,rfl,T7⟩⟩:=(y7:PkV N win.data.toList s.data.toList true x7 W);have q7:=getD_same e7;obtain ⟨x8,e8,y8⟩:=hdone 8 8 (by rfl)
  obtain ⟨⟨a8,q8,c8,l8,rfl,T8⟩⟩:=(y8:PkV N win.data.toList s.data.toList false x8 W);have q8:=getD_same e8;have q0:=getD_same (hsame 0 (by kernel_rfl))
  have q1:=getD_same (hsame 1 (by kernel_rfl))
  have q2:=getD_same (hsame 2 (by kernel_rfl))
  have q3:=getD_same (hsame 3 (by kernel_rfl))
  have q4:=getD_same (hsame 4 (by kernel_rfl))
  have q5:=getD_same (hsame 5 (by kernel_rfl))
  have q6:=getD_same (hsame 6 (by kernel_rfl))
  have q9:=getD_same (hsame 9 (by kernel_rfl))
  have q17:=getD_same (hsame 17 (by kernel_rfl))
  have q18:=getD_same (hsame 18 (by kernel_rfl))
  have q19:=getD_same (hsame 19 (by kernel_rfl))
  have q20:=getD_same (hsame 20 (by kernel_rfl))
  have q21:=getD_same (hsame 21 (by kernel_rfl))
  have q22:=getD_same (hsame 22 (by kernel_rfl))
  have q23:=getD_same (hsame 23 (by kernel_rfl))
  have q24:=getD_same (hsame 24 (by kernel_rfl))
  have q25:=getD_same (hsame 25 (by kernel_rfl))
  have q26:=getD_same (hsame 26 (by kernel_rfl))
  have q27:=getD_same (hsame 27 (by kernel_rfl))
  have q28:=getD_same (hsame 28 (by kernel_rfl))
  have q29:=getD_same (hsame 29 (by kernel_rfl))
  have q30:=getD_same (hsame 30 (by kernel_rfl))
  have q31:=getD_same (hsame 31 (by kernel_rfl))
  have q32:=getD_same (hsame 32 (by kernel_rfl))
  have q33:=getD_same (hsame 33 (by kernel_rfl))
  have q34:=getD_same (hsame 34 (by kernel_rfl))
  have q35:=getD_same (hsame 35 (by kernel_rfl))
  have q36:=getD_same (hsame 36 (by kernel_rfl))
  have q37:=getD_same (hsame 37 (by kernel_rfl))
  have q38:=getD_same (hsame 38 (by kernel_rfl))
  clear hsame hdone;clear e7 e8;rw [arr_all tm 39 hz,show List.range 39=[0,1,2,3,4,5,6,7,8,9,10,11,12,13,14,15,16,17,18,19,20,21,22,23,24,25,26,27,28,29,30,31,32,33,34,35,36,37,38] from rfl]
  simp only [List.map_cons,List.map_nil,List.getElem_toArray,List.getElem_cons_zero,List.getElem_cons_succ,q0,q1,q2,q3,q4,q5,q6,q7,q8,q9,q17,q18,q19,q20,q21,q22,q23,q24,q25,q26,q27,q28,q29,q30,q31,q32,q33,q34,q35,q36,q37,q38];clear q0 q1 q2 q3 q4 q5 q6 q7 q8 q9 q17 q18 q19 q20 q21 q22 q23 q24 q25 q26 q27 q28 q29 q30 q31 q32 q33 q34 q35 q36 q37 q38 hz;generalize tm.getD 10 undef=z10;generalize tm.getD 11 undef=z11;generalize tm.getD 12 undef=z12;generalize tm.getD 13 undef=z13;generalize tm.getD 14 undef=z14;generalize tm.getD 15 undef=z15;generalize tm.getD 16 undef=z16;have HP:=hid (And.intro T7 T8);have HS2:=hid hS;clear T7 T8 hS
  go_wp2_with fail
  obtain ⟨r1,hr1⟩:∃r1,(wrBits fxL fxD l7).length=r1:=⟨_,rfl⟩;have HR:=hid hr1;clear hr1;refine region_ops (n:=39) (by kernel_rfl) (shV B N B at_ S r1 l0 win.data.toList s last a7 q7 c7 a8 q8 c8 l7 l8) (fun W2=>Below W.heap.size W W2) (by kernel_rfl) (by kernel_rfl) (by rfl) (by kernel_rfl) ((Below.refl _ _).drew) ⟨?_,?_,?_,?_,?_,?_,?_,?_,?_,?_,?_,?_,?_,?_,?_,?_,?_,?_,?_,?_,?_,trivial⟩ ?_
  ·intro act W hS hsame hdeps;have e4:act.tmps[4]?=some (.pointer (some ⟨B,0,none⟩)):=hsame 4 (by kernel_rfl)
   clear hsame hdeps;refine ⟨wanted_none (by rfl),fun K hK=>?_⟩
   obtain ⟨d0,d1⟩:=HD.out _ (HS2.out.trans (hS.mono HS2.out.size));go_simp;exact hK _ _ (by rfl) hS (fun _ _ h=>h)
  ·intro act W hS hsame hdeps;have e2:act.tmps[2]?=some (.int .i64 at_):=hsame 2 (by kernel_rfl)
   clear hsame hdeps;refine ⟨wanted_none (by rfl),fun K hK=>?_⟩
   go_simp;exact hK _ _ (by rfl) hS (fun _ _ h=>h)
  ·intro act W hS hsame hdeps;obtain ⟨x17,e17,y17⟩:=hdeps ⟨0,.data⟩ (by simp) (by rfl) 17 (by rfl)
   replace y17:x17=.agg #[.string s,.bool last]:=y17
   subst y17;obtain ⟨x18,e18,y18⟩:=hdeps ⟨1,.data⟩ (by simp) (by rfl) 18 (by rfl)
   replace y18:x18=.int .i64 at_:=y18
   subst y18;clear hsame hdeps;refine ⟨wanted_none (by rfl),fun K hK=>?_⟩
   go_simp;refine (HST.out B N W (by have:=hS.size;have:=HS2.out.size;have:=HB.out.2.2;omega)).mono ?_
   rintro r w' ⟨v,rfl,hv,b'⟩;exact hK _ _ hv (hS.trans (b'.mono hS.size)) (fun j u h=>shV_keep b' j u h)
  ·intro act W hS hsame hdeps;have e7:act.tmps[7]?=some (.slice a7 q7 c7):=hsame 7 (by kernel_rfl)
   clear hsame hdeps;refine ⟨wanted_none (by rfl),fun K hK=>?_⟩
   go_simp;exact hK _ _ (by rfl) hS (fun _ _ h=>h)
  ·intro act W hS hsame hdeps;have e4:act.tmps[4]?=some (.pointer (some ⟨B,0,none⟩)):=hsame 4 (by kernel_rfl)
   clear hsame hdeps;refine ⟨wanted_none (by rfl),fun K hK=>?_⟩
   go_simp;exact hK _ _ (by rfl) hS (fun _ _ h=>h)
  ·intro act W hS hsame hdeps;obtain ⟨x21,e21,y21⟩:=hdeps ⟨4,.data⟩ (by simp) (by rfl) 21 (by rfl)
   replace y21:x21=.pointer (some ⟨B,1,none⟩):=y21
   subst y21;clear hsame hdeps;refine ⟨wanted_none (by rfl),fun K hK=>?_⟩
   obtain ⟨d0,d1⟩:=HD.out _ (HS2.out.trans (hS.mono HS2.out.size));go_simp;exact hK _ _ (by rfl) hS (fun _ _ h=>h)
  ·intro act W hS hsame hdeps;obtain ⟨x20,e20,y20⟩:=hdeps ⟨3,.data⟩ (by simp) (by rfl) 20 (by rfl)
   replace y20:x20=.slice a7 q7 c7:=y20
   subst y20;obtain ⟨x22,e22,y22⟩:=hdeps ⟨5,.data⟩ (by simp) (by rfl) 22 (by rfl)
   replace y22:x22=.bool last:=y22
   subst y22;clear hsame hdeps;refine ⟨wanted_none (by rfl),fun K hK=>?_⟩
   go_simp;refine (HCO.out B N (by have:=HB.out.1;omega) _ _ _ _ false W (by have:=hS.size;have:=HS2.out.size;have:=HB.out.2.2;omega) (HP.out.1.2.2.1.below hS (Nat.le_refl _)) HP.out.1.1 HP.out.1.2.1 HP.out.1.2.2.2.1 HP.out.1.2.2.2.2.1 HP.out.1.2.2.2.2.2.1).mono ?_
   rintro r w' ⟨v,rfl,hv,b'⟩;exact hK _ _ (hv.map fun K h=>by rw [←HR.out];exact h) (hS.trans (b'.mono hS.size)) (fun j u h=>shV_keep b' j u h)
  ·intro act W hS hsame hdeps;have e7:act.tmps[7]?=some (.slice a7 q7 c7):=hsame 7 (by kernel_rfl)
   clear hsame hdeps;refine ⟨wanted_none (by rfl),fun K hK=>?_⟩
   go_simp;exact hK _ _ (by rfl) hS (fun _ _ h=>h)
  ·intro act W hS hsame hdeps;have e4:act.tmps[4]?=some (.pointer (some ⟨B,0,none⟩)):=hsame 4 (by kernel_rfl)
   clear hsame hdeps;refine ⟨wanted_none (by rfl),fun K hK=>?_⟩
   go_simp;exact hK _ _ (by rfl) hS (fun _ _ h=>h)
  ·intro act W hS hsame hdeps;obtain ⟨x25,e25,y25⟩:=hdeps ⟨8,.data⟩ (by simp) (by rfl) 25 (by rfl)
   replace y25:x25=.pointer (some ⟨B,1,none⟩):=y25
   subst y25;clear hsame hdeps;refine ⟨wanted_none (by rfl),fun K hK=>?_⟩
   obtain ⟨d0,d1⟩:=HD.out _ (HS2.out.trans (hS.mono HS2.out.size));go_simp;exact hK _ _ (by rfl) hS (fun _ _ h=>h)
  ·intro act W hS hsame hdeps;obtain ⟨x24,e24,y24⟩:=hdeps ⟨7,.data⟩ (by simp) (by rfl) 24 (by rfl)
   replace y24:x24=.slice a7 q7 c7:=y24
   subst y24;obtain ⟨x26,e26,y26⟩:=hdeps ⟨9,.data⟩ (by simp) (by rfl) 26 (by rfl)
   replace y26:x26=.bool last:=y26
   subst y26;clear hsame hdeps;refine ⟨wanted_none (by rfl),fun K hK=>?_⟩
   go_simp;refine (HCO.out B N (by have:=HB.out.1;omega) _ _ _ _ true W (by have:=hS.size;have:=HS2.out.size;have:=HB.out.2.2;omega) (HP.out.1.2.2.1.below hS (Nat.le_refl _)) HP.out.1.1 HP.out.1.2.1 HP.out.1.2.2.2.1 HP.out.1.2.2.2.2.1 HP.out.1.2.2.2.2.2.1).mono ?_
   rintro r w' ⟨v,rfl,hv,b'⟩;exact hK _ _ (hv.map fun K _=>trivial) (hS.trans (b'.mono hS.size)) (fun j u h=>shV_keep b' j u h)
  ·intro act W hS hsame hdeps;have e8:act.tmps[8]?=some (.slice a8 q8 c8):=hsame 8 (by kernel_rfl)
   clear hsame hdeps;refine ⟨wanted_none (by rfl),fun K hK=>?_⟩
   go_simp;exact hK _ _ (by rfl) hS (fun _ _ h=>h)
  ·intro act W hS hsame hdeps;have e4:act.tmps[4]?=some (.pointer (some ⟨B,0,none⟩)):=hsame 4 (by kernel_rfl)
   clear hsame hdeps;refine ⟨wanted_none (by rfl),fun K hK=>?_⟩
   go_simp;exact hK _ _ (by rfl) hS (fun _ _ h=>h)
  ·intro act W hS hsame hdeps;obtain ⟨x29,e29,y29⟩:=hdeps ⟨12,.data⟩ (by simp) (by rfl) 29 (by rfl)
   replace y29:x29=.pointer (some ⟨B,1,none⟩):=y29
   subst y29;clear hsame hdeps;refine ⟨wanted_none (by rfl),fun K hK=>?_⟩
   obtain ⟨d0,d1⟩:=HD.out _ (HS2.out.trans (hS.mono HS2.out.size));go_simp;exact hK _ _ (by rfl) hS (fun _ _ h=>h)
  ·intro act W hS hsame hdeps;obtain ⟨x28,e28,y28⟩:=hdeps ⟨11,.data⟩ (by simp) (by rfl) 28 (by rfl)
   replace y28:x28=.slice a8 q8 c8:=y28
   subst y28;obtain ⟨x30,e30,y30⟩:=hdeps ⟨13,.data⟩ (by simp) (by rfl) 30 (by rfl)
   replace y30:x30=.bool last:=y30
   subst y30;clear hsame hdeps;refine ⟨wanted_none (by rfl),fun K hK=>?_⟩
   go_simp;refine (HCO.out B N (by have:=HB.out.1;omega) _ _ _ _ false W (by have:=hS.size;have:=HS2.out.size;have:=HB.out.2.2;omega) (HP.out.2.2.2.1.below hS (Nat.le_refl _)) HP.out.2.1 HP.out.2.2.1 HP.out.2.2.2.2.1 HP.out.2.2.2.2.2.1 HP.out.2.2.2.2.2.2.1).mono ?_
   rintro r w' ⟨v,rfl,hv,b'⟩;exact hK _ _ (hv.map fun K _=>trivial) (hS.trans (b'.mono hS.size)) (fun j u h=>shV_keep b' j u h)
  ·intro act W hS hsame hdeps;have e8:act.tmps[8]?=some (.slice a8 q8 c8):=hsame 8 (by kernel_rfl)
   clear hsame hdeps;refine ⟨wanted_none (by rfl),fun K hK=>?_⟩
   go_simp;exact hK _ _ (by rfl) hS (fun _ _ h=>h)
  ·intro act W hS hsame hdeps;have e4:act.tmps[4]?=some (.pointer (some ⟨B,0,none⟩)):=hsame 4 (by kernel_rfl)
   clear hsame hdeps;refine ⟨wanted_none (by rfl),fun K hK=>?_⟩
   go_simp;exact hK _ _ (by rfl) hS (fun _ _ h=>h)
  ·intro act W hS hsame hdeps;obtain ⟨x33,e33,y33⟩:=hdeps ⟨16,.data⟩ (by simp) (by rfl) 33 (by rfl)
   replace y33:x33=.pointer (some ⟨B,1,none⟩):=y33
   subst y33;clear hsame hdeps;refine ⟨wanted_none (by rfl),fun K hK=>?_⟩
   obtain ⟨d0,d1⟩:=HD.out _ (HS2.out.trans (hS.mono HS2.out.size));go_simp;exact hK _ _ (by rfl) hS (fun _ _ h=>h)
  ·intro act W hS hsame hdeps;obtain ⟨x32,e32,y32⟩:=hdeps ⟨15,.data⟩ (by simp) (by rfl) 32 (by rfl)
   replace y32:x32=.slice a8 q8 c8:=y32
   subst y32;obtain ⟨x34,e34,y34⟩:=hdeps ⟨17,.data⟩ (by simp) (by rfl) 34 (by rfl)
   replace y34:x34=.bool last:=y34
   subst y34;clear hsame hdeps;refine ⟨wanted_none (by rfl),fun K hK=>?_⟩
   go_simp;refine (HCO.out B N (by have:=HB.out.1;omega) _ _ _ _ true W (by have:=hS.size;have:=HS2.out.size;have:=HB.out.2.2;omega) (HP.out.2.2.2.1.below hS (Nat.le_refl _)) HP.out.2.1 HP.out.2.2.1 HP.out.2.2.2.2.1 HP.out.2.2.2.2.2.1 HP.out.2.2.2.2.2.2.1).mono ?_
   rintro r w' ⟨v,rfl,hv,b'⟩;exact hK _ _ (hv.map fun K _=>trivial) (hS.trans (b'.mono hS.size)) (fun j u h=>shV_keep b' j u h)
  ·intro act W hS hsame hdeps;obtain ⟨x19,e19,y19⟩:=hdeps ⟨2,.data⟩ (by simp) (by rfl) 19 (by rfl)
   obtain ⟨⟨K19,F19,C19,rfl,P19,X19,Z19⟩⟩:=(y19:BkV B N l0 win.data.toList s.data.toList last (fun l1=>l1=stOne last l0 s.data.toList) (fun K=>at_+K=S) x19 W)
   obtain ⟨x23,e23,y23⟩:=hdeps ⟨6,.data⟩ (by simp) (by rfl) 23 (by rfl)
   obtain ⟨⟨K23,F23,C23,rfl,P23,X23,Z23⟩⟩:=(y23:BkV B N l0 win.data.toList s.data.toList last (CnD false last l7 l0) (fun K=>false=false→K=3+r1) x23 W)
   obtain ⟨x27,e27,y27⟩:=hdeps ⟨10,.data⟩ (by simp) (by rfl) 27 (by rfl)
   obtain ⟨⟨K27,F27,C27,rfl,P27,X27,Z27⟩⟩:=(y27:BkV B N l0 win.data.toList s.data.toList last (CnD true last l7 l0) (fun _=>True) x27 W)
   obtain ⟨x31,e31,y31⟩:=hdeps ⟨14,.data⟩ (by simp) (by rfl) 31 (by rfl)
   obtain ⟨⟨K31,F31,C31,rfl,P31,X31,Z31⟩⟩:=(y31:BkV B N l0 win.data.toList s.data.toList last (CnD false last l8 l0) (fun _=>True) x31 W)
   obtain ⟨x35,e35,y35⟩:=hdeps ⟨18,.data⟩ (by simp) (by rfl) 35 (by rfl)
   obtain ⟨⟨K35,F35,C35,rfl,P35,X35,Z35⟩⟩:=(y35:BkV B N l0 win.data.toList s.data.toList last (CnD true last l8 l0) (fun _=>True) x35 W)
   clear hsame hdeps;refine ⟨wanted_none (by rfl),fun K hK=>?_⟩
   obtain ⟨L1,L2⟩:=ls_new (D:=fiveD last s.data.toList l7 l8 l0) (Z0:=fun K=>at_+K=S) (Z1:=fun K=>false=false→K=3+r1) 119 P19 P23 P27 P31 P35 X19 X23 X27 X31 X35 Z19 Z23
   have HL:=hid (And.intro L1 L2);clear L1 L2 P19 P23 P27 P31 P35 X19 X23 X27 X31 X35 Z19 Z23 Z27 Z31 Z35;go_simp;exact hK _ _ HL.out.1 (hS.trans (HL.out.2.mono hS.size)) (fun j u h=>shV_keep HL.out.2 j u h)
  ·intro act W hS hsame hdeps;obtain ⟨x36,e36,y36⟩:=hdeps ⟨19,.data⟩ (by simp) (by rfl) 36 (by rfl)
   clear hsame hdeps;refine ⟨wanted_none (by rfl),fun K hK=>?_⟩
   go_simp;exact hK _ _ y36 hS (fun _ _ h=>h)
  ·intro act W hS hd hz hsame hdone;obtain ⟨tm,df⟩:=act;obtain rfl:df=[]:=hd;obtain ⟨x9,e9,y9⟩:=hdone 20 9 (by rfl)
   obtain ⟨⟨g,bs,rfl,HG,HQ,HEX,z0,z1⟩⟩:=(y9:LsV B N l0 win.data.toList s.data.toList last (fiveD last s.data.toList l7 l8 l0) (fun K=>at_+K=S) (fun K=>false=false→K=3+r1) x9 W)
   have q9:=getD_same e9;have q0:=getD_same (hsame 0 (by kernel_rfl))
   have q1:=getD_same (hsame 1 (by kernel_rfl))
   have q2:=getD_same (hsame 2 (by kernel_rfl))
   have q3:=getD_same (hsame 3 (by kernel_rfl))
   have q4:=getD_same (hsame 4 (by kernel_rfl))
   have q5:=getD_same (hsame 5 (by kernel_rfl))
   have q6:=getD_same (hsame 6 (by kernel_rfl))
   have q7:=getD_same (hsame 7 (by kernel_rfl))
   have q8:=getD_same (hsame 8 (by kernel_rfl))
   have q10:=getD_same (hsame 10 (by kernel_rfl))
   have q11:=getD_same (hsame 11 (by kernel_rfl))
   have q12:=getD_same (hsame 12 (by kernel_rfl))
   have q13:=getD_same (hsame 13 (by kernel_rfl))
   have q14:=getD_same (hsame 14 (by kernel_rfl))
   have q15:=getD_same (hsame 15 (by kernel_rfl))
   have q16:=getD_same (hsame 16 (by kernel_rfl))
   have q37:=getD_same (hsame 37 (by kernel_rfl))
   have q38:=getD_same (hsame 38 (by kernel_rfl))
   clear hsame hdone;clear e9;rw [arr_all tm 39 hz,show List.range 39=[0,1,2,3,4,5,6,7,8,9,10,11,12,13,14,15,16,17,18,19,20,21,22,23,24,25,26,27,28,29,30,31,32,33,34,35,36,37,38] from rfl]
   simp only [List.map_cons,List.map_nil,List.getElem_toArray,List.getElem_cons_zero,List.getElem_cons_succ,q0,q1,q2,q3,q4,q5,q6,q7,q8,q9,q10,q11,q12,q13,q14,q15,q16,q37,q38];clear q0 q1 q2 q3 q4 q5 q6 q7 q8 q9 q10 q11 q12 q13 q14 q15 q16 q37 q38 hz;generalize tm.getD 17 undef=z17;generalize tm.getD 18 undef=z18;generalize tm.getD 19 undef=z19;generalize tm.getD 20 undef=z20;generalize tm.getD 21 undef=z21;generalize tm.getD 22 undef=z22;generalize tm.getD 23 undef=z23;generalize tm.getD 24 undef=z24;generalize tm.getD 25 undef=z25;generalize tm.getD 26 undef=z26;generalize tm.getD 27 undef=z27;generalize tm.getD 28 undef=z28;generalize tm.getD 29 undef=z29;generalize tm.getD 30 undef=z30;generalize tm.getD 31 undef=z31;generalize tm.getD 32 undef=z32;generalize tm.getD 33 undef=z33;generalize tm.getD 34 undef=z34;generalize tm.getD 35 undef=z35;generalize tm.getD 36 undef=z36;have HF:=hid (And.intro HQ (And.intro z0 (z1 rfl)));have EX:=hid HEX;have HB2:Hid (Below w1.heap.size w1 W):=hid (HS2.out.trans (hS.mono HS2.out.size));have CM:=hid (min_any g 5 5 bs W HG (by omega) (by omega))
   clear HG HQ HEX z0 z1 hS
   go_wp2_with fail
   refine CM.out.mono ?_;rintro r W3 ⟨j,hj,hmin,rfl,b3⟩;have HMIN:Hid ((bs j).1≤(bs 0).1∧(bs j).1≤(bs 1).1):=hid ⟨(hmin 0 (by omega)).1,(hmin 1 (by omega)).1⟩
   have HPU:=(HF.out.1 j hj).imp (G':=fun l1=>Mks win.data.toList last l0 s.data.toList l1∧ShD win.data.toList s.data.toList last l0 l1) fun l1 hlen hG=>⟨hG.1,l7,HP.out.1.2.2.2.2.2.2.2.1 trivial,by
    have e8:=HP.out.2.2.2.2.2.2.2.2.2 trivial;rw [←e8];exact least_of hj hmin EX.out hG.2 hlen⟩
   obtain ⟨K,hK⟩:∃K,(bs j).1=K:=⟨_,rfl⟩;obtain ⟨F,hF⟩:∃F,(bs j).2.1=F:=⟨_,rfl⟩;obtain ⟨C,hC⟩:∃C,(bs j).2.2=C:=⟨_,rfl⟩;rw [hF,hC,hK] at HPU ⊢;rw [hK] at HMIN
   have h6:W3.heap[B+1]?=some (.cells #[.int .i64 0,.nilFunc] 119 (0,0)):=by
    have hlt:=(Array.getElem?_eq_some_iff.1 HX.out.2).1;rw [b3.block _ (Nat.lt_of_lt_of_le hlt HB2.out.size),HB2.out.block _ hlt];exact HX.out.2
   obtain ⟨⟨s0,f0⟩,hst,hfin⟩:=store_blk K F C h6;have HB3:Hid (Below B w W3):=hid (HB.out.2.1.trans ((HB2.out.trans (b3.mono HB2.out.size)).mono (by have:=HB.out.1;have:=HB.out.2.2;omega)))
   have HFIN:Hid (((W3.setCell ⟨B+1,0,none⟩ (.int .i64 (K:Nat))).setCell ⟨B+1,1,none⟩ (.func (.func F) #[] C)).heap[B+1]?=some (.cells #[.int .i64 (K:Nat),.func (.func F) #[] C] 119 (0,0)) ∧
     PutP B N l0 (fun l1=>Mks win.data.toList last l0 s.data.toList l1∧ShD win.data.toList s.data.toList last l0 l1) K F C ((W3.setCell ⟨B+1,0,none⟩ (.int .i64 (K:Nat))).setCell ⟨B+1,1,none⟩ (.func (.func F) #[] C))∧Below B w ((W3.setCell ⟨B+1,0,none⟩ (.int .i64 (K:Nat))).setCell ⟨B+1,1,none⟩ (.func (.func F) #[] C))):=hid ⟨hfin,HPU.keep ((Keep.below b3).trans ((Keep.set _ (by have:=HB.out.1;omega)).trans (Keep.set _ (by have:=HB.out.1;omega)))),
      (HB3.out.setCell (by show B≤B+1;omega) _).setCell (by show B≤B+1;omega) _⟩
   clear CM hmin hK hF hC HPU h6 hfin b3
   go_wp2_with fail
   refine bodyPost_ret (ret_sh _ _ (B+1) K _ rfl HFIN.out.1) rfl ?_;rw [HBW.out];refine ⟨N,K,F,C,rfl,HFIN.out.2.1,?_,fun hw c n hs=>?_,HFIN.out.2.2⟩
   ·have h1:=HMIN.out.1;have h2:=HF.out.2.1;omega
   ·have h1:=HMIN.out.2;have h2:=HF.out.2.2;have h3:=HP.out.1.2.2.2.2.2.2.1 trivial hw c n hs;have h4:=HR.out;omega
end Go.Proofs.YthbjllabgpaaaaaGreat.Dfl
