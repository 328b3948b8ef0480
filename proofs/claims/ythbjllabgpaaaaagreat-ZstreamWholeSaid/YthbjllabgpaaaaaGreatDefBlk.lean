/-
  Contracts of the reference's Block of layer 8, where a block stands.
-/
import Derived.Test.YthbjllabgpaaaaaGreatAllDef
import Derived.Test.YthbjllabgpaaaaaGreatDefHdr
import Derived.Test.YthbjllabgpaaaaaGreatAllSymR
import Derived.Test.YthbjllabgpaaaaaGreatAllPack
namespace Go.Proofs.YthbjllabgpaaaaaGreat.Def
open Go.Lib (hid)
set_option maxHeartbeats 8000000
open Go.ChangeShapes Go.WideShapes Go.ChangeAt Go.RowKit
open Go.Proofs.YthbjllabgpaaaaaGreat.Huf (IsInts)
open Go.Proofs.YthbjllabgpaaaaaGreat.Bit (RfAt tb tb_length tbits bitsOf bitsOf_length rgrown_trans rgrown_drewN)
open Go.Proofs.YthbjllabgpaaaaaGreat.Lz (Tok expL expE IsToks toks_of_row cellsT refExpand_any)
open Go.Proofs.YthbjllabgpaaaaaGreat.Sym
set_option linter.unusedVariables false
set_option maxRecDepth 100000
theorem results_tmp4 {fn:Func} {t u v x:Tmp} (h:fn.results=#[.tmp t,.tmp u,.tmp v,.tmp x]) (tmps:Array Value) (P:Program) (w:World) :
  (results fn tmps).run P w=.ok (.tuple #[tmps.getD t undef,tmps.getD u undef,tmps.getD v undef,tmps.getD x undef]) w:=by
 simp [results,h]
theorem bits_last (last:Bool):[last]=bitsOf 1 ((last.toNat:Nat):Int):=by cases last <;> decide
theorem has_cons {T:List Bool} {p:Nat} {x:Bool} {l:List Bool} (h:Has T p (x::l)):Has T p [x]∧Has T (p+1) l:=by
 have h':Has T p ([x]++l):=h;exact ⟨h'.left,h'.right⟩
theorem refBlock_plain (b p f:Nat) (last:Bool) (most:Int) (v:Value) (t s win:ByteArray) (w:World) (hr:RfAt w b v (tb t) p false) (ht:t.size≤100000) (hn:s.size≤65535) (hm:(s.size:Int)≤most) (hf:(p+10)/8=f)
  (h3:Has (tb t) p [last,false,false]) (h:Has (tb t) (8*f) (plB s.data.toList)) :
  Calls Tryz.prog 32 #[.pointer (some ⟨b,0,none⟩),.string win,.int .i64 most] w fun r w'=>r=.returned (.tuple #[.string s,.bool last,.int .i64 0,.int .i64 0])∧RfAt w' b v (tb t) (8*f+(plB s.data.toList).length) false∧w.grownBy w' (some b):=by
 have hT:(tb t).length≤8000000:=by rw [tb_length];omega
 obtain ⟨l1,l2⟩:=has_cons h3;have l3:Has (tb t) (p+1) (bitsOf 2 ((0:Nat):Int)):=l2;rw [bits_last last] at l1;have hA1:last.toNat<2:=by cases last <;> decide
 have e1:(((last.toNat:Nat):Int)==1)=last:=by cases last <;> rfl
 have e2:decide (((last.toNat:Nat):Int)=1)=last:=by cases last <;> rfl
 generalize last.toNat=A at *;have C1:=hid (bits_here (k:=1) (by omega) hr hT l1 (by show A<2;omega))
 have HT:=hid (And.intro hT (And.intro ht (And.intro hn hm)));have HF:=hid (show (p+1+2+7)/8=f by omega)
 have H:=hid h;have H3:=hid l3;have i1:(A:Int)<2:=by omega
 clear hr ht hn hm hf h3 h l1 l2 l3 hT hA1
 go_enter Tryz.func32,Tryz.ntmps32
 go_wp2_with fail
 refine C1.out.mono ?_;rintro r w1 ⟨rfl,r1,g1⟩;have C2:=hid (bits_here (k:=2) (by omega) r1 HT.out.1 H3.out (by omega))
 have G1:=hid g1;clear r1 g1 C1
 go_wp2_with fail
 refine C2.out.mono ?_;rintro r w2 ⟨rfl,r2,g2⟩;have G2:=hid (rgrown_trans G1.out g2);have CP:=hid (refPlain_any b (p+1+2) f most v t s w2 r2 HT.out.2.1 HT.out.2.2.1 HT.out.2.2.2 HF.out H.out);have z2:w2.cell? ⟨b,2,none⟩=some (.int .i64 0):=r2.cells.2.2.1;clear r2 g2 C2 G1 H
 go_wp2_with fail
 refine CP.out.mono ?_;rintro r w3 ⟨rfl,r3,g3⟩;have HH:=hid (And.intro r3 (rgrown_trans G2.out g3));clear r3 g3 CP G2 z2
 go_wp2_with fail
 (try simp only [Exit.inBlock,Exit.then])
 refine bodyPost_ret (results_tmp4 rfl _ _ _) rfl ?_;exact ⟨rfl,HH.out⟩
def blkV (win:ByteArray) (l:List Tok) (last:Bool) (K:Nat):Value:=
 if expE win.data.toList l=0 then .tuple #[.string ⟨(expL win.data.toList l).toArray⟩,.bool last,.int .i64 (K:Nat),.int .i64 0] else .tuple #[.string ⟨#[]⟩,.bool false,.int .i64 0,.int .i64 (expE win.data.toList l)]
theorem blkV_eq {win:ByteArray} {l:List Tok} {xs:List UInt8} {xe:Int} (h1:expL win.data.toList l=xs) (h2:expE win.data.toList l=xe) (last:Bool) (K:Nat) :
  blkV win l last K=if xe=0 then .tuple #[.string ⟨xs.toArray⟩,.bool last,.int .i64 (K:Nat),.int .i64 0] else .tuple #[.string ⟨#[]⟩,.bool false,.int .i64 0,.int .i64 xe]:=by
 unfold blkV;rw [h1,h2]
theorem toks_read (b n m i:Nat) (c1 c2:Nat) (a1 a2:Option Addr) (N M:List Nat) (l:List Tok) (most:Int) (v:Value) (T:List Bool) (w:World) (hN:N.length=n) (hM:M.length=m) (hn:n≤320) (hm:m≤320) (iN:IsInts w a1 (ints N)) (iM:IsInts w a2 (ints M))
  (hr:RfAt w b v T i false) (hT:T.length≤8000000) (hF:Fit N M l) (hh:Has T i (wrBits N M l)) (hs:((sumT l:Nat):Int)≤most) :
  Calls Tryz.prog 56 #[.pointer (some ⟨b,0,none⟩),.slice a1 n c1,.slice a2 m c2,.int .i64 most] w fun r w'=>∃a c,r=.returned (.tuple #[.slice a l.length c,.int .i64 0])∧IsToks w' a l∧RfAt w' b v T (i+(wrBits N M l).length) false∧w.grownBy w' (some b):=by
 have e:=read_here hF hh most hs;have hi:i≤T.length:=by have:=hh.1;omega
 have:=refRead_any b v T i a1 a2 n c1 m c2 (ints N) (ints M) most w hr hi hT (by rw [ints_length];exact hN) (by rw [ints_length];exact hM) iN iM (by omega) (by omega)
 rw [e] at this;refine this.mono ?_;rintro r w' ⟨u,rfl,ho,hg,j,bad,hr',hok⟩;simp only at ho hr' hok;obtain ⟨rfl,rfl⟩:=hok rfl;rcases ho.2 with ⟨h1,h2⟩ | ⟨g,cap,cur,h1,h2,h3⟩
 ·subst h1;exact ⟨none,0,by rw [h2],fun h0=>by omega,hr',hg⟩
 ·subst h1;exact ⟨_,_,rfl,toks_of_row rfl ho,hr',hg⟩
theorem refBlock_fixed (b p:Nat) (last:Bool) (l:List Tok) (most:Int) (v:Value) (T:List Bool) (win:ByteArray) (w:World) (hr:RfAt w b v T p false) (hT:T.length≤8000000) (hw:win.size≤maxLen) (hll:l.length≤3000000) (hs:((sumT l:Nat):Int)≤most)
  (hF:Fit fxL fxD l) (h:Has T p ([last,true,false]++wrBits fxL fxD l)) :
  Calls Tryz.prog 32 #[.pointer (some ⟨b,0,none⟩),.string win,.int .i64 most] w fun r w'=>r=.returned (blkV win l last 1)∧RfAt w' b v T (p+3+(wrBits fxL fxD l).length) false∧w.grownBy w' (some b):=by
 obtain ⟨l1,l2⟩:=has_cons h.left;have l3:Has T (p+1) (bitsOf 2 ((1:Nat):Int)):=l2;have l4:Has T (p+3) (wrBits fxL fxD l):=h.right;rw [bits_last last] at l1;have hA1:last.toNat<2:=by cases last <;> decide
 have e1:(((last.toNat:Nat):Int)==1)=last:=by cases last <;> rfl
 have e2:decide (((last.toNat:Nat):Int)=1)=last:=by cases last <;> rfl
 generalize last.toNat=A at *;have C1:=hid (bits_here (k:=1) (by omega) hr hT l1 (by show A<2;omega))
 have HT:=hid (And.intro hT (And.intro hw (And.intro hll hs)));have H3:=hid l3;have H4:=hid l4;have HF:=hid hF;have i1:(A:Int)<2:=by omega
 have hxl:fxL.length=288:=by decide
 have hxd:fxD.length=30:=by decide
 obtain ⟨N,hN⟩:∃N,fxL=N:=⟨_,rfl⟩;obtain ⟨M,hM⟩:∃M,fxD=M:=⟨_,rfl⟩;have FX:=hid (@refFixed_any);rw [hN] at HF H4 hxl FX ⊢;rw [hM] at HF H4 hxd FX ⊢;have HX:=hid (And.intro hxl hxd);clear hr hT hw hll hs h l1 l2 l3 l4 hA1 hF hN hM hxl hxd;generalize hq:p+3+(wrBits N M l).length=q;have HQ:=hid hq;clear hq
 go_enter Tryz.func32,Tryz.ntmps32
 go_wp2_with fail
 refine C1.out.mono ?_;rintro r w1 ⟨rfl,r1,g1⟩;have C2:=hid (bits_here (k:=2) (by omega) r1 HT.out.1 H3.out (by omega))
 have G1:=hid g1;clear r1 g1 C1
 go_wp2_with fail
 refine C2.out.mono ?_;rintro r w2 ⟨rfl,r2,g2⟩;have G2:=hid (rgrown_trans G1.out g2);have R2:=hid r2;have z2:w2.cell? ⟨b,2,none⟩=some (.int .i64 0):=r2.cells.2.2.1;clear r2 g2 C2 G1
 go_wp2_with fail
 refine (FX.out w2).mono ?_;rintro r w3 ⟨a1,c1,a2,c2,rfl,iN,iM,b3⟩;have CR:=hid (toks_read b 288 30 (p+1+2) c1 c2 _ _ N M l most v T w3 HX.out.1 HX.out.2 (by omega) (by omega) iN iM (R2.out.below b3) HT.out.1 HF.out H4.out HT.out.2.2.2)
 have G3:Hid (w.grownBy w3 (some b)):=hid (rgrown_trans G2.out (below_grown b3));clear iN iM b3 R2 G2 z2
 go_wp2_with fail
 refine CR.out.mono ?_;rintro r w4 ⟨ta,tc,rfl,t4,r4,g4⟩;have CE:=hid (refExpand_any win ta l l.length tc w4 rfl t4 HT.out.2.1 HT.out.2.2.1);have hq4:p+1+2+(wrBits N M l).length=q:=HQ.out;rw [hq4] at r4;have HH:=hid (And.intro r4 (rgrown_trans G3.out g4));obtain ⟨xs,hxs⟩:∃xs,expL win.data.toList l=xs:=⟨_,rfl⟩;obtain ⟨xe,hxe⟩:∃xe,expE win.data.toList l=xe:=⟨_,rfl⟩;rw [hxs,hxe] at CE;have HV:=hid (And.intro hxs hxe);clear hxs hxe;generalize l.length=ll at *;clear t4 r4 g4 CR G3 hq4
 go_wp2_with fail
 refine CE.out.mono ?_;rintro r w5 ⟨rfl,b5⟩;have HH2:=hid (And.intro (HH.out.1.below b5) (rgrown_trans HH.out.2 (below_grown b5)));clear b5 HH CE
 by_cases hx:xe=0
 ·subst hx
  go_wp2_with fail
  (try simp only [Exit.inBlock,Exit.then])
  refine bodyPost_ret (results_tmp4 rfl _ _ _) rfl ?_;refine ⟨?_,HH2.out⟩;rw [blkV_eq HV.out.1 HV.out.2,if_pos rfl]
  rfl
 ·have hx':(xe==0)=false:=by simp [hx]
  have HNX:=hid hx
  go_wp2_with fail
  (try simp only [Exit.inBlock,Exit.then])
  refine bodyPost_ret (results_tmp4 rfl _ _ _) rfl ?_;refine ⟨?_,HH2.out⟩;rw [blkV_eq HV.out.1 HV.out.2,if_neg HNX.out]
  rfl
theorem refBlock_own (b p n m k:Nat) (last:Bool) (N M O:List Nat) (Y:List (Nat×Nat)) (l:List Tok) (most:Int) (v:Value) (T:List Bool) (win:ByteArray) (w:World) (hr:RfAt w b v T p false) (hT:T.length≤8000000) (hw:win.size≤maxLen) (hll:l.length≤3000000) (hs:((sumT l:Nat):Int)≤most)
  (hn:N.length=n) (hm:M.length=m) (hH:IsHdr N M k O Y) (hF:Fit N M l) (h:Has T p ([last,false,true]++(hdrB N M k O Y++wrBits N M l))) :
  Calls Tryz.prog 32 #[.pointer (some ⟨b,0,none⟩),.string win,.int .i64 most] w fun r w'=>r=.returned (blkV win l last 2)∧RfAt w' b v T (p+3+(hdrB N M k O Y).length+(wrBits N M l).length) false∧w.grownBy w' (some b):=by
 obtain ⟨l1,l2⟩:=has_cons h.left;have l3:Has T (p+1) (bitsOf 2 ((2:Nat):Int)):=l2;have l4:Has T (p+1+2) (hdrB N M k O Y):=h.right.left;have l5:Has T (p+1+2+(hdrB N M k O Y).length) (wrBits N M l):=h.right.right;rw [bits_last last] at l1;have hA1:last.toNat<2:=by cases last <;> decide
 have e1:(((last.toNat:Nat):Int)==1)=last:=by cases last <;> rfl
 have e2:decide (((last.toNat:Nat):Int)=1)=last:=by cases last <;> rfl
 generalize last.toNat=A at *;have C1:=hid (bits_here (k:=1) (by omega) hr hT l1 (by show A<2;omega))
 have HT:=hid (And.intro hT (And.intro hw (And.intro hll hs)));have H3:=hid l3;have H4:=hid l4;have H5:=hid l5;have HHD:=hid hH;have HF:=hid hF;have i1:(A:Int)<2:=by omega
 have HX:=hid (And.intro hn hm);have HB:=hid (show n≤320∧m≤320 by have h1:=hH.lits;have h2:=hH.dists;omega)
 have b1:(n:Int)≤320:=by have h1:=hH.lits;omega
 have b2:(m:Int)≤320:=by have h1:=hH.dists;omega
 clear hr hT hw hll hs h l1 l2 l3 l4 l5 hA1 hF hH hn hm;generalize hq:p+3+(hdrB N M k O Y).length+(wrBits N M l).length=q;have HQ:=hid hq;clear hq
 go_enter Tryz.func32,Tryz.ntmps32
 go_wp2_with fail
 refine C1.out.mono ?_;rintro r w1 ⟨rfl,r1,g1⟩;have C2:=hid (bits_here (k:=2) (by omega) r1 HT.out.1 H3.out (by omega))
 have G1:=hid g1;clear r1 g1 C1
 go_wp2_with fail
 refine C2.out.mono ?_;rintro r w2 ⟨rfl,r2,g2⟩;have G2:=hid (rgrown_trans G1.out g2);have R2:=hid r2;have z2:w2.cell? ⟨b,2,none⟩=some (.int .i64 0):=r2.cells.2.2.1;clear r2 g2 C2 G1
 go_wp2_with fail
 refine (refFixed_any w2).mono ?_;rintro r w3 ⟨a1,c1,a2,c2,rfl,_,_,b3⟩;have CH:=hid (refHeader_any b (p+1+2) n m k v T N M O Y w3 HX.out.1 HX.out.2 HHD.out (R2.out.below b3) HT.out.1 H4.out);have G3:Hid (w.grownBy w3 (some b)):=hid (rgrown_trans G2.out (below_grown b3));clear b3 R2 G2 z2
 go_wp2_with fail
 refine CH.out.mono ?_;rintro r w6 ⟨g,d1,d2,rfl,iN,iM,r6,g6⟩;have CR:=hid (toks_read b n m (p+1+2+(hdrB N M k O Y).length) d1 d2 _ _ N M l most v T w6 HX.out.1 HX.out.2 HB.out.1 HB.out.2 iN iM r6 HT.out.1 HF.out H5.out HT.out.2.2.2);have G6:Hid (w.grownBy w6 (some b)):=hid (rgrown_trans G3.out g6);clear iN iM r6 g6 CH G3
 go_wp2_with fail
 refine CR.out.mono ?_;rintro r w4 ⟨ta,tc,rfl,t4,r4,g4⟩;have CE:=hid (refExpand_any win ta l l.length tc w4 rfl t4 HT.out.2.1 HT.out.2.2.1);have hq4:p+1+2+(hdrB N M k O Y).length+(wrBits N M l).length=q:=HQ.out;rw [hq4] at r4;have HH:=hid (And.intro r4 (rgrown_trans G6.out g4));obtain ⟨xs,hxs⟩:∃xs,expL win.data.toList l=xs:=⟨_,rfl⟩;obtain ⟨xe,hxe⟩:∃xe,expE win.data.toList l=xe:=⟨_,rfl⟩;rw [hxs,hxe] at CE;have HV:=hid (And.intro hxs hxe);clear hxs hxe;generalize l.length=ll at *;clear t4 r4 g4 CR G6 hq4
 go_wp2_with fail
 refine CE.out.mono ?_;rintro r w5 ⟨rfl,b5⟩;have HH2:=hid (And.intro (HH.out.1.below b5) (rgrown_trans HH.out.2 (below_grown b5)));clear b5 HH CE
 by_cases hx:xe=0
 ·subst hx
  go_wp2_with fail
  (try simp only [Exit.inBlock,Exit.then])
  refine bodyPost_ret (results_tmp4 rfl _ _ _) rfl ?_;refine ⟨?_,HH2.out⟩;rw [blkV_eq HV.out.1 HV.out.2,if_pos rfl]
  rfl
 ·have hx':(xe==0)=false:=by simp [hx]
  have HNX:=hid hx
  go_wp2_with fail
  (try simp only [Exit.inBlock,Exit.then])
  refine bodyPost_ret (results_tmp4 rfl _ _ _) rfl ?_;refine ⟨?_,HH2.out⟩;rw [blkV_eq HV.out.1 HV.out.2,if_neg HNX.out]
  rfl
end Go.Proofs.YthbjllabgpaaaaaGreat.Def
