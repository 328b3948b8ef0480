/-
  codedBlock by codes of its own.
-/
import Derived.Test.YthbjllabgpaaaaaGreatDflCloA
namespace Go.Proofs.YthbjllabgpaaaaaGreat.Dfl
open Go.Lib (hid)
set_option maxHeartbeats 8000000
open Go.ChangeShapes Go.WideShapes Go.ChangeAt Go.RowKit
open Go.Proofs.YthbjllabgpaaaaaGreat.Bit (WrAt But Near bitsOf bitsOf_length wlen_any)
open Go.Proofs.YthbjllabgpaaaaaGreat.Lz (Tok okT IsToks)
open Go.Proofs.YthbjllabgpaaaaaGreat.Def
open Go.Proofs.YthbjllabgpaaaaaGreat.Huf (IsInts used nats eval_tmp needed_ne lead_ne)
open Go.Proofs.YthbjllabgpaaaaaGreat.Sym
open Go.Proofs.YthbjllabgpaaaaaGreat.RegTwo
set_option linter.unusedVariables false
set_option maxRecDepth 100000
theorem coded_own (a:Option Addr) (q c:Nat) (last:Bool) (l:List Tok) (w:World) (hT:IsToks w a l) (hq:l.length=q) (hq2:q≤6000) (hv:l.all okT=true) :
  Calls Tryz.prog 100 #[.slice a q c,.bool true,.bool last] w fun r w'=>∃v,r=.returned v∧CoB w.heap.size w' a q c l true last v∧Below w.heap.size w w':=by
 have HT:=hid (And.intro hT (And.intro hq hv));clear hT hq hv
 go_enter Tryz.func100,Tryz.ntmps100
 go_wp2_with fail
 obtain ⟨⟨x3,x4,x5,x6,x7⟩,bX⟩:=five w (.cells #[.slice a q c] 97) (.cells #[.bool true] 4) (.cells #[.bool last] 4) (.cells #[.int .i64 0,.nilFunc] 119) (.cells #[.int .i64 1] 3);generalize (((((w.alloc (.cells #[.slice a q c] 97)).alloc (.cells #[.bool true] 4)).alloc (.cells #[.bool last] 4)).alloc (.cells #[.int .i64 0,.nilFunc] 119)).alloc (.cells #[.int .i64 1] 3))=w1 at *;obtain ⟨p3,hp3⟩:∃p,w.heap.size=p:=⟨_,rfl⟩;obtain ⟨p4,hp4⟩:∃p,w.heap.size+1=p:=⟨_,rfl⟩;obtain ⟨p5,hp5⟩:∃p,w.heap.size+1+1=p:=⟨_,rfl⟩;obtain ⟨p6,hp6⟩:∃p,w.heap.size+1+1+1=p:=⟨_,rfl⟩;obtain ⟨p7,hp7⟩:∃p,w.heap.size+1+1+1+1=p:=⟨_,rfl⟩;have ORD:Hid (w.heap.size≤p3∧p3<p4∧p4<p5∧p5<p6∧p6<p7):=hid (by omega)
 rw [hp7,hp6,hp5,hp4];rw [hp7] at x7;rw [hp6] at x6;rw [hp5] at x5;rw [hp4] at x4;rw [hp3] at x3 ⊢;have X1:Hid (Bx w1 p3 (.slice a q c) 97∧Bx w1 p4 (.bool true) 4∧Bx w1 p5 (.bool last) 4∧w1.heap[p6]?=some (.cells #[.int .i64 0,.nilFunc] 119 (0,0))∧Bx w1 p7 (.int .i64 1) 3∧Below w.heap.size w w1):=hid ⟨x3,x4,x5,x6,x7,bX⟩;have HP3:=hid hp3;clear x3 x4 x5 x6 x7 bX hp3 hp4 hp5 hp6 hp7;have CF:=hid (fixed_new w1);refine CF.out.mono ?_;rintro r w2 ⟨ga,ca,gb,cb,rfl,hIa,hIb,b2,hga,hgb⟩;obtain ⟨x8,x9,b3⟩:=two_new w2 (.cells #[.slice (some ⟨ga,0,none⟩) 288 ca] 92) (.cells #[.slice (some ⟨gb,0,none⟩) 30 cb] 92);have HI2:=hid (And.intro hIa (And.intro hIb (And.intro b2 (And.intro hga hgb))));have X2:Hid (Below w1.heap.size w1 ((w2.alloc (.cells #[.slice (some ⟨ga,0,none⟩) 288 ca] 92)).alloc (.cells #[.slice (some ⟨gb,0,none⟩) 30 cb] 92))∧Below w2.heap.size w2 ((w2.alloc (.cells #[.slice (some ⟨ga,0,none⟩) 288 ca] 92)).alloc (.cells #[.slice (some ⟨gb,0,none⟩) 30 cb] 92))):=hid ⟨b2.trans (b3.mono b2.size),b3⟩;have c3:((w2.alloc (.cells #[.slice (some ⟨ga,0,none⟩) 288 ca] 92)).alloc (.cells #[.slice (some ⟨gb,0,none⟩) 30 cb] 92)).cell? ⟨p3,0,none⟩=some (.slice a q c):=(X1.out.1.below X2.out.1).cell;clear hIa hIb b2 hga hgb CF b3
 go_wp2_with fail
 generalize ((w2.alloc (.cells #[.slice (some ⟨ga,0,none⟩) 288 ca] 92)).alloc (.cells #[.slice (some ⟨gb,0,none⟩) 30 cb] 92))=w3 at *;obtain ⟨p8,hp8⟩:∃p,w2.heap.size=p:=⟨_,rfl⟩;obtain ⟨p9,hp9⟩:∃p,w2.heap.size+1=p:=⟨_,rfl⟩;have Y8:Hid (Bx w3 p8 (.slice (some ⟨ga,0,none⟩) 288 ca) 92∧Bx w3 p9 (.slice (some ⟨gb,0,none⟩) 30 cb) 92∧w1.heap.size≤p8∧p8<p9):=hid ⟨by rw [←hp8];exact x8,by rw [←hp9];exact x9,by rw [←hp8];exact HI2.out.2.2.1.size,by omega⟩
 rw [hp9,hp8];clear x8 x9 hp8 hp9 c3;have B3:Hid (Below w.heap.size w w3):=hid (X1.out.2.2.2.2.2.trans (X2.out.1.mono X1.out.2.2.2.2.2.size));have CC:=hid (count_any a l q c w3 HT.out.2.1 (HT.out.1.below B3.out (Nat.le_refl _)) (by omega))
 refine CC.out.mono ?_;rintro r w4 ⟨g1,g2,rfl,n1,n2,b4⟩;have HN4:=hid (And.intro n1 (And.intro n2 b4));have c4:(w4.alloc (.cells #[.slice none 0 0,.int .i64 0] 85)).cell? ⟨p4,0,none⟩=some (.bool true):=(((X1.out.2.1.below X2.out.1).below b4).below ((Below.refl _ _).alloc (Nat.le_refl _) _)).cell;clear n1 n2 b4 CC;have c7:(w4.alloc (.cells #[.slice none 0 0,.int .i64 0] 85)).cell? ⟨p7,0,none⟩=some (.int .i64 1):=(((X1.out.2.2.2.2.1.below X2.out.1).below HN4.out.2.2).below ((Below.refl _ _).alloc (Nat.le_refl _) _)).cell;have f7:(w4.alloc (.cells #[.slice none 0 0,.int .i64 0] 85)).frozen? ⟨p7,0,none⟩=false:=(((X1.out.2.2.2.2.1.below X2.out.1).below HN4.out.2.2).below ((Below.refl _ _).alloc (Nat.le_refl _) _)).frozen;have Z5:Hid (WrAt (w4.alloc (.cells #[.slice none 0 0,.int .i64 0] 85)) w4.heap.size (.slice none 0 0) []∧Below w4.heap.size w4 (w4.alloc (.cells #[.slice none 0 0,.int .i64 0] 85))∧w4.heap.size<(w4.alloc (.cells #[.slice none 0 0,.int .i64 0] 85)).heap.size):=hid ⟨wr_new w4,(Below.refl _ _).alloc (Nat.le_refl _) _,by simp⟩
 obtain ⟨W5,hW5⟩:∃W5,(w4.alloc (.cells #[.slice none 0 0,.int .i64 0] 85))=W5:=⟨_,rfl⟩;rw [hW5] at c4 c7 f7 Z5;obtain ⟨W6,hW6⟩:∃W6,W5.setCell ⟨p7,0,none⟩ (.int .i64 2)=W6:=⟨_,rfl⟩;obtain ⟨p12,hp12⟩:∃p12,w4.heap.size=p12:=⟨_,rfl⟩;rw [hp12] at Z5;have HP12:=hid hp12
 -- what there is ahead of the stores
 have S5:Hid (Below w.heap.size w W5∧(Bx W5 p3 (.slice a q c) 97∧Bx W5 p4 (.bool true) 4∧Bx W5 p5 (.bool last) 4∧W5.heap[p6]?=some (.cells #[.int .i64 0,.nilFunc] 119 (0,0))∧Bx W5 p7 (.int .i64 1) 3∧Bx W5 p8 (.slice (some ⟨ga,0,none⟩) 288 ca) 92∧Bx W5 p9 (.slice (some ⟨gb,0,none⟩) 30 cb) 92)∧(AtN W5 g1 286 (litC l)∧AtN W5 g2 30 (dstC l))∧(p7<p8∧p9<p12∧p12<W5.heap.size∧g1<p12∧g2<p12)):=hid (by
  have hb:Below w3.heap.size w3 W5:=HN4.out.2.2.trans (Z5.out.2.1.mono (Nat.le_trans HN4.out.2.2.size (by rw [←hp12];exact Nat.le_refl _)))
  have hb1:Below w1.heap.size w1 W5:=X2.out.1.trans (hb.mono X2.out.1.size);have hb4:Below w4.heap.size w4 W5:=by rw [hp12];exact Z5.out.2.1
  have x:=X1.out;have y:=Y8.out;have hz:=X1.out.2.2.2.2.1.lt;have hn1:=HN4.out.1.lt;have hn2:=HN4.out.2.1.lt;have h9:=y.2.1.lt;have hs4:=HN4.out.2.2.size;have hz5:=Z5.out.2.2;have o:=ORD.out;refine ⟨B3.out.trans (hb.mono B3.out.size),⟨x.1.below hb1,x.2.1.below hb1,x.2.2.1.below hb1,?_,x.2.2.2.2.1.below hb1,y.1.below hb,y.2.1.below hb⟩,⟨HN4.out.1.below hb4,HN4.out.2.1.below hb4⟩,by omega⟩
  rw [hb1.block p6 (by omega)];exact x.2.2.2.1)
 have NE:Hid (g1≠p7∧g1≠p8∧g1≠p9∧g2≠p7∧g2≠p8∧g2≠p9):=hid
  ⟨at_ne S5.out.2.2.1.1 S5.out.2.1.2.2.2.2.1 (by decide),at_ne S5.out.2.2.1.1 S5.out.2.1.2.2.2.2.2.1 (by decide),at_ne S5.out.2.2.1.1 S5.out.2.1.2.2.2.2.2.2 (by decide),at_ne S5.out.2.2.1.2 S5.out.2.1.2.2.2.2.1 (by decide),at_ne S5.out.2.2.1.2 S5.out.2.1.2.2.2.2.2.1 (by decide),at_ne S5.out.2.2.1.2 S5.out.2.1.2.2.2.2.2.2 (by decide)⟩
 have HY8:Hid (p8<p9):=hid Y8.out.2.2.2
 have LC:Hid (∀s,litC l s≤1000000∧dstC l s≤1000000):=hid fun s=>by
  have h1:=lits_le l s;have h2:=dsts_le l s;have h3:=HT.out.2.1;rw [litC_eq];unfold dstC
  constructor
  ·split <;> omega
  ·omega
 have A6:Hid (AtN W6 g1 286 (litC l)∧AtN W6 g2 30 (dstC l)∧Bx W6 p7 (.int .i64 2) 3∧(∀k,k≠p7→W6.heap[k]?=W5.heap[k]?)∧W6.heap.size=W5.heap.size∧Below w.heap.size w W6):=hid (by
  rw [←hW6];refine ⟨S5.out.2.2.1.1.other NE.out.1,S5.out.2.2.1.2.other NE.out.2.2.2.1,S5.out.2.1.2.2.2.2.1.set _,fun k hk=>heap_setCell_other W5 ⟨p7,0,none⟩ k _ (fun e=>hk e),by simp,S5.out.1.setCell ?_ _⟩
  have:=ORD.out
  show w.heap.size≤p7
  omega)
 have CB1:=hid (best_any g1 286 257 (litC l) W6 A6.out.1 (by decide) (by decide) (by decide) (fun s _=>(LC.out s).1))
 rw [show ((257:Nat):Int)=257 from rfl] at CB1
 clear X1 X2 Y8 B3 HN4 HI2
 go_wp2_with fail
 refine CB1.out.mono ?_;rintro r W7 ⟨gl,nl,N,rfl,hNl,hBN,hIN,b7,hbl⟩;have H7:=hid (And.intro hNl (And.intro hBN (And.intro hIN (And.intro b7 hbl))));have CB2:=hid (best_any g2 30 1 (dstC l) W7 (A6.out.2.1.below b7) (by decide) (by decide) (by decide) (fun s _=>(LC.out s).2))
 rw [show ((1:Nat):Int)=1 from rfl] at CB2
 clear hNl hBN hIN b7 hbl CB1 c4 c7 f7 hW5 hW6
 go_wp2_with fail
 refine CB2.out.mono ?_;rintro r W8 ⟨gm,ml,M,rfl,hMl,hBM,hIM,b8,hbm⟩;have H8:=hid (And.intro hMl (And.intro hBM (And.intro hIM (And.intro b8 hbm))));have b68:Below W6.heap.size W6 W8:=H7.out.2.2.2.1.trans (b8.mono H7.out.2.2.2.1.size)
 have X8:Bx W8 p8 (.slice (some ⟨ga,0,none⟩) 288 ca) 92∧Bx W8 p9 (.slice (some ⟨gb,0,none⟩) 30 cb) 92:=by
  have h8:=S5.out.2.1.2.2.2.2.2.1;have h9:=S5.out.2.1.2.2.2.2.2.2;have o:=S5.out.2.2.2;have y:=HY8.out;have a6:=A6.out.2.2.2;refine ⟨(h8.block (a6.1 p8 (by omega))).below b68,(h9.block (a6.1 p9 (by omega))).below b68⟩
 have c8:=X8.1.cell;have f8:=X8.1.frozen;have hne89:p9≠p8:=by have:=HY8.out;omega
 have hne98:p8≠p9:=by have:=HY8.out;omega
 have X8b:=X8.2.other (u:=.slice (some ⟨gl,0,none⟩) nl 286) hne89;have c9:=X8b.cell;have f9:=X8b.frozen;obtain ⟨W9,hW9⟩:∃W9,(W8.setCell ⟨p8,0,none⟩ (.slice (some ⟨gl,0,none⟩) nl 286)).setCell ⟨p9,0,none⟩ (.slice (some ⟨gm,0,none⟩) ml 30)=W9:=⟨_,rfl⟩
 have X9:Hid (Bx W9 p8 (.slice (some ⟨gl,0,none⟩) nl 286) 92∧Bx W9 p9 (.slice (some ⟨gm,0,none⟩) ml 30) 92∧(∀k,k≠p8→k≠p9→W9.heap[k]?=W8.heap[k]?)∧W9.heap.size=W8.heap.size∧Below W6.heap.size W6 W8):=hid (by
  rw [←hW9];refine ⟨(X8.1.set _).other hne98,X8b.set _,fun k h1 h2=>?_,by simp,b68⟩
  rw [heap_setCell_other _ ⟨p9,0,none⟩ k _ (fun e=>h2 e),heap_setCell_other _ ⟨p8,0,none⟩ k _ (fun e=>h1 e)])
 have e8:=X9.out.1.cell;have e9:=X9.out.2.1.cell;clear X8 X8b b68 hMl hBM hIM b8 hbm CB2;have RG:Rng N M:=⟨⟨H7.out.2.1.low,H7.out.2.1.high⟩,⟨H8.out.2.1.low,H8.out.2.1.high⟩,H7.out.2.1.le,H8.out.2.1.le⟩
 have KP:Hid (∀k,k<W5.heap.size→k≠p7→k≠p8→k≠p9→W9.heap[k]?=W5.heap[k]?):=hid fun k hk h7 h8 h9=>by
  rw [X9.out.2.2.1 k h8 h9,X9.out.2.2.2.2.block k (by rw [A6.out.2.2.2.2.1];exact hk),A6.out.2.2.2.1 k h7]
 have IN9:Hid (IsInts W9 (some ⟨gl,0,none⟩) (ints N)∧IsInts W9 (some ⟨gm,0,none⟩) (ints M)∧W5.heap.size≤gl∧W5.heap.size≤gm∧gl<W9.heap.size∧gm<W9.heap.size):=hid (by
  have o:=S5.out.2.2.2;have y:=HY8.out;have hb1:=H7.out.2.2.2.2;have hb2:=H8.out.2.2.2.2;have hs7:=H7.out.2.2.2.1.size;have hs8:=H8.out.2.2.2.1.size;have hs6:=A6.out.2.2.2.2.1;have i1:=ints_below H7.out.2.2.1 H8.out.2.2.2.1 (Nat.le_refl _);have i2:=H8.out.2.2.1
  have l1:gl<W8.heap.size:=by
   obtain ⟨b',_,e,hb',_⟩:=i1 (by rw [ints_length];have:=RG.1.1;omega)
   cases e;exact hb'
  have l2:gm<W8.heap.size:=by
   obtain ⟨b',_,e,hb',_⟩:=i2 (by rw [ints_length];have:=RG.2.1.1;omega)
   cases e;exact hb'
  have hs9:=X9.out.2.2.2.1;refine ⟨ints_block i1 (by omega) (X9.out.2.2.1 gl (by omega) (by omega)),ints_block i2 (by omega) (X9.out.2.2.1 gm (by omega) (by omega)),by omega,by omega,by omega,by omega⟩)
 have WR9:Hid (WrAt W9 p12 (.slice none 0 0) []):=hid (by
  have o:=S5.out.2.2.2;have y:=HY8.out;refine ⟨?_,World.ownsRow_nil _ _ _ _⟩;rw [KP.out p12 (by omega) (by omega) (by omega) (by omega)]
  exact Z5.out.1.blk)
 have CL:=hid (lengths_any p12 (.slice none 0 0) [] (some ⟨gl,0,none⟩) (some ⟨gm,0,none⟩) nl 286 ml 30 (ints N) (ints M) W9 WR9.out (by simp) (by rw [ints_length];exact H7.out.1) (by rw [ints_length];exact H8.out.1) IN9.out.1 IN9.out.2.1)
 have HRG:=hid RG;clear RG

 go_wp2_with fail
 refine CL.out.mono ?_;rintro r W0 ⟨e,hdr,rfl,hX,hlen,vh,hWt⟩
 obtain ⟨he,k,O,Y,hd1,hd2,hd3⟩:e=0∧∃k O Y,IsHdr N M k O Y∧HdrOf N M k O Y∧hdr=hdrB N M k O Y:=by
  rcases hX with ⟨h5,_⟩ | ⟨_,he,k,O,Y,h6,h7,h8⟩
  ·rw [HRG.out.odd] at h5;cases h5
  ·rw [ints_nats,ints_nats] at h6 h7 h8;exact ⟨he,k,O,Y,h6,h7,h8⟩
 subst he
 have ST:Hid (St9 w W0 a q c l true last 2 p3 p4 p5 p6 p7 p8 p9 p12 gl nl 286 gm ml 30 g1 g2 vh hdr N M):=hid (by
  have o:=S5.out.2.2.2;have y:=HY8.out;have od:=ORD.out;have x:=S5.out.2.1;have kb:∀k,k<W9.heap.size→k≠p12→W0.heap[k]?=W9.heap[k]?:=fun k h1 h2=>hWt.but.block k h1 h2 (fun e=>by cases e)
  have hs9:W5.heap.size≤W9.heap.size:=by have:=X9.out.2.2.2.1;have:=X9.out.2.2.2.2.size;have:=A6.out.2.2.2.2.1;omega
  have kk:∀k,k<W5.heap.size→k≠p7→k≠p8→k≠p9→k≠p12→W0.heap[k]?=W5.heap[k]?:=fun k h1 h2 h3 h4 h5=>(kb k (by omega) h5).trans (KP.out k h1 h2 h3 h4)
  have l3:=x.1.lt;have l4:=x.2.1.lt;have l5:=x.2.2.1.lt;have l8:=x.2.2.2.2.2.1.lt;have ng:=NE.out;have in9:=IN9.out
  have hB9:Below w.heap.size w W9:=by
   rw [←hW9];exact ((A6.out.2.2.2.2.2.trans (X9.out.2.2.2.2.mono A6.out.2.2.2.2.2.size)).setCell (by show w.heap.size≤p8;omega) _).setCell (by show w.heap.size≤p9;omega) _
  have x7:Bx W0 p7 (.int .i64 2) 3:=by
   refine (A6.out.2.2.1.block (w':=W0) ?_);rw [kb p7 (by omega) (by omega),X9.out.2.2.1 p7 (by omega) (by omega),X9.out.2.2.2.2.block p7 (by rw [A6.out.2.2.2.2.1];omega)]
  refine ⟨below_but hB9 (Nat.le_refl _) hWt.but (by omega) (fun i h=>by cases h),x.1.block (kk p3 (by omega) (by omega) (by omega) (by omega) (by omega)),x.2.1.block (kk p4 (by omega) (by omega) (by omega) (by omega) (by omega)),x.2.2.1.block (kk p5 (by omega) (by omega) (by omega) (by omega) (by omega)),?_,x7,X9.out.1.block (kb p8 (by omega) (by omega)),X9.out.2.1.block (kb p9 (by omega) (by omega)),hWt.at_,?_,?_,ints_block in9.1 (by have:=hWt.but.size;omega) (kb gl (by omega) (by omega)),ints_block in9.2.1 (by have:=hWt.but.size;omega) (kb gm (by omega) (by omega)),HT.out.1,HT.out.2.1,hq2,?_,by omega,H7.out.1,H8.out.1,?_,⟨HRG.out.2.2.1,HRG.out.2.2.2⟩,rfl,(fun _=>HRG.out),⟨(fun h=>by cases h),fun _=>⟨H7.out.2.1,H8.out.2.1⟩⟩,?_,.inr ⟨rfl,k,O,Y,hd1,hd2,hd3⟩,hlen⟩
  ·rw [kk p6 (by omega) (by omega) (by omega) (by omega) (by omega)];exact x.2.2.2.1
  ·unfold AtN;rw [kk g1 (by omega) (by omega) (by omega) (by omega) (by omega)];exact S5.out.2.2.1.1
  ·unfold AtN;rw [kk g2 (by omega) (by omega) (by omega) (by omega) (by omega)];exact S5.out.2.2.1.2
  ·intro p hp;simp only [List.mem_cons,List.not_mem_nil,or_false] at hp;omega
  ·have h1:=HRG.out;exact fit_of HT.out.2.2 (by have:=h1.1.2;omega) h1.2.2.1 H7.out.2.1.room (by have:=h1.2.1.2;omega) h1.2.2.2 H8.out.2.1.room H7.out.2.1.some_ H8.out.2.1.some_
  ·have h1:=HRG.out;have h2:=H7.out.1;have h3:=H8.out.1
   have:=h1.1.2
   have:=h1.2.1.2
   omega)
 have hl9:hdr.length≤100000:=hlen;clear hX hlen hWt hd1 hd2 hd3 c8 f8 c9 f9 e8 e9 hW9 S5 NE HY8 LC A6 H7 H8 X9 KP IN9 WR9 CL HRG Z5 HP12 HP3 ORD HT hp12
 go_wp2_with fail
 obtain ⟨h,hh⟩:∃h,hdr.length=h:=⟨_,rfl⟩;obtain ⟨k1,hk1⟩:∃k1,tkS (litC l) (lenB N) 286=k1:=⟨_,rfl⟩;obtain ⟨k2,hk2⟩:∃k2,tkS (dstC l) (dstB M) 30=k2:=⟨_,rfl⟩;have hh9:h≤100000:=by have:=ST.out.hl;omega
 have LC:Hid (∀s,litC l s≤1000000∧dstC l s≤1000000):=hid fun s=>by
  have h1:=lits_le l s;have h2:=dsts_le l s;have h3:=ST.out.hq;have h4:=ST.out.q6;rw [litC_eq];unfold dstC
  constructor
  ·split <;> omega
  ·omega
 have hk19:k1≤9000000000:=by
  rw [←hk1]
  have:=tkS_le (f:=litC l) (g:=lenB N) 286 (fun s _=>(LC.out s).1) (fun s=>by unfold lenB;have:=getD_le ST.out.f15.1 s;have:=lenO_le (s:Int);omega)
  omega
 have hk29:k2≤9000000000:=by
  rw [←hk2]
  have:=tkS_le (f:=dstC l) (g:=dstB M) 30 (fun s _=>(LC.out s).2) (fun s=>by unfold dstB;have:=getD_le ST.out.f15.2 s;have:=distO_le (s:Int);omega)
  omega
 obtain ⟨h3,hh3⟩:∃h3,3+h=h3:=⟨_,rfl⟩;obtain ⟨s1,hs1⟩:∃s1,h3+k1=s1:=⟨_,rfl⟩;obtain ⟨K,hK⟩:∃K,s1+k2=K:=⟨_,rfl⟩
 have HKK:Hid (K=3+hdr.length+(wrBits N M l).length):=hid (by
  rw [wr_len ST.out.f15.1 ST.out.f15.2 ST.out.fit.1,hk1,hk2,hh];omega)
 have a1:(3:Int)+h=h3:=by omega
 have a2:(h3:Int)+k1=s1:=by omega
 have a3:(s1:Int)+k2=K:=by omega
 have b1:IntKind.i64.wrap (h3:Int)=h3:=IntWalk.i64_in _ (by omega)
 have b2:IntKind.i64.wrap (s1:Int)=s1:=IntWalk.i64_in _ (by omega)
 have b3:IntKind.i64.wrap (K:Int)=K:=IntWalk.i64_in _ (by omega)
 have CLEN:Hid (∀W,Below W0.heap.size W0 W→Calls Tryz.prog 70 #[.pointer (some ⟨p12,0,none⟩)] W fun r w'=>r=.returned (.int .i64 (h:Nat))∧∃n,w'=W.drewN n):=hid fun W hb=>by
  rw [←hh];exact wlen_any p12 vh hdr W (wr_below ST.out.wh hb) (by omega)
 have HC8:Hid (∀W,Below W0.heap.size W0 W→W.cell? ⟨p8,0,none⟩=some (.slice (some ⟨gl,0,none⟩) nl 286)):=hid fun W hb=>(ST.out.x8.below hb).cell
 have HC9:Hid (∀W,Below W0.heap.size W0 W→W.cell? ⟨p9,0,none⟩=some (.slice (some ⟨gm,0,none⟩) ml 30)):=hid fun W hb=>(ST.out.x9.below hb).cell
 have CT1:Hid (∀W,Below W0.heap.size W0 W→Calls Tryz.prog 124 #[.slice (some ⟨g1,0,none⟩) 286 286,.slice (some ⟨gl,0,none⟩) nl 286,.func (.func 125) #[] #[]] W fun r w'=>r=.returned (.int .i64 (k1:Nat))∧Below W.heap.size W w'):=hid fun W hb=>by
  rw [←hk1]
  exact taken_any 125 (fun s=>(lenO (s:Int)).1) (fun s=>(lenO (s:Int)).2) g1 286 (litC l) (some ⟨gl,0,none⟩) nl 286 N W (ST.out.n1.below hb) (ST.out.iN.below hb (Nat.le_refl _)) ST.out.hN (enters_of Tryz.func125 (by kernel_rfl) rfl) (fun s w=>lengthOf_any (s:Int) w) (by decide) (fun s _=>(LC.out s).1) (fun s=>Nat.le_trans (lenO_le _) (by decide)) ST.out.f15.1 (fun s hs h0=>by
   have hc:=ST.out.fit.2.1;unfold cvB at hc;rw [Bool.and_eq_true,ints_nats] at hc;exact has_code ST.out.hN hc.2 hs h0)
 have CT2:Hid (∀W,Below W0.heap.size W0 W→Calls Tryz.prog 124 #[.slice (some ⟨g2,0,none⟩) 30 30,.slice (some ⟨gm,0,none⟩) ml 30,.func (.func 126) #[] #[]] W fun r w'=>r=.returned (.int .i64 (k2:Nat))∧Below W.heap.size W w'):=hid fun W hb=>by
  rw [←hk2]
  exact taken_any 126 (fun s=>(distO (s:Int)).1) (fun s=>(distO (s:Int)).2) g2 30 (dstC l) (some ⟨gm,0,none⟩) ml 30 M W (ST.out.n2.below hb) (ST.out.iM.below hb (Nat.le_refl _)) ST.out.hM (enters_of Tryz.func126 (by kernel_rfl) rfl) (fun s w=>distanceOf_any (s:Int) w) (by decide) (fun s _=>(LC.out s).2) (fun s=>distO_le _) ST.out.f15.2 (fun s hs h0=>by
   have hc:=ST.out.fit.2.2;unfold cvB at hc;rw [Bool.and_eq_true,ints_nats] at hc;exact has_code ST.out.hM hc.2 hs h0)
 have H6:Hid (∀W,Below W0.heap.size W0 W→W.cell? ⟨p6,0,none⟩=some (.int .i64 0)∧W.cell? ⟨p6,1,none⟩=some .nilFunc∧W.frozen? ⟨p6,0,none⟩=false∧W.frozen? ⟨p6,1,none⟩=false∧(store ⟨p6,1,none⟩ (.func (.func 127) #[] #[.pointer (some ⟨p5,0,none⟩),.pointer (some ⟨p7,0,none⟩),.pointer (some ⟨p4,0,none⟩),.pointer (some ⟨p8,0,none⟩),.pointer (some ⟨p9,0,none⟩),.pointer (some ⟨p3,0,none⟩)])).run Tryz.prog (W.setCell ⟨p6,0,none⟩ (.int .i64 (K:Nat)))=.ok () ((W.setCell ⟨p6,0,none⟩ (.int .i64 (K:Nat))).setCell ⟨p6,1,none⟩ (.func (.func 127) #[] #[.pointer (some ⟨p5,0,none⟩),.pointer (some ⟨p7,0,none⟩),.pointer (some ⟨p4,0,none⟩),.pointer (some ⟨p8,0,none⟩),.pointer (some ⟨p9,0,none⟩),.pointer (some ⟨p3,0,none⟩)]))∧codF W0 p6 K (.func (.func 127) #[] #[.pointer (some ⟨p5,0,none⟩),.pointer (some ⟨p7,0,none⟩),.pointer (some ⟨p4,0,none⟩),.pointer (some ⟨p8,0,none⟩),.pointer (some ⟨p9,0,none⟩),.pointer (some ⟨p3,0,none⟩)]) undef ((W.setCell ⟨p6,0,none⟩ (.int .i64 (K:Nat))).setCell ⟨p6,1,none⟩ (.func (.func 127) #[] #[.pointer (some ⟨p5,0,none⟩),.pointer (some ⟨p7,0,none⟩),.pointer (some ⟨p4,0,none⟩),.pointer (some ⟨p8,0,none⟩),.pointer (some ⟨p9,0,none⟩),.pointer (some ⟨p3,0,none⟩)]))):=hid fun W hb=>by
  have hx:W.heap[p6]?=some (.cells #[.int .i64 0,.nilFunc] 119 (0,0)):=by
   rw [hb.block p6 (Array.getElem?_eq_some_iff.1 ST.out.x6).1];exact ST.out.x6
  exact ⟨(cell_of_row _ _ 0 _ _ _ hx).trans rfl,(cell_of_row _ _ 1 _ _ _ hx).trans rfl,frozen_of_row _ _ 0 _ _ hx,frozen_of_row _ _ 1 _ _ hx,store_at ((cell_of_row _ _ 1 _ _ _ (codF_one hx)).trans rfl) (frozen_of_row _ _ 1 _ _ (codF_one hx)) rfl,codF_store hx hb⟩
 clear hh hk1 hk2 hh3 hs1 hK LC;refine region_ops (n:=42) (by kernel_rfl) (codU h h3 g1 k1 s1 g2 k2 K gl nl 286 gm ml 30 p3 p4 p5 p7 p8 p9) (codFin W0 p6 K p3 p4 p5 p7 p8 p9) (fun ℓ W=>ℓ 12=false→Below W0.heap.size W0 W) (by kernel_rfl) (by kernel_rfl) (by rfl) (by kernel_rfl) (fun _=>(Below.refl _ _).drew) ⟨?_,?_,?_,?_,?_,?_,?_,?_,?_,?_,?_,?_,?_,trivial⟩ ?_
 ·intro ℓ act W hl hr hd hS hsame hdeps;have e12:act.tmps[12]?=some (.pointer (some ⟨p12,0,none⟩)):=hsame 12 (by kernel_rfl)
  clear hsame hdeps;refine ⟨wanted_none (by rfl),fun K hK=>?_⟩
  have hb:=hS (hr 12 (by kernel_rfl))
  go_simp;refine (CLEN.out W hb).mono ?_;rintro r w' ⟨rfl,nn,rfl⟩;exact hK _ _ (by rfl) trivial (fun h=>below_draws (hS h)) (fun _ _ _ h=>h) (fun j u0 hm h=>codFin_keep j u0 (fun e=>by subst e;exact Bool.noConfusion ((show mayLead .any _ 0 12=false by kernel_rfl).symm.trans hm)) h)
 ·intro ℓ act W hl hr hd hS hsame hdeps;obtain ⟨x30,e30,y30⟩:=hdeps ⟨0,.data⟩ (by simp) (by rfl) (by rfl) 30 (by rfl)
  replace y30:x30=.int .i64 (h:Nat):=y30
  subst y30;clear hsame hdeps;refine ⟨wanted_none (by rfl),fun K hK=>?_⟩
  go_simp;exact hK _ _ (by rfl) trivial hS (fun _ _ _ h=>h) (fun _ _ _ h=>h)
 ·intro ℓ act W hl hr hd hS hsame hdeps;have e10:act.tmps[10]?=some (.slice (some ⟨g1,0,none⟩) 286 286):=hsame 10 (by kernel_rfl)
  clear hsame hdeps;refine ⟨wanted_none (by rfl),fun K hK=>?_⟩
  go_simp;exact hK _ _ (by rfl) trivial hS (fun _ _ _ h=>h) (fun _ _ _ h=>h)
 ·intro ℓ act W hl hr hd hS hsame hdeps;have e8:act.tmps[8]?=some (.pointer (some ⟨p8,0,none⟩)):=hsame 8 (by kernel_rfl)
  clear hsame hdeps;refine ⟨wanted_none (by rfl),fun K hK=>?_⟩
  have hcl:=HC8.out W (hS (hr 12 (by kernel_rfl)))
  go_simp;exact hK _ _ (by rfl) trivial hS (fun _ _ _ h=>h) (fun _ _ _ h=>h)
 ·intro ℓ act W hl hr hd hS hsame hdeps;obtain ⟨x32,e32,y32⟩:=hdeps ⟨2,.data⟩ (by simp) (by rfl) (by rfl) 32 (by rfl)
  replace y32:x32=.slice (some ⟨g1,0,none⟩) 286 286:=y32
  subst y32;obtain ⟨x33,e33,y33⟩:=hdeps ⟨3,.data⟩ (by simp) (by rfl) (by rfl) 33 (by rfl)
  replace y33:x33=.slice (some ⟨gl,0,none⟩) nl 286:=y33
  subst y33;clear hsame hdeps;refine ⟨wanted_none (by rfl),fun K hK=>?_⟩
  have hb:=hS (hr 12 (by kernel_rfl))
  go_simp;refine (CT1.out W hb).mono ?_;rintro r w' ⟨rfl,b'⟩;exact hK _ _ (by rfl) trivial (fun h=>(hS h).trans (b'.mono (hS h).size)) (fun _ _ _ h=>h) (fun j u0 hm h=>codFin_keep j u0 (fun e=>by subst e;exact Bool.noConfusion ((show mayLead .any _ 4 12=false by kernel_rfl).symm.trans hm)) h)
 ·intro ℓ act W hl hr hd hS hsame hdeps;obtain ⟨x31,e31,y31⟩:=hdeps ⟨1,.data⟩ (by simp) (by rfl) (by rfl) 31 (by rfl)
  replace y31:x31=.int .i64 (h3:Nat):=y31
  subst y31;obtain ⟨x34,e34,y34⟩:=hdeps ⟨4,.data⟩ (by simp) (by rfl) (by rfl) 34 (by rfl)
  replace y34:x34=.int .i64 (k1:Nat):=y34
  subst y34;clear hsame hdeps;refine ⟨wanted_none (by rfl),fun K hK=>?_⟩
  go_simp;exact hK _ _ (by rfl) trivial hS (fun _ _ _ h=>h) (fun _ _ _ h=>h)
 ·intro ℓ act W hl hr hd hS hsame hdeps;have e11:act.tmps[11]?=some (.slice (some ⟨g2,0,none⟩) 30 30):=hsame 11 (by kernel_rfl)
  clear hsame hdeps;refine ⟨wanted_none (by rfl),fun K hK=>?_⟩
  go_simp;exact hK _ _ (by rfl) trivial hS (fun _ _ _ h=>h) (fun _ _ _ h=>h)
 ·intro ℓ act W hl hr hd hS hsame hdeps;have e9:act.tmps[9]?=some (.pointer (some ⟨p9,0,none⟩)):=hsame 9 (by kernel_rfl)
  clear hsame hdeps;refine ⟨wanted_none (by rfl),fun K hK=>?_⟩
  have hcl:=HC9.out W (hS (hr 12 (by kernel_rfl)))
  go_simp;exact hK _ _ (by rfl) trivial hS (fun _ _ _ h=>h) (fun _ _ _ h=>h)
 ·intro ℓ act W hl hr hd hS hsame hdeps;obtain ⟨x36,e36,y36⟩:=hdeps ⟨6,.data⟩ (by simp) (by rfl) (by rfl) 36 (by rfl)
  replace y36:x36=.slice (some ⟨g2,0,none⟩) 30 30:=y36
  subst y36;obtain ⟨x37,e37,y37⟩:=hdeps ⟨7,.data⟩ (by simp) (by rfl) (by rfl) 37 (by rfl)
  replace y37:x37=.slice (some ⟨gm,0,none⟩) ml 30:=y37
  subst y37;clear hsame hdeps;refine ⟨wanted_none (by rfl),fun K hK=>?_⟩
  have hb:=hS (hr 12 (by kernel_rfl))
  go_simp;refine (CT2.out W hb).mono ?_;rintro r w' ⟨rfl,b'⟩;exact hK _ _ (by rfl) trivial (fun h=>(hS h).trans (b'.mono (hS h).size)) (fun _ _ _ h=>h) (fun j u0 hm h=>codFin_keep j u0 (fun e=>by subst e;exact Bool.noConfusion ((show mayLead .any _ 8 12=false by kernel_rfl).symm.trans hm)) h)
 ·intro ℓ act W hl hr hd hS hsame hdeps;obtain ⟨x35,e35,y35⟩:=hdeps ⟨5,.data⟩ (by simp) (by rfl) (by rfl) 35 (by rfl)
  replace y35:x35=.int .i64 (s1:Nat):=y35
  subst y35;obtain ⟨x38,e38,y38⟩:=hdeps ⟨8,.data⟩ (by simp) (by rfl) (by rfl) 38 (by rfl)
  replace y38:x38=.int .i64 (k2:Nat):=y38
  subst y38;clear hsame hdeps;refine ⟨wanted_none (by rfl),fun K hK=>?_⟩
  go_simp;exact hK _ _ (by rfl) trivial hS (fun _ _ _ h=>h) (fun _ _ _ h=>h)
 ·intro ℓ act W hl hr hd hS hsame hdeps;have e5:act.tmps[5]?=some (.pointer (some ⟨p5,0,none⟩)):=hsame 5 (by kernel_rfl)
  have e7:act.tmps[7]?=some (.pointer (some ⟨p7,0,none⟩)):=hsame 7 (by kernel_rfl)
  have e4:act.tmps[4]?=some (.pointer (some ⟨p4,0,none⟩)):=hsame 4 (by kernel_rfl)
  have e8:act.tmps[8]?=some (.pointer (some ⟨p8,0,none⟩)):=hsame 8 (by kernel_rfl)
  have e9:act.tmps[9]?=some (.pointer (some ⟨p9,0,none⟩)):=hsame 9 (by kernel_rfl)
  have e3:act.tmps[3]?=some (.pointer (some ⟨p3,0,none⟩)):=hsame 3 (by kernel_rfl)
  clear hsame hdeps;refine ⟨wanted_none (by rfl),fun K hK=>?_⟩
  go_simp;exact hK _ _ (by rfl) trivial hS (fun _ _ _ h=>h) (fun _ _ _ h=>h)
 ·intro ℓ act W hl hr hd hS hsame hdeps;obtain ⟨x39,e39,y39⟩:=hdeps ⟨9,.data⟩ (by simp) (by rfl) (by rfl) 39 (by rfl)
  replace y39:x39=.int .i64 (K:Nat):=y39
  subst y39;obtain ⟨x40,e40,y40⟩:=hdeps ⟨10,.data⟩ (by simp) (by rfl) (by rfl) 40 (by rfl)
  replace y40:x40=.func (.func 127) #[] #[.pointer (some ⟨p5,0,none⟩),.pointer (some ⟨p7,0,none⟩),.pointer (some ⟨p4,0,none⟩),.pointer (some ⟨p8,0,none⟩),.pointer (some ⟨p9,0,none⟩),.pointer (some ⟨p3,0,none⟩)]:=y40
  subst y40;clear hsame hdeps;refine ⟨wanted_none (by rfl),fun K hK=>?_⟩
  go_simp;exact hK _ _ (by rfl) trivial hS (fun _ _ _ h=>h) (fun _ _ _ h=>h)
 ·intro ℓ act W hl hr hd hS hsame hdeps;have e6:act.tmps[6]?=some (.pointer (some ⟨p6,0,none⟩)):=hsame 6 (by kernel_rfl)
  obtain ⟨x41,e41,y41⟩:=hdeps ⟨11,.data⟩ (by simp) (by rfl) (by rfl) 41 (by rfl)
  replace y41:x41=.agg #[.int .i64 (K:Nat),.func (.func 127) #[] #[.pointer (some ⟨p5,0,none⟩),.pointer (some ⟨p7,0,none⟩),.pointer (some ⟨p4,0,none⟩),.pointer (some ⟨p8,0,none⟩),.pointer (some ⟨p9,0,none⟩),.pointer (some ⟨p3,0,none⟩)]]:=y41
  subst y41;clear hsame hdeps;refine ⟨wanted_none (by rfl),fun K hK=>?_⟩
  have hb:=hS hl;obtain ⟨hc0,hc1,hf0,hf1,hst,hfin⟩:=H6.out W hb;go_simp;exact hK _ _ (by rfl) hfin (fun h=>by cases h) (fun j u0 _ h=>h) (fun j u0 hm h=>codFin_keep j u0 (fun e=>absurd e.symm (lead_ne hm)) h)
 ·intro act W hd hz hsame hdone;obtain ⟨_,fin12⟩:∃v,codFin W0 p6 K p3 p4 p5 p7 p8 p9 12 v W:=by obtain ⟨v,_,h⟩:=hdone 12 (by decide);exact ⟨v,h⟩
  clear hdone;obtain ⟨tm,df⟩:=act;obtain rfl:df=[]:=hd;have q0:=getD_same (hsame 0 (by kernel_rfl))
  have q1:=getD_same (hsame 1 (by kernel_rfl))
  have q2:=getD_same (hsame 2 (by kernel_rfl))
  have q3:=getD_same (hsame 3 (by kernel_rfl))
  have q4:=getD_same (hsame 4 (by kernel_rfl))
  have q5:=getD_same (hsame 5 (by kernel_rfl))
  have q6:=getD_same (hsame 6 (by kernel_rfl))
  have q7:=getD_same (hsame 7 (by kernel_rfl))
  have q8:=getD_same (hsame 8 (by kernel_rfl))
  have q9:=getD_same (hsame 9 (by kernel_rfl))
  have q10:=getD_same (hsame 10 (by kernel_rfl))
  have q11:=getD_same (hsame 11 (by kernel_rfl))
  have q12:=getD_same (hsame 12 (by kernel_rfl))
  have q13:=getD_same (hsame 13 (by kernel_rfl))
  have q14:=getD_same (hsame 14 (by kernel_rfl))
  have q15:=getD_same (hsame 15 (by kernel_rfl))
  have q16:=getD_same (hsame 16 (by kernel_rfl))
  have q17:=getD_same (hsame 17 (by kernel_rfl))
  have q18:=getD_same (hsame 18 (by kernel_rfl))
  have q19:=getD_same (hsame 19 (by kernel_rfl))
  have q20:=getD_same (hsame 20 (by kernel_rfl))
  have q21:=getD_same (hsame 21 (by kernel_rfl))
  have q22:=getD_same (hsame 22 (by kernel_rfl))
  have q23:=getD_same (hsame 23 (by kernel_rfl))
  have q24:=getD_same (hsame 24 (by kernel_rfl))
  have q25:=getD_same (hsame 25 (by kernel_rfl))
  have q26:=getD_same (hsame 26 (by kernel_rfl))
  have q27:=getD_same (hsame 27 (by kernel_rfl))
  have q28:=getD_same (hsame 28 (by kernel_rfl))
  have q29:=getD_same (hsame 29 (by kernel_rfl))
  clear hsame;rw [arr_all tm 42 hz,show List.range 42=[0,1,2,3,4,5,6,7,8,9,10,11,12,13,14,15,16,17,18,19,20,21,22,23,24,25,26,27,28,29,30,31,32,33,34,35,36,37,38,39,40,41] from rfl]
  simp only [List.map_cons,List.map_nil,List.getElem_toArray,List.getElem_cons_zero,List.getElem_cons_succ,q0,q1,q2,q3,q4,q5,q6,q7,q8,q9,q10,q11,q12,q13,q14,q15,q16,q17,q18,q19,q20,q21,q22,q23,q24,q25,q26,q27,q28,q29];clear q0 q1 q2 q3 q4 q5 q6 q7 q8 q9 q10 q11 q12 q13 q14 q15 q16 q17 q18 q19 q20 q21 q22 q23 q24 q25 q26 q27 q28 q29 hz;generalize tm.getD 30 undef=z30;generalize tm.getD 31 undef=z31;generalize tm.getD 32 undef=z32;generalize tm.getD 33 undef=z33;generalize tm.getD 34 undef=z34;generalize tm.getD 35 undef=z35;generalize tm.getD 36 undef=z36;generalize tm.getD 37 undef=z37;generalize tm.getD 38 undef=z38;generalize tm.getD 39 undef=z39;generalize tm.getD 40 undef=z40;generalize tm.getD 41 undef=z41;have FN:=hid (ST.out.done (v:=undef) fin12 HKK.out);have F6:=hid fin12.1;clear fin12 CLEN HC8 HC9 CT1 CT2 H6 ST HKK
  go_wp2_with fail
  refine bodyPost_ret (ret_blk _ _ p6 K _ rfl F6.out) rfl ?_;exact ⟨_,rfl,FN.out.1,FN.out.2⟩
end Go.Proofs.YthbjllabgpaaaaaGreat.Dfl
