/-
  Contract of deflate's Lengths.
-/
import Derived.Test.YthbjllabgpaaaaaGreatDflOrder
import Derived.Test.YthbjllabgpaaaaaGreatDefProg
namespace Go.Proofs.YthbjllabgpaaaaaGreat.Dfl
open Go.Lib (hid)
set_option maxHeartbeats 4000000
open Go.ChangeShapes Go.WideShapes Go.ChangeAt Go.RowKit
open Go.Proofs.YthbjllabgpaaaaaGreat.Bit (WrAt But Near bitsOf bitsOf_length cnt cnt_nat wbits_any wcode_any codeBits codeBits_length)
open Go.Proofs.YthbjllabgpaaaaaGreat.Def
open Go.Proofs.YthbjllabgpaaaaaGreat.Huf (IsInts used allIn allIn_iff allIn_take allIn_false nats nats_length codeV)
open Go.Proofs.YthbjllabgpaaaaaGreat.Sym (ints ints_length CodesAt cd wr_below)
set_option linter.unusedVariables false
set_option maxRecDepth 100000
theorem lengths_few (p:Value) (a1 a2:Option Addr) (n c1 m c2:Nat) (w:World) (h:¬(257≤n∧n≤286)∨¬(1≤m∧m≤30)) :
  Calls Tryz.prog 123 #[p,.slice a1 n c1,.slice a2 m c2] w fun r w'=>r=.returned (.int .i64 1)∧w=w':=by
 have C1:=hid (within_any n 257 286 w);have C2:=hid (within_any m 1 30 w);obtain ⟨B1,hB1⟩:∃B1,(decide ((257:Int)≤n)&&decide ((n:Int)≤286))=B1:=⟨_,rfl⟩;obtain ⟨B2,hB2⟩:∃B2,(decide ((1:Int)≤m)&&decide ((m:Int)≤30))=B2:=⟨_,rfl⟩;rw [hB1] at C1;rw [hB2] at C2
 have hor:B1=false∨B2=false:=by
  rw [←hB1,←hB2];rcases h with h | h
  ·left;simp;omega
  ·right;simp;omega
 clear hB1 hB2 h
 go_enter Tryz.func123,Tryz.ntmps123
 cases B1 with
 | false=>
  clear hor
  go_wp2_with fail
  refine C1.out.mono ?_;rintro r w1 ⟨rfl,rfl⟩
  go_wp2_with fail
  go_ret;exact ⟨rfl,rfl⟩
 | true=>
  have hb2:B2=false:=hor.resolve_left (by simp)
  subst hb2;clear hor
  go_wp2_with fail
  refine C1.out.mono ?_;rintro r w1 ⟨rfl,rfl⟩
  go_wp2_with fail
  refine C2.out.mono ?_;rintro r w1 ⟨rfl,rfl⟩
  go_wp2_with fail
  go_ret;exact ⟨rfl,rfl⟩
def cellsI (L:List Int):List Value:=L.map fun x=>Value.int .i64 x
theorem sees_ints {w:World} {a:Option Addr} {n c:Nat} {L:List Int} (h:IsInts w a L) (hn:L.length=n) (h0:0<n):Huf.Sees w 1 (.slice a n c) n (cellsI L):=by
 obtain ⟨b,off,rfl,hb,hc⟩:=h (by omega)
 refine ⟨by unfold cellsI;rw [List.length_map,hn,Nat.mul_one],fun u hu=>?_,.inr ⟨b,off,c,rfl,hb,fun j u hj=>?_⟩⟩
 ·obtain ⟨x,_,rfl⟩:=List.mem_map.1 hu;rfl
 ·unfold cellsI at hj;rw [List.getElem?_map] at hj
  by_cases hjl:j<L.length
  ·rw [List.getElem?_eq_getElem hjl] at hj;rw [hc j hjl];exact hj
  ·rw [List.getElem?_eq_none (by omega)] at hj;cases hj
theorem nats_append (L M:List Int):nats (L++M)=nats L++nats M:=by unfold nats;rw [List.map_append]
theorem allIn_append (k:Int) (L M:List Int):allIn k (L++M)=(allIn k L&&allIn k M):=by unfold allIn;rw [List.all_append]
theorem nats_getI {L:List Int} {i:Nat} (h:i<L.length) (hr:0≤L[i]):L[i]=((nats L).getD i 0:Nat):=by
 unfold nats;rw [List.getD_eq_getElem?_getD,List.getElem?_map,List.getElem?_eq_getElem h]
 simp;omega
theorem pair_cells (w:World) (v1 v2:Value) (T:TypeId):(w.alloc (.cells #[v1,v2] T)).cell? ⟨w.heap.size,0,none⟩=some v1∧(w.alloc (.cells #[v1,v2] T)).cell? ⟨w.heap.size,1,none⟩=some v2∧w.heap.size<(w.alloc (.cells #[v1,v2] T)).heap.size:=
 ⟨(cell_of_row _ _ 0 _ _ _ (heap_alloc_new _ _)).trans rfl,(cell_of_row _ _ 1 _ _ _ (heap_alloc_new _ _)).trans rfl,by simp⟩
def HdrOf (L M:List Nat) (k:Nat) (O:List Nat) (Y:List (Nat×Nat)):Prop:=RunR (L++M) Y∧Mk [] Y (L++M)∧Own Y O k
theorem hdr_same {L M:List Nat} {k j:Nat} {O Q:List Nat} {Y Z:List (Nat×Nat)} (h:HdrOf L M k O Y) (g:HdrOf L M j Q Z):(hdrB L M k O Y).length=(hdrB L M j Q Z).length:=by
 obtain ⟨h1,h2,h3⟩:=h;obtain ⟨g1,g2,g3⟩:=g;obtain rfl:=h1.det _ g1;exact own_length (fun y hy=>(h2.syms y hy).1) h3 g3
theorem mk_some {l l':List Nat} {Y:List (Nat×Nat)} (h:Mk l Y l') (hl:l.length<l'.length):Y≠[]:=by
 cases h with
 | done=>omega
 | more=>simp
theorem lengths_in (b:Nat) (v:Value) (l0:List Bool) (a1 a2:Option Addr) (n c1 m c2:Nat) (L M:List Int) (w:World) (hw:WrAt w b v l0) (hl:l0.length≤1000000) (hL:L.length=n) (hM:M.length=m) (iL:IsInts w a1 L) (iM:IsInts w a2 M)
  (hn:257≤n∧n≤286) (hm:1≤m∧m≤30) :
  Calls Tryz.prog 123 #[.pointer (some ⟨b,0,none⟩),.slice a1 n c1,.slice a2 m c2] w fun r w'=>∃e l1,r=.returned (.int .i64 e)∧((allIn 15 (L++M)=false∧e=1∧l1=[])∨(allIn 15 (L++M)=true∧e=0∧∃k O Y,IsHdr (nats L) (nats M) k O Y∧HdrOf (nats L) (nats M) k O Y∧l1=hdrB (nats L) (nats M) k O Y))∧l1.length≤100000∧∃v',Wt b v w w' v' (l0++l1):=by
 have C1:=hid (within_any n 257 286 w);have C2:=hid (within_any m 1 30 w);have hB1:(decide ((257:Int)≤n)&&decide ((n:Int)≤286))=true:=by simp;omega
 have hB2:(decide ((1:Int)≤m)&&decide ((m:Int)≤30))=true:=by simp;omega
 rw [hB1] at C1;rw [hB2] at C2;clear hB1 hB2;have HW:=hid (And.intro hw hl);have S1:=hid (sees_ints (c:=c1) iL hL (by omega))
 have S2:=hid (sees_ints (c:=c2) iM hM (by omega))
 have HLM:=hid (And.intro hL hM);obtain ⟨q,hq⟩:∃q,n+m=q:=⟨_,rfl⟩;have hq1:(n:Int)+m=q:=by omega
 obtain ⟨Z,hZ⟩:∃Z,L++M=Z:=⟨_,rfl⟩;have hZl:Z.length=q:=by rw [←hZ,List.length_append,hL,hM];exact hq
 have hZc:cellsI L++cellsI M=cellsI Z:=by unfold cellsI;rw [←List.map_append,hZ]
 rw [hZ];have HZ:=hid (And.intro hZ (And.intro hZl hZc));clear hw hl iL iM hL hM hZ hZl hZc
 go_enter Tryz.func123,Tryz.ntmps123
 go_wp2_with fail
 refine C1.out.mono ?_;rintro r w1 ⟨rfl,rfl⟩
 go_wp2_with fail
 refine C2.out.mono ?_;rintro r w1 ⟨rfl,rfl⟩;clear C1 C2
 go_wp2_with fail
 obtain ⟨k1,k2,k3⟩:=pair_cells w (.slice a1 n c1) (.slice a2 m c2) 92;have bX:Below w.heap.size w (w.alloc (.cells #[.slice a1 n c1,.slice a2 m c2] 92)):=(Below.refl _ _).alloc (Nat.le_refl _) _;generalize hW1:(w.alloc (.cells #[.slice a1 n c1,.slice a2 m c2] 92))=w1 at *;have CC:=hid (Huf.concatI_any _ _ n m _ _ w.heap.size w1 (S1.out.below bX (Nat.le_refl _)) (S2.out.below bX (Nat.le_refl _)) k1 k2 k3 (by omega) (by omega))
 rw [HZ.out.2.2,hq] at CC;have HB1:=hid bX;clear k1 k2 k3 bX S1 S2 hW1;refine CC.out.mono ?_;rintro r w2 ⟨bv,rfl,o2,b2,g2⟩;obtain ⟨g,cap,rfl⟩:=Lz.own_form o2 (by omega)
 have HG:Hid (w.heap.size≤g∧g<w2.heap.size∧q≤cap):=hid (by
  refine ⟨Nat.le_trans HB1.out.size (g2 g rfl),(o2.lt g rfl).2,?_⟩;rcases o2.2 with ⟨h1,_⟩ | ⟨g',cap',cur,h1,_,_,h2,_⟩
  ·cases h1
  ·cases h1;exact h2)
 have HCL:Hid (∀i (h:i<Z.length),w2.cell? ⟨g,i,none⟩=some (.int .i64 Z[i])):=hid fun i h=>by
  have:=o2.cellAt (g:=g) i (by have:=HZ.out.2.1;omega)
  refine this.trans ?_;unfold cellsI;rw [List.getElem?_map,List.getElem?_eq_getElem h];rfl
 have HB2:=hid (HB1.out.trans (b2.mono HB1.out.size));clear o2 b2 g2 CC HB1;have C15:=hid (fun (x:Int)=>within_any x 0 15 w2)
 go_wp2_with fail
 go_loopw [30] (fun i wr=>∃k:Nat,k≤q∧i=.int .i64 k∧allIn 15 (Z.take k)=true∧wr=w2) (fun i _=>q-(intOf i).toNat)
 case atStart=>exact ⟨0,Nat.zero_le _,rfl,rfl,rfl⟩
 case round=>
  obtain ⟨k,hk,rfl,hall,rfl⟩:=hrel
  by_cases hlt:k<q
  ·have hlt':(k:Int)<q:=by omega
   have hkl:k<Z.length:=by have:=HZ.out.2.1;omega
   have cx:=HCL.out k hkl;have AT:=hid (allIn_take 15 Z k hkl);have AF:=hid (allIn_false 15 Z k hkl);have HALL:=hid hall;clear hall;generalize Z[k]=x at *;have CX:=hid (C15.out x);obtain ⟨B,hB⟩:∃B,(decide ((0:Int)≤x)&&decide (x≤15))=B:=⟨_,rfl⟩;rw [hB] at CX;have HB:=hid hB;clear hB
   cases B with
   | false=>
    have hf:allIn 15 Z=false:=AF.out (by have:=HB.out;simp at this;omega)
    have HF:=hid hf;clear hf
    go_wp2_with fail
    refine CX.out.mono ?_;rintro r w3 ⟨rfl,rfl⟩
    go_wp2_with fail
    go_ret;exact ⟨_,[],rfl,.inl ⟨HF.out,rfl,rfl⟩,by simp,v,by rw [List.append_nil];exact (Wt.start HW.out.1).below HB2.out⟩
   | true=>
    go_wp2_with fail
    refine CX.out.mono ?_;rintro r w3 ⟨rfl,rfl⟩;have HT:Hid (allIn 15 (Z.take (k+1))=true):=hid (by rw [AT.out,HALL.out,HB.out];rfl)
    clear AT AF HALL HB CX
    go_wp2_with fail
    refine ⟨⟨k+1,by omega,by go_num,HT.out,trivial⟩,?_⟩
    simp [intOf];omega
  ·obtain rfl:k=q:=by omega
   rw [List.take_of_length_le (by have:=HZ.out.2.1;omega)] at hall
   have HALL:=hid hall;clear hall C15;obtain ⟨nf,hnf⟩:∃nf,n-257=nf:=⟨_,rfl⟩;obtain ⟨mf,hmf⟩:∃mf,m-1=mf:=⟨_,rfl⟩;have hnf1:(n:Int)-257=nf:=by omega
   have hmf1:(m:Int)-1=mf:=by omega
   have HNF:=hid (And.intro hnf hmf);have T2:=(Wt.start HW.out.1).below HB2.out;have O2:Off b v wr g:=Off.new HW.out.1 HG.out.1 HG.out.2.1;have HT2:=hid (And.intro T2 O2);have CB1:=hid (wbits_any b v l0 5 nf wr T2.at_ (by have:=HW.out.2;omega))
   have NZ:Hid ((nats Z).length=k∧(∀x∈nats Z,x<16)∧∀i (h:i<Z.length),Z[i]=((nats Z).getD i 0:Nat)):=hid (by
    have hA:=allIn_iff.1 HALL.out;refine ⟨by rw [nats_length];exact HZ.out.2.1,fun x hx=>?_,fun i h=>nats_getI h (hA _ (List.getElem_mem h)).1⟩
    unfold nats at hx;obtain ⟨y,hy,rfl⟩:=List.mem_map.1 hx
    have:=hA y hy
    omega)
   have hw316:k≤316:=by omega
   clear T2 O2 hnf hmf
   go_wp2_with fail
   refine CB1.out.mono ?_;rintro r w3 ⟨rfl,v3,h3,b3,n3⟩;obtain ⟨o3,e3⟩:=HT2.out.2.step b3 n3;have T3:=HT2.out.1.step h3 b3 n3;rw [show cnt 5=5 from rfl] at T3
   have HT3:=hid (And.intro T3 (And.intro o3 e3));have CB2:=hid (wbits_any b v3 (l0++bitsOf 5 (nf:Int)) 5 mf w3 T3.at_ (by rw [List.length_append,bitsOf_length];have:=HW.out.2;omega))
   clear h3 b3 n3 o3 e3 T3 CB1 HT2
   go_wp2_with fail
   refine CB2.out.mono ?_;rintro r w4 ⟨rfl,v4,h4,b4,n4⟩;obtain ⟨o4,e4⟩:=HT3.out.2.1.step b4 n4;have T4:=HT3.out.1.step h4 b4 n4;rw [show cnt 5=5 from rfl] at T4
   have HT4:=hid (And.intro T4 (And.intro o4 (e4.trans HT3.out.2.2)))
   have CR:=hid (runs_any g k cap (nats Z) w4 NZ.out.1 o4.lt (fun i h=>by
    have hz:i<Z.length:=by have:=HZ.out.2.1;have:=NZ.out.1;omega
    have h1:=HCL.out i hz;rw [NZ.out.2.2 i hz,List.getD_eq_getElem?_getD,List.getElem?_eq_getElem h,Option.getD_some] at h1;exact (World.cell?_of_block (w:=wr) (w':=w4) (a:=⟨g,i,none⟩) HT4.out.2.2).trans h1) HG.out.2.2 (by omega) NZ.out.2.1)
   clear h4 b4 n4 o4 e4 T4 CB2 HT3
   go_wp2_with fail
   refine CR.out.mono ?_;rintro r w5 ⟨rv,Y,rfl,hMk,hR,b5,hRR⟩;have HRR:=hid hRR;clear hRR;have hYl:=hMk.len;have hYn:Y≠[]:=mk_some hMk (by have:=NZ.out.1;rw [List.length_nil];omega)
   have hYp:0<Y.length:=List.length_pos_iff.2 hYn;obtain ⟨rg,rcap,rfl⟩:=Lz.own_form hR.own hYp;have T5:=HT4.out.1.below b5;have O5:=Off.new (w':=w5) HT4.out.1.at_ (hR.new rg rfl) (hR.own.lt rg rfl).2
   have HRC:Hid (∀i (h:i<Y.length),w5.cell? ⟨rg,i*3,none⟩=some (.int .i64 (Y[i].1:Nat))∧w5.cell? ⟨rg,i*3+1,none⟩=some (.int .i64 (Y[i].2:Nat))∧w5.cell? ⟨rg,i*3+2,none⟩=some (.int .i64 (xb Y[i].1:Nat))):=hid fun i h=>by
    obtain ⟨c1,c2,c3⟩:=cellsR_get Y i h;exact ⟨(hR.own.cellAt (g:=rg) (i*3) (by omega)).trans c1,(hR.own.cellAt (g:=rg) (i*3+1) (by omega)).trans c2,(hR.own.cellAt (g:=rg) (i*3+2) (by omega)).trans c3⟩
   obtain ⟨yl,hyl⟩:∃yl,Y.length=yl:=⟨_,rfl⟩;have hyl2:yl≤316:=by have:=NZ.out.1;rw [List.length_nil] at hYl;omega
   have HMK:=hid (And.intro hMk hyl);have HT5:=hid (And.intro T5 O5);have CO:=hid (putOrder_any b v4 _ rg yl rcap Y w5 T5.at_ (by rw [List.length_append,List.length_append,bitsOf_length,bitsOf_length];have:=HW.out.2;omega) hyl O5.lt HRC.out (fun y hy=>(hMk.syms y hy).1) (by omega))
   rw [hyl];clear hMk hR b5 hYl hYn hYp hyl T5 O5 CR HT4 HCL HG
   go_wp2_with fail
   refine CO.out.mono ?_;rintro r w6 ⟨bc,O,kk,rfl,hC,hO,v6,T6,o6⟩;obtain ⟨og6,eg6⟩:=HT5.out.2.step T6.but T6.near;have T6':=HT5.out.1.step T6.at_ T6.but T6.near;have HDO:Hid (HdrOf (nats L) (nats M) kk O Y):=hid ⟨by rw [←nats_append,HZ.out.1];exact HRR.out,by rw [←nats_append,HZ.out.1];exact HMK.out.1,hO⟩
   have HHD:Hid (IsHdr (nats L) (nats M) kk O Y∧hdrB (nats L) (nats M) kk O Y=bitsOf 5 (nf:Int)++(bitsOf 5 (mf:Int)++(bitsOf 4 ((kk-4:Nat):Int)++(ordB O kk++Y.flatMap (yB O))))):=hid (by
    have hnl:=nats_length L;have hml:=nats_length M;rw [HLM.out.1] at hnl;rw [HLM.out.2] at hml;refine ⟨⟨by rw [hnl];exact hn,by rw [hml];exact hm,hO.many,hO.own,hO.most,hO.rest,hO.room,?_⟩,?_⟩
    ·rw [←nats_append,HZ.out.1];exact HMK.out.1.rows hO.syms
    ·unfold hdrB;rw [hnl,hml,HNF.out.1,HNF.out.2])
   obtain ⟨A,hA⟩:∃A,l0++bitsOf 5 (nf:Int)++bitsOf 5 (mf:Int)++(bitsOf 4 ((kk-4:Nat):Int)++ordB O kk)=A:=⟨_,rfl⟩;rw [hA] at T6'
   have HAL:Hid (A.length≤1000100∧l0++hdrB (nats L) (nats M) kk O Y=A++Y.flatMap (yB O)):=hid (by
    rw [HHD.out.2,←hA];refine ⟨?_,by simp only [List.append_assoc]⟩
    simp only [List.length_append,bitsOf_length,ordB_length]
    have:=HW.out.2
    have:=hO.many
    omega)
   have HT6:=hid (And.intro T6' (And.intro o6 og6));have HC6:=hid hC
   have HR6:Hid (∀i (h:i<Y.length),w6.cell? ⟨rg,i*3,none⟩=some (.int .i64 (Y[i].1:Nat))∧w6.cell? ⟨rg,i*3+1,none⟩=some (.int .i64 (Y[i].2:Nat))∧w6.cell? ⟨rg,i*3+2,none⟩=some (.int .i64 (xb Y[i].1:Nat))):=hid fun i h=>by
    obtain ⟨c1,c2,c3⟩:=HRC.out i h;exact ⟨(World.cell?_of_block (w:=w5) (w':=w6) (a:=⟨rg,i*3,none⟩) eg6).trans c1,(World.cell?_of_block (w:=w5) (w':=w6) (a:=⟨rg,i*3+1,none⟩) eg6).trans c2,(World.cell?_of_block (w:=w5) (w':=w6) (a:=⟨rg,i*3+2,none⟩) eg6).trans c3⟩
   have HO19:=hid hO.own;clear T6' T6 o6 og6 eg6 hC hO hA CO HT5 HRC
   go_wp2_with fail
   go_loopw [55] (fun i wr=>∃(j:Nat) (u:Value),j≤yl∧i=.int .i64 j∧Wt b v w wr u (A++(Y.take j).flatMap (yB O))∧((Y.take j).flatMap (yB O)).length≤j*64∧Off b u wr bc∧Off b u wr rg∧wr.heap[bc]?=w6.heap[bc]?∧wr.heap[rg]?=w6.heap[rg]?) (fun i _=>yl-(intOf i).toNat)
   case atStart=>exact ⟨0,v6,Nat.zero_le _,rfl,by rw [List.take_zero,List.flatMap_nil,List.append_nil];exact HT6.out.1,by simp,HT6.out.2.1,HT6.out.2.2,rfl,rfl⟩
   case round=>
    obtain ⟨j,u,hj,rfl,hT,hTL,oc,og,ec,eg⟩:=hrel;clear HT6
    by_cases hjlt:j<yl
    ·have hjlt':(j:Int)<yl:=by omega
     have hjl:j<Y.length:=by have:=HMK.out.2;omega
     obtain ⟨q1,q2,q3⟩:=HR6.out j hjl;have d1:=(World.cell?_of_block (w:=w6) (w':=wr) (a:=⟨rg,j*3,none⟩) eg).trans q1;have d2:=(World.cell?_of_block (w:=w6) (w':=wr) (a:=⟨rg,j*3+1,none⟩) eg).trans q2;have d3:=(World.cell?_of_block (w:=w6) (w':=wr) (a:=⟨rg,j*3+2,none⟩) eg).trans q3;obtain ⟨hs19,hse⟩:=HMK.out.1.syms Y[j] (List.getElem_mem hjl);have NX:Hid ((Y.take (j+1)).flatMap (yB O)=(Y.take j).flatMap (yB O)++yB O Y[j]):=hid (by rw [List.take_succ_eq_append_getElem hjl,List.flatMap_append];simp)
     have hx7:∀s,xb s≤7:=fun s=>by unfold xb;split <;> (try split) <;> (try split) <;> omega
     have hE7:=hx7 Y[j].1
     have hcd:(yB O Y[j]).length≤64:=by
      unfold yB;rw [List.length_append,bitsOf_length]
      have:(cd O Y[j].1).length≤32:=Sym.cd_length O _
      omega
     have NL:Hid (((Y.take (j+1)).flatMap (yB O)).length≤(j+1)*64):=hid (by rw [NX.out,List.length_append];omega)
     obtain ⟨⟨s,e⟩,hy⟩:∃y,Y[j]=y:=⟨_,rfl⟩;rw [hy] at d1 d2 d3 hs19 hE7 NX;simp only at d1 d2 d3 hs19 hE7;have hyb:yB O (s,e)=codeBits (codeV O s:Nat) (O.getD s 0:Nat)++bitsOf (xb s) (e:Int):=rfl;rw [hyb] at NX;obtain ⟨c0,c1⟩:=(codes_block HC6.out ec).cells s hs19;generalize xb s=E at *;generalize codeV O s=bt at *;generalize O.getD s 0=ln at *;have hX:=heap_alloc_new wr (.cells #[.int .i64 s,.int .i64 e,.int .i64 E] 187);have bX:Below wr.heap.size wr (wr.alloc (.cells #[.int .i64 s,.int .i64 e,.int .i64 E] 187)):=(Below.refl _ _).alloc (Nat.le_refl _) _;have oX:=Off.new (w':=wr.alloc (.cells #[.int .i64 s,.int .i64 e,.int .i64 E] 187)) hT.at_ (Nat.le_refl _) (by simp)
     generalize hW5:wr.alloc (.cells #[.int .i64 s,.int .i64 e,.int .i64 E] 187)=w7 at *;obtain ⟨oc7,ec7⟩:=oc.below bX;obtain ⟨og7,eg7⟩:=og.below bX;have T7:=hT.below bX;have c0':=(World.cell?_of_block (w:=wr) (w':=w7) (a:=⟨bc,s*2,none⟩) ec7).trans c0;have c1':=(World.cell?_of_block (w:=wr) (w':=w7) (a:=⟨bc,s*2+1,none⟩) ec7).trans c1;generalize hP:wr.heap.size=P at *;have f0:w7.cell? ⟨P,0,none⟩=some (.int .i64 s):=(cell_of_row _ _ 0 _ _ _ hX).trans rfl;have hs19':(s:Int)<19:=by omega
     have HT7:=hid (And.intro T7 (And.intro oc7 (And.intro og7 (And.intro (ec7.trans ec) (eg7.trans eg)))));have HP7:=hid (And.intro oX hX);have hl7:(A++(Y.take j).flatMap (yB O)).length≤1100000:=by rw [List.length_append];have:=HAL.out.1;omega
     have CW:=hid (wcode_any b u _ bt ln w7 T7.at_ (by omega))
     have HLN:=hid (codeBits_length bt ln);clear hT oc og ec eg q1 q2 q3 hse hx7 hcd hy hyb oX bX T7 oc7 ec7 og7 eg7 c0 c1 hTL
     go_wp2_with fail
     refine CW.out.mono ?_;rintro r w8 ⟨rfl,v8,h8,b8,n8⟩;obtain ⟨x1,x2,x3,x4,x5⟩:=HT7.out;obtain ⟨oc8,ec8⟩:=x2.step b8 n8;obtain ⟨og8,eg8⟩:=x3.step b8 n8;obtain ⟨op8,ep8⟩:=HP7.out.1.step b8 n8;have hX8:=ep8.trans HP7.out.2;have f1:w8.cell? ⟨P,1,none⟩=some (.int .i64 e):=(cell_of_row _ _ 1 _ _ _ hX8).trans rfl;have f2:w8.cell? ⟨P,2,none⟩=some (.int .i64 E):=(cell_of_row _ _ 2 _ _ _ hX8).trans rfl;have HT8:=hid (And.intro (x1.step h8 b8 n8) (And.intro oc8 (And.intro og8 (And.intro (ec8.trans x4) (eg8.trans x5)))));have CW2:=hid (wbits_any b v8 _ E e w8 HT8.out.1.at_ (by rw [List.length_append,HLN.out];have:=Bit.cnt_le ln;omega))
     clear x1 x2 x3 x4 x5 oc8 ec8 og8 eg8 op8 ep8 hX8 h8 b8 n8 f0 c0' c1' CW HT7 HP7 hX
     go_wp2_with fail
     refine CW2.out.mono ?_;rintro r w9 ⟨rfl,v9,h9,b9,n9⟩;obtain ⟨x1,x2,x3,x4,x5⟩:=HT8.out;obtain ⟨oc9,ec9⟩:=x2.step b9 n9;obtain ⟨og9,eg9⟩:=x3.step b9 n9;have T9:=x1.step h9 b9 n9;rw [cnt_nat E (by omega),List.append_assoc,List.append_assoc,←NX.out] at T9
     have HT9:=hid (And.intro T9 (And.intro NL.out (And.intro oc9 (And.intro og9 (And.intro (ec9.trans x4) (eg9.trans x5))))));clear x1 x2 x3 x4 x5 oc9 ec9 og9 eg9 T9 h9 b9 n9 f1 f2 CW2 HT8
     go_wp2_with fail
     refine ⟨⟨j+1,v9,by omega,by go_num,HT9.out⟩,?_⟩
     simp [intOf];omega
    ·obtain rfl:j=yl:=by omega
     rw [List.take_of_length_le (by have:=HMK.out.2;omega)] at hT hTL
     have HT:=hid (And.intro hT hTL);clear hT hTL oc og ec eg
     go_wp2_with fail
     go_ret;refine ⟨0,hdrB (nats L) (nats M) kk O Y,rfl,.inr ⟨HALL.out,rfl,kk,O,Y,HHD.out.1,HDO.out,rfl⟩,?_,u,?_⟩
     ·rw [hdrB_length];have h1:=HHD.out.1.many;have h2:=HT.out.2;omega
     ·rw [HAL.out.2];exact HT.out.1
def hdrX (L M:List Int) (e:Int) (l1:List Bool):Prop:=
 (oddH L M=true∧e=1∧l1=[])∨(oddH L M=false∧e=0∧∃k O Y,IsHdr (nats L) (nats M) k O Y∧HdrOf (nats L) (nats M) k O Y∧l1=hdrB (nats L) (nats M) k O Y)
theorem lengths_any (b:Nat) (v:Value) (l0:List Bool) (a1 a2:Option Addr) (n c1 m c2:Nat) (L M:List Int) (w:World) (hw:WrAt w b v l0) (hl:l0.length≤1000000) (hL:L.length=n) (hM:M.length=m) (iL:IsInts w a1 L) (iM:IsInts w a2 M) :
  Calls Tryz.prog 123 #[.pointer (some ⟨b,0,none⟩),.slice a1 n c1,.slice a2 m c2] w fun r w'=>∃e l1,r=.returned (.int .i64 e)∧hdrX L M e l1∧l1.length≤100000∧∃v',Wt b v w w' v' (l0++l1):=by
 by_cases h:(257≤n∧n≤286)∧(1≤m∧m≤30)
 ·have e1:oddH L M=!allIn 15 (L++M):=by
   unfold oddH;rw [allIn_append,hL,hM,decide_eq_false (by omega),decide_eq_false (by omega),decide_eq_false (by omega),decide_eq_false (by omega)]
   cases allIn 15 L <;> cases allIn 15 M <;> rfl
  refine (lengths_in b v l0 a1 a2 n c1 m c2 L M w hw hl hL hM iL iM h.1 h.2).mono ?_;rintro r w' ⟨e,l1,rfl,hcase,hlen,hv⟩;refine ⟨e,l1,rfl,?_,hlen,hv⟩;unfold hdrX;rw [e1];rcases hcase with ⟨h1,h2,h3⟩ | ⟨h1,h2,h3⟩
  ·exact .inl ⟨by rw [h1];rfl,h2,h3⟩
  ·exact .inr ⟨by rw [h1];rfl,h2,h3⟩
 ·have e1:oddH L M=true:=by
   unfold oddH;rw [hL,hM]
   have:((decide (n<257)||decide (286<n))||(decide (m<1)||decide (30<m)))=true:=by simp;omega
   rw [this];rfl
  refine (lengths_few (.pointer (some ⟨b,0,none⟩)) a1 a2 n c1 m c2 w (by omega)).mono ?_
  rintro r w' ⟨rfl,rfl⟩;exact ⟨1,[],rfl,.inl ⟨e1,rfl,rfl⟩,by simp,v,by rw [List.append_nil];exact Wt.start hw⟩
end Go.Proofs.YthbjllabgpaaaaaGreat.Dfl
