/-
  Contract of deflate's Stored.
-/
import Derived.Test.YthbjllabgpaaaaaGreatDflA
namespace Go.Proofs.YthbjllabgpaaaaaGreat.Dfl
open Go.Lib (hid)
set_option maxHeartbeats 4000000
open Go.ChangeShapes Go.WideShapes Go.ChangeAt Go.RowKit
open Go.Proofs.YthbjllabgpaaaaaGreat.Bit (WrAt But Near bitsOf bitsOf_length cnt tb tbits pack pad fre fre_zero wbits_any align_any wbytes_any bitsOf_add ibit)
open Go.Proofs.YthbjllabgpaaaaaGreat.Sym (wr_below)
open Go.Proofs.YthbjllabgpaaaaaGreat.Def
set_option linter.unusedVariables false
set_option maxRecDepth 100000
def stL (l:List Bool):List (ByteArray×Bool)→List Bool
 | []=>l
 | p::r=>stL (stOne p.2 l p.1.data.toList) r
theorem size_list (s:ByteArray):s.data.toList.length=s.size:=by simp
theorem stL_pcs (l:List Bool) (last:Bool) (s:ByteArray) (hs:s.size≤70000):stL l (pcs last s)=stB last l s.data.toList:=by
 unfold pcs
 split
 ·rename_i h;rw [stB_last _ _ _ (by rw [size_list];exact h)];rfl
 ·rename_i h
  have e1:(s.extract 0 65535).data.toList=s.data.toList.take 65535:=by
   rw [ByteArray.data_extract,Array.toList_extract,List.extract_eq_take_drop];simp
  have e2:(s.extract 65535 s.size).data.toList=s.data.toList.drop 65535:=by
   rw [ByteArray.data_extract,Array.toList_extract,List.extract_eq_take_drop,List.take_of_length_le];rw [List.length_drop,size_list];omega
  rw [stB_more _ _ _ (by rw [size_list];omega),stB_last _ _ _ (by rw [List.length_drop,size_list];omega),←e1,←e2];rfl
theorem pcs_size (last:Bool) (s:ByteArray) (hs:s.size≤70000):1≤(pcs last s).length∧(pcs last s).length≤2∧∀p∈pcs last s,p.1.size≤65535:=by
 unfold pcs
 split
 ·rename_i h;refine ⟨by simp,by simp,fun p hp=>?_⟩
  obtain rfl:=List.mem_singleton.1 hp;exact h
 ·refine ⟨by simp,by simp,fun p hp=>?_⟩
  rcases List.mem_cons.1 hp with rfl | hp
  ·show (s.extract 0 65535).size≤65535
   simp;omega
  ·obtain rfl:=List.mem_singleton.1 hp;show (s.extract 65535 s.size).size≤65535
   simp;omega
theorem bits_turn (n:Nat) (h:n≤65535):bitsOf 16 (-(n:Int)-1)=bitsOf 16 ((65535-n:Nat):Int):=by
 unfold bitsOf;refine List.map_congr_left fun i hi=>?_
 have hi:=List.mem_range.1 hi;have e:((65535-n:Nat):Int) = -(n:Int)-1+65536:=by omega
 have hp:(65536:Int)=2^i*(2*2^(15-i)):=by
  rw [show (65536:Int)=2^16 by decide,show (2:Int)*2^(15-i)=2^(16-i) by rw [show 16-i=(15-i)+1 by omega,Int.pow_succ,Int.mul_comm],←Int.pow_add]
  congr 1;omega
 unfold ibit;rw [e,hp,Int.add_mul_ediv_left _ _ (by exact (Int.ne_of_gt (Int.pow_pos (by decide)))),Int.add_mul_emod_self_left]
theorem turn_int (m:Nat) (h:m≤1000000):bits .xor .i64 (-1) (m:Int) = -(m:Int)-1:=by
 show IntKind.i64.wrap ((BitVec.ofInt 64 (-1) ^^^ BitVec.ofInt 64 (m:Int)).toNat:Int)=_
 have e1:(BitVec.ofInt 64 (m:Int)).toNat=m:=by
  rw [BitVec.toNat_ofInt];omega
 have e2:BitVec.ofInt 64 (-1)=BitVec.allOnes 64:=by decide
 rw [e2,BitVec.allOnes_xor,BitVec.toNat_not,e1];have e3:IntKind.i64.bits=64:=rfl;have e4:IntKind.i64.signed=true:=rfl;simp [IntKind.wrap,e3,e4];omega
theorem stored_any (b:Nat) (v:Value) (l0:List Bool) (s:ByteArray) (last:Bool) (w:World) (hw:WrAt w b v l0) (hl:l0.length≤1000000) (hs:s.size≤70000) :
  Calls Tryz.prog 43 #[.pointer (some ⟨b,0,none⟩),.string s,.bool last] w fun r w'=>r=.returned (.tuple #[])∧∃v',Wt b v w w' v' (stB last l0 s.data.toList):=by
 rw [←stL_pcs l0 last s hs];have HW:=hid hw;have C1:=hid (pieces_any s last w hs);obtain ⟨z1,z2,z3⟩:=pcs_size last s hs;obtain ⟨n,hn⟩:∃n,(pcs last s).length=n:=⟨_,rfl⟩;generalize hPL:pcs last s=PL at *;rw [hn] at z1 z2;have HZ:=hid (And.intro z2 (And.intro z3 hn));have HL:=hid hl;clear hw z2 z3 hPL hl
 go_enter Tryz.func43,Tryz.ntmps43
 go_wp2_with fail
 refine C1.out.mono ?_;rintro r w1 ⟨pv,rfl,hp,hb⟩;obtain ⟨g,cap,rfl⟩:=Lz.own_form hp.own (by omega)
 rw [hn];have hg:=hp.new g rfl;have hg2:=(hp.own.lt g rfl).2
 have CELLS:Hid (∀k (h:k<PL.length),w1.cell? ⟨g,k*2,none⟩=some (.string PL[k].1)∧w1.cell? ⟨g,k*2+1,none⟩=some (.bool PL[k].2)):=hid fun k h=>by
  obtain ⟨c1,c2⟩:=cellsP_get PL k h;have q1:=hp.own.cellAt (g:=g) (k*2) (by omega)
  have q2:=hp.own.cellAt (g:=g) (k*2+1) (by omega)
  exact ⟨q1.trans c1,q2.trans c2⟩
 have W1:=hid ((Wt.start HW.out).below hb);have O1:=hid (Off.new (w':=w1) HW.out hg hg2);clear hp hb C1 HW hg hg2
 go_wp2_with fail
 go_loopw [12] (fun i wr=>∃(k:Nat) (u:Value) (l:List Bool),k≤n∧i=.int .i64 k∧Wt b v w wr u l∧Off b u wr g∧wr.heap[g]?=w1.heap[g]?∧stL l (PL.drop k)=stL l0 PL∧l.length≤1000000+k*600000) (fun i _=>n-(intOf i).toNat)
 case atStart=>exact ⟨0,v,l0,Nat.zero_le _,rfl,W1.out,O1.out,rfl,rfl,by have:=HL.out;omega⟩
 case round=>
  obtain ⟨k,u,l,hk,rfl,hw,ho,hB,hst,hll⟩:=hrel;clear W1 O1 HL
  by_cases hlt:k<n
  ·have hlt':(k:Int)<n:=by omega
   have hkl:k<PL.length:=by have:=HZ.out.2.2;omega
   have hk2:k≤1:=by have:=HZ.out.1;omega
   obtain ⟨q1,q2⟩:=CELLS.out k hkl;have c1:wr.cell? ⟨g,k*2,none⟩=_:=(World.cell?_of_block (w:=w1) (w':=wr) (a:=⟨g,k*2,none⟩) hB).trans q1;have c2:wr.cell? ⟨g,k*2+1,none⟩=_:=(World.cell?_of_block (w:=w1) (w':=wr) (a:=⟨g,k*2+1,none⟩) hB).trans q2;have hp:=HZ.out.2.1 PL[k] (List.getElem_mem hkl);rw [List.drop_eq_getElem_cons hkl] at hst;obtain ⟨⟨p,la⟩,hpl⟩:∃x,PL[k]=x:=⟨_,rfl⟩;rw [hpl] at c1 c2 hp hst;have hst:stL (stOne la l p.data.toList) (PL.drop (k+1))=stL l0 PL:=hst;have hp:p.size≤65535:=hp;have hX:=heap_alloc_new wr (.cells #[.string p,.bool la] 116);have bX:Below wr.heap.size wr (wr.alloc (.cells #[.string p,.bool la] 116)):=(Below.refl _ _).alloc (Nat.le_refl _) _;have oX:=Off.new (w':=wr.alloc (.cells #[.string p,.bool la] 116)) hw.at_ (Nat.le_refl _) (by simp)
   generalize hW5:wr.alloc (.cells #[.string p,.bool la] 116)=w5 at *;generalize hPp:wr.heap.size=P at *;rw [←hPp] at bX;have W5:=hid (hw.below bX);obtain ⟨og,eg⟩:=ho.below bX;have OP:=hid oX;have OG:=hid (And.intro og (eg.trans hB));have HP:Hid (w5.heap[P]?=some (.cells #[.string p,.bool la] 116 (0,0))):=hid hX;have cells:∀w':World,w'.heap[P]?=some (.cells #[.string p,.bool la] 116 (0,0))→w'.cell? ⟨P,0,none⟩=some (.string p)∧w'.cell? ⟨P,1,none⟩=some (.bool la):=fun w' h=>⟨by rw [cell_of_row _ _ 0 _ _ _ h];rfl,by rw [cell_of_row _ _ 1 _ _ _ h];rfl⟩
   have CP:=hid cells;have HST:=hid (And.intro hst hll);have HPS:=hid hp;obtain ⟨d0,d1⟩:=CP.out _ HP.out;clear hw ho hB hst hX bX oX og eg q1 q2 cells hpl hkl hp;have CB:=hid (begin_any b u u l la 0 w5 w5 (Wt.start W5.out.at_) (by have:=HST.out.2;omega))
   rw [show ((0:Nat):Int)=0 from rfl] at CB
   go_wp2_with fail
   refine CB.out.mono ?_;rintro r w6 ⟨rfl,u6,h6⟩;obtain ⟨op6,ep6⟩:=OP.out.step h6.but h6.near;obtain ⟨og6,eg6⟩:=OG.out.1.step h6.but h6.near;have W6:=hid (W5.out.step h6.at_ h6.but h6.near);have OP6:=hid op6;have OG6:=hid (And.intro og6 (eg6.trans OG.out.2));have HP6:=hid (ep6.trans HP.out);clear h6 op6 ep6 og6 eg6 W5 OP OG HP CB d0 d1;have CA:=hid (align_any b u6 _ w6 W6.out.at_)
   go_wp2_with fail
   refine CA.out.mono ?_;rintro r w7 ⟨rfl,h7,b7⟩;have n7:=Near.refl w6 u6;obtain ⟨op7,ep7⟩:=OP6.out.step b7 n7;obtain ⟨og7,eg7⟩:=OG6.out.1.step b7 n7;have W7:=hid (W6.out.step h7 b7 n7);have OP7:=hid op7;have OG7:=hid (And.intro og7 (eg7.trans OG6.out.2));have HP7:=hid (ep7.trans HP6.out);obtain ⟨d0,d1⟩:=CP.out _ HP7.out;clear h7 b7 n7 op7 ep7 og7 eg7 W6 OP6 OG6 HP6 CA;obtain ⟨m,hm⟩:∃m,p.size=m:=⟨_,rfl⟩;have HM:=hid hm;have hm2:m≤65535:=by have:=HPS.out;omega
   have wn:bits .xor .i64 (-1) (m:Int) = -(m:Int)-1:=turn_int m (by omega)
   have X1:=hid (wbits_any b u6 _ 16 m w7 W7.out.at_ (by
    have:=W7.out;have h1:(pad (l++la::bitsOf 2 0)).length≤100000000:=by (rw [pad_length,List.length_append,List.length_cons,bitsOf_length];unfold fre;have:=HST.out.2;omega)
    omega))
   clear hst hp c1 c2 hW5 hPp;obtain ⟨l7,hl7⟩:∃l7,pad (l++la::bitsOf 2 0)=l7:=⟨_,rfl⟩;have HL7:Hid (pad (l++[la,false,false])=l7∧l7.length≤100000000):=hid ⟨hl7,by rw [←hl7,pad_length,List.length_append,List.length_cons,bitsOf_length];unfold fre;have:=HST.out.2;omega⟩
   rw [hl7] at W7 X1;clear hl7
   go_wp2_with fail
   refine X1.out.mono ?_;rintro r w8 ⟨rfl,u8,h8,b8,n8⟩;obtain ⟨op8,ep8⟩:=OP7.out.step b8 n8;obtain ⟨og8,eg8⟩:=OG7.out.1.step b8 n8;have W8:=hid (W7.out.step h8 b8 n8);have OP8:=hid op8;have OG8:=hid (And.intro og8 (eg8.trans OG7.out.2));have HP8:=hid (ep8.trans HP7.out);obtain ⟨d0,d1⟩:=CP.out _ HP8.out;clear h8 b8 n8 op8 ep8 og8 eg8 W7 OP7 OG7 HP7 X1;have X2:=hid (wbits_any b u8 _ 16 (-(m:Int)-1) w8 W8.out.at_ (by rw [List.length_append,bitsOf_length];have:=HL7.out.2;have:cnt 16=16:=rfl;omega))
   go_wp2_with fail
   refine X2.out.mono ?_;rintro r w9 ⟨rfl,u9,h9,b9,n9⟩;obtain ⟨op9,ep9⟩:=OP8.out.step b9 n9;obtain ⟨og9,eg9⟩:=OG8.out.1.step b9 n9;have W9:=hid (W8.out.step h9 b9 n9);have OP9:=hid op9;have OG9:=hid (And.intro og9 (eg9.trans OG8.out.2));have HP9:=hid (ep9.trans HP8.out);obtain ⟨d0,d1⟩:=CP.out _ HP9.out;clear h9 b9 n9 op9 ep9 og9 eg9 W8 OP8 OG8 HP8 X2;have X3:=hid (wbytes_any b u9 _ p w9 W9.out.at_ (by rw [List.length_append,List.length_append,bitsOf_length,bitsOf_length];have:=HL7.out.2;have:cnt 16=16:=rfl;omega) (by have:=HPS.out;omega))
   go_wp2_with fail
   refine X3.out.mono ?_;rintro r w10 ⟨rfl,u10,h10,b10,n10⟩;obtain ⟨op10,ep10⟩:=OP9.out.step b10 n10;obtain ⟨og10,eg10⟩:=OG9.out.1.step b10 n10;have W10:=hid (W9.out.step h10 b10 n10);have OP10:=hid op10;have OG10:=hid (And.intro og10 (eg10.trans OG9.out.2));have HP10:=hid (ep10.trans HP9.out);obtain ⟨d0,d1⟩:=CP.out _ HP10.out;clear h10 b10 n10 op10 ep10 og10 eg10 W9 OP9 OG9 HP9 X3
   have FIN:pad (l7++bitsOf (cnt 16) (m:Int)++bitsOf (cnt 16) (-(m:Int)-1))++tbits p.data.toList=stOne la l p.data.toList:=by
    have e16:cnt 16=16:=rfl;have h8:l7.length%8=0:=by rw [←HL7.out.1,pad_length];unfold fre;omega
    have e0:fre (l7++bitsOf (cnt 16) (m:Int)++bitsOf (cnt 16) (-(m:Int)-1))=0:=fre_zero (by rw [List.length_append,List.length_append,bitsOf_length,bitsOf_length,e16];omega)
    unfold stOne plB;rw [HL7.out.1,size_list,HM.out,←bits_turn m (by have:=HPS.out;have:=HM.out;omega)]
    unfold pad;rw [e0,List.replicate_zero,List.append_nil,e16];simp only [List.append_assoc]
   have W11:=hid (FIN ▸ W10.out)
   have FLEN:(stOne la l p.data.toList).length≤1000000+(k+1)*600000:=by
    have h1:=stOne_length la l p.data.toList;rw [size_list] at h1
    have:=HPS.out
    have:=HST.out.2
    omega
   have HFL:=hid FLEN;clear FIN FLEN W10 d0 d1
   go_wp2_with fail
   refine ⟨⟨k+1,u10,stOne la l p.data.toList,by omega,by go_num,W11.out,OG10.out.1,OG10.out.2,HST.out.1,HFL.out⟩,?_⟩
   simp [intOf];omega
  ·obtain rfl:k=n:=by omega
   rw [List.drop_of_length_le (by have:=HZ.out.2.2;omega)] at hst
   have hst:l=stL l0 PL:=hst;have HW:=hid hw;have HS:=hid hst;clear hw hst ho hB
   go_wp2_with fail
   go_end0;exact ⟨rfl,u,HS.out ▸ HW.out⟩
end Go.Proofs.YthbjllabgpaaaaaGreat.Dfl
