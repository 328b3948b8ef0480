/-
  Texts in one: SymRefC, SymRefW, SymRefS, SymRefR, SymWrites, SymReads, SymBackM.
-/
import Derived.Test.YthbjllabgpaaaaaGreatAllSym
import Derived.Test.YthbjllabgpaaaaaGreatAllRf
import Derived.Test.YthbjllabgpaaaaaGreatAllHuf
namespace Go.Proofs.YthbjllabgpaaaaaGreat.Sym
open Go.Lib (hid)
set_option maxHeartbeats 16000000
open Go.ChangeShapes Go.WideShapes Go.ChangeAt Go.RowKit
open Go.Proofs.YthbjllabgpaaaaaGreat.Huf (codeV)
open Go.Proofs.YthbjllabgpaaaaaGreat.Bit (BlAt From codeBits bits_rev revV bitsOf cnt)
set_option linter.unusedVariables false
set_option maxRecDepth 100000

end Go.Proofs.YthbjllabgpaaaaaGreat.Sym
namespace Go.Proofs.YthbjllabgpaaaaaGreat.Sym
open Go.Lib (hid)
set_option maxHeartbeats 16000000
open Go.ChangeShapes Go.WideShapes Go.ChangeAt Go.RowKit
open Go.Proofs.YthbjllabgpaaaaaGreat.Huf (IsInts fine nats nats_length nats_le nats_cast codeV fine_parts chk refCheck_any refCodes_any info_parts used)
open Go.Proofs.YthbjllabgpaaaaaGreat.Lz (Tok okT tokC IsToks TokAt okT_byte okT_piece refValid_any)
open Go.Proofs.YthbjllabgpaaaaaGreat.Bit (BlAt SeesV From Near bitsOf bitsOf_length cnt cnt_nat below_row)
set_option linter.unusedVariables false
set_option maxRecDepth 100000
theorem chk_fine {L:List Int} (h:fine L=true):chk L=.tuple #[.int .i64 (32768-used (nats L) 15:Nat),.int .i64 0]:=by unfold chk;rw [h,if_pos rfl]
theorem chk_not {L:List Int} (h:fine L=false):chk L=.tuple #[.int .i64 0,.int .i64 50]:=by unfold chk;rw [h];rfl
theorem codes_at (a:Option Addr) (n cap:Nat) (L:List Int) (w:World) (hn:L.length=n) (h:IsInts w a L) (hf:fine L=true) :
  Calls Tryz.prog 84 #[.slice a n cap] w fun e w'=>∃b,e=.returned (.slice (some ⟨b,0,none⟩) n n)∧CodesAt w' b n (nats L)∧Below w.heap.size w w':=by
 obtain ⟨f1,f2,f3⟩:=fine_parts hf;refine (refCodes_any a n cap (nats L) w (by rw [nats_length];exact hn) (by rw [←nats_cast f2];exact h) (by omega) (nats_le f2)).mono ?_
 rintro r w' ⟨b,rfl,hb,ho⟩;refine ⟨b,rfl,?_,hb⟩;refine ⟨ho.1,?_⟩;rcases ho.2 with h0 | ⟨g,cap,cur,h1,_,h3⟩
 ·exact .inl h0
 ·exact .inr ⟨g,cap,cur,h1,Nat.zero_le _,h3⟩
end Go.Proofs.YthbjllabgpaaaaaGreat.Sym
namespace Go.Proofs.YthbjllabgpaaaaaGreat.Sym
open Go.Lib (hid)
set_option maxHeartbeats 16000000
open Go.ChangeShapes Go.WideShapes Go.ChangeAt Go.RowKit
open Go.Proofs.YthbjllabgpaaaaaGreat.Huf (nxG nx_spec nextB nextB_length nextB_succ bigN findV find_any IsBits codeV codeV_lt Stop info_parts top fst cn used)
open Go.Proofs.YthbjllabgpaaaaaGreat.Bit (BlAt From Near RfAt rfbits_any rV rI rOk errI tat num cellsB row_ne wpList_append_near info_bool lenOf cellsB_length rgrown_trans)
set_option linter.unusedVariables false
set_option maxRecDepth 100000
theorem grown_row {w wr w':World} {v:Value} {b:Nat} (h:w.grownBy wr (some b)) (hg:wr.grownBy w' v.ownBlock) (hf:From w.heap.size v):w.grownBy w' (some b):=
 ⟨hg.os.trans h.os,hg.tape.trans h.tape,hg.output.trans h.output,Nat.le_trans h.size hg.size,fun k hk hkb=>(hg.block k (Nat.lt_of_lt_of_le hk h.size) (fun e=>by have:=hf k e.symm;omega)).trans (h.block k hk hkb)⟩
theorem rf_row {w w':World} {v u:Value} {b i B:Nat} {T:List Bool} {e:Bool} (h:RfAt w b v T i e) (hg:w.grownBy w' u.ownBlock) (hb:b<B) (hv:∀k,v.ownBlock=some k→k<B) (hu:From B u):RfAt w' b v T i e:=
 ⟨by rw [hg.block b h.lt (fun e=>by have:=hu b e.symm;omega)];exact h.blk,h.row.block fun k hk=>hg.block k (World.ownsRow.lt h.row k hk).2 (fun e=>by have:=hv k hk;have:=hu k e.symm;omega)⟩
theorem bits_at {w:World} {a:Option Addr} {n cap:Nat} {l:List Bool} (h:BlAt w (.slice a n cap) l):IsBits w a l:=by
 intro h0;obtain ⟨a',cap',e,hs⟩:=h.shape;simp only [Value.slice.injEq] at e;obtain ⟨g,rfl,hg,hc⟩:=hs h0;obtain ⟨rfl,_,_⟩:=e;exact ⟨g,0,rfl,hg,fun i hi=>by rw [Nat.zero_add,hc i hi];simp [cellsB,hi]⟩
theorem small_codes {N:List Nat} (h15:∀x∈N,x≤15) (hU:used N 15≤32768):∀i,i<N.length→codeV N i<2^N.getD i 0:=fun i hi=>by
 have g:N.getD i 0=N[i]:=by rw [List.getD_eq_getElem?_getD,List.getElem?_eq_getElem hi];rfl
 by_cases h0:N.getD i 0=0
 ·unfold codeV;rw [if_pos h0,h0];decide
 ·rw [g] at h0 ⊢;exact codeV_lt N i N[i] hi rfl (by omega) (h15 _ (List.getElem_mem _)) hU
theorem next_bit (T:List Bool) (i:Nat) (h:i<T.length):rV T i false 1=(tat T i).toNat∧rI T i false 1=i+1∧rOk T i false 1=true:=by
 have h1:rOk T i false 1=true:=by unfold rOk;simp;omega
 refine ⟨?_,?_,h1⟩
 ·unfold rV;have e:(T.drop i).take 1=[T[i]]:=by rw [List.drop_eq_getElem_cons h];rfl
  rw [if_pos h1,e];simp [num,tat,h]
 ·unfold rI;rw [if_pos h1]
theorem next_none (T:List Bool) (i:Nat) (h:i=T.length):rV T i false 1=0∧rI T i false 1=i∧rOk T i false 1=false:=by
 have h1:rOk T i false 1=false:=by unfold rOk;simp;omega
 refine ⟨?_,?_,h1⟩
 ·unfold rV;rw [h1];simp
 ·unfold rI;rw [h1];simp
theorem nextB_snoc (T:List Bool) (i q:Nat) (h:i+q<T.length):nextB T i (q+1)=nextB T i q++[tat T (i+q)]:=by
 unfold nextB;rw [List.take_succ_eq_append_getElem (by rw [List.length_drop];omega)]
 congr 2
 simp [tat,h]
def okAt (e:Int) (pos j:Nat) (bad:Bool):Prop:=e=0→j=pos∧bad=false
theorem row_own {w:World} {v:Value} {l:List Bool} {q:Nat} (h:BlAt w v l) (e:l.length=q):w.ownsRow 0 4 1 v q (cellsB l):=by subst e;exact h
theorem refSym_any (c n b p:Nat) (v:Value) (N:List Nat) (T:List Bool) (w:World) (hN:N.length=n) (hn:n≤320) (h15:∀x∈N,x≤15) (hU:used N 15≤32768) (hc:CodesAt w c n N) (hr:RfAt w b v T p false) (hp:p≤T.length) (hT:T.length≤8000000) :
  Calls Tryz.prog 88 #[.slice (some ⟨c,0,none⟩) n n,.pointer (some ⟨b,0,none⟩)] w fun r w'=>
   r=.returned (.tuple #[.int .i64 (nxG N T p false 15 0 0).1,.int .i64 (nxG N T p false 15 0 0).2.1])∧∃j bad,RfAt w' b v T j bad∧okAt (nxG N T p false 15 0 0).2.1 (nxG N T p false 15 0 0).2.2.1 j bad∧w.grownBy w' (some b):=by
 obtain ⟨t0,hi0,hz0,hz1,hz2⟩:=info_parts info_bool;obtain ⟨m,_,hm15,hpm,hall,hst⟩:=nx_spec N T p h15 15 0 0 rfl rfl (by omega) (by simp [top,fst,cn])
 generalize nxG N T p false 15 0 0=x at *;obtain ⟨xs,xe,xj,xb⟩:=x;have H15:=hid h15;have HSM:=hid (small_codes h15 hU);have HC:=hid hc;have HR:=hid hr;have HALL:=hid hall;have HST:=hid hst;have HT:=hid hT;have hbw:=hr.lt;have hvw:∀k,v.ownBlock=some k→k<w.heap.size:=fun k hk=>(World.ownsRow.lt hr.row k hk).2
 have HVW:=hid hvw;clear hst hall hc hr h15 hU hvw hT;simp only
 go_enter Tryz.func88,Tryz.ntmps88
 go_wp2_with fail
 go_loopw [6] (fun u wr=>∃q:Nat,q≤m∧BlAt wr u (nextB T p q)∧RfAt wr b v T (p+q) false∧w.grownBy wr (some b)∧From w.heap.size u∧lenOf u=q) (fun u _=>m-lenOf u)
 case atStart=>exact ⟨0,Nat.zero_le _,BlAt.nil _,HR.out,World.grownBy.refl _ _,From.nil _,rfl⟩
 case round=>
  obtain ⟨q,hq,hbl,hrf,hg,hf,hlen⟩:=hrel;have hnl:(nextB T p q).length=q:=nextB_length T p q (by omega)
  obtain ⟨ua,uc,rfl,_⟩:=hbl.shape;rw [hnl] at hbl hf hlen ⊢
  have hcw:CodesAt wr c n N:=rowK HC.out fun k hk=>by
   cases hk
   exact hg.block c HC.out.lt (fun e=>by
    cases e
    obtain ⟨_,h2⟩:=HC.out;rcases h2 with ⟨e1,_⟩ | ⟨g',cap,cur,e1,_,h3,_⟩
    ·cases e1
    ·cases e1
     have:=HR.out.blk
     rw [h3] at this;simp at this)
  have CF:=hid (find_any c n q uc ua N (nextB T p q) wr hN hnl hn (by omega) H15.out HSM.out hcw (bits_at hbl))
  have HBL:=hid hbl;have HRF:=hid hrf;have HG:=hid hg;have HF:=hid hf;clear hbl hrf hg hf hcw hlen
  go_wp2_with fail
  refine CF.out.mono ?_;rintro r w2 ⟨rfl,b2⟩;have HBL2:=hid (HBL.out.below b2);have HRF2:=hid (HRF.out.below b2);have HG2:Hid (w.grownBy w2 (some b)):=hid (rgrown_trans HG.out ⟨b2.os,b2.tape,b2.output,b2.size,fun i hi _=>b2.block i hi⟩)
  clear b2 HBL HRF HG CF
  by_cases hqm:q<m
  ·obtain ⟨e1,e2⟩:=HALL.out q (Nat.zero_le _) hqm;rw [e1];obtain ⟨n1,n2,n3⟩:=next_bit T (p+q) e2;have CB:=hid (rfbits_any b v T (p+q) false 1 w2 HRF2.out (by omega) (by have:=HT.out;omega))
   rw [show Bit.cnt 1=1 from rfl,n1,n2,n3] at CB
   have hsn:=nextB_snoc T p q e2;generalize tat T (p+q)=bit at *;have HSN:=hid hsn;clear n1 n2 n3 hsn e1
   go_wp2_with fail
   refine CB.out.mono ?_;rintro r w3 ⟨rfl,r3,g3⟩;have HBL3:=hid (HBL2.out.block fun k hk=>g3.block k (World.ownsRow.lt HBL2.out k hk).2 (fun e=>by cases e;exact row_ne HBL2.out HRF2.out.blk (by decide) hk))
   have HG3:=hid (rgrown_trans HG2.out g3);have HRF3:Hid (RfAt w3 b v T (p+q+1) false):=hid r3;obtain ⟨k0,k1,k2,_,_⟩:=r3.cells;have k2':w3.cell? ⟨b,2,none⟩=some (.int .i64 0):=k2;clear r3 g3 CB HBL2 HG2 HRF2 k2
   have FIN:Hid (∀v6 w6,w6.ownsRow 0 4 1 v6 (q+1) (cellsB (nextB T p q)++[.bool bit])→(w3.alloc (.cells #[.bool bit] 4)).grownBy w6 (Value.slice ua q uc).ownBlock→Near (w3.alloc (.cells #[.bool bit] 4)) (.slice ua q uc) v6 →
     BlAt w6 v6 (nextB T p (q+1))∧RfAt w6 b v T (p+(q+1)) false∧w.grownBy w6 (some b)∧From w.heap.size v6∧lenOf v6=q+1):=hid fun v6 w6 o6 g6 n6=>by
    have hs:(w3.alloc (.cells #[.bool bit] 4)).heap.size=w3.heap.size+1:=by simp
    have hb3:Below w3.heap.size w3 (w3.alloc (.cells #[.bool bit] 4)):=(Below.refl _ _).alloc (Nat.le_refl _) _;have hws:=HG3.out.size
    have ob:BlAt w6 v6 (nextB T p (q+1)):=by
     rw [HSN.out];unfold BlAt;rw [List.length_append,hnl,Bit.cellsB_append];exact o6
    refine ⟨ob,?_,?_,?_,?_⟩
    ·exact rf_row (HRF3.out.below hb3) g6 hbw HVW.out HF.out
    ·exact grown_row (rgrown_trans HG3.out ⟨hb3.os,hb3.tape,hb3.output,hb3.size,fun i hi _=>hb3.block i hi⟩) g6 HF.out
    ·exact HF.out.near n6 (by omega)
    ·obtain ⟨a',c',e,_⟩:=ob.shape;rw [e,nextB_length T p (q+1) (by omega)];rfl
   have hq6:q+1≤m:=by omega
   clear HSN HRF3 HG3 HF;rcases (show bit=true∨bit=false by cases bit <;> simp) with rfl | rfl
   all_goals (
    go_wp2_with (at_builtin;refine wpList_append_near _ rfl _ _ 58 rfl 4 t0 (.bool false) 1 1 Tryz.underlying58 hi0 hz0 hz1 hz2 rfl (by decide) (.slice ua q uc) q (cellsB (nextB T p q)) rfl (row_own (HBL3.out.alloc _) hnl) ⟨w3.heap.size,0,none⟩ 1 1 [.bool _] rfl rfl (cell_one_new _ _ _) (by intro u hu;simp at hu;subst hu;rfl) (by unfold maxLen;omega) (by omega) ?_;intro v6 w6 o6 g6 n6;have H6:=hid (FIN.out v6 w6 o6 g6 n6);clear o6 g6 n6)
    refine ⟨⟨q+1,hq6,H6.out⟩,?_⟩;rw [H6.out.2.2.2.2];show m-(q+1)<m-q
    omega)
  ·obtain rfl:q=m:=by omega
   have hE:w2.cell? ⟨b,2,none⟩=some (.int .i64 0):=HRF2.out.cells.2.2.1;rcases HST.out with ⟨s1,s2,s3,s4⟩ | ⟨s1,s2,s3⟩ | ⟨sy,s1,s2⟩
   ·simp only at s3 s4;subst s3;subst s4;rw [s1];obtain ⟨n1,n2,n3⟩:=next_none T (p+q) s2;have CB:=hid (rfbits_any b v T (p+q) false 1 w2 HRF2.out (by omega) (by have:=HT.out;omega))
    rw [show Bit.cnt 1=1 from rfl,n1,n2,n3] at CB
    clear n1 n2 n3 hE
    go_wp2_with fail
    refine CB.out.mono ?_;rintro r w3 ⟨rfl,r3,g3⟩;have HG3:=hid (rgrown_trans HG2.out g3);have HRF3:Hid (RfAt w3 b v T (p+q) true):=hid r3;have k2':w3.cell? ⟨b,2,none⟩=some (.int .i64 2):=r3.cells.2.2.1;clear r3 g3 CB HG2 HRF2 HBL2
    go_wp2_with fail
    go_quiet (fail)
    have HRF4:=hid (HRF3.out.draws nq);have HG4:Hid (w.grownBy (w3.drewN nq) (some b)):=hid ⟨HG3.out.os,HG3.out.tape,HG3.out.output,HG3.out.size,HG3.out.block⟩
    go_wp2_with fail
    go_ret2;exact ⟨rfl,_,_,HRF4.out,fun h=>by simp at h,HG4.out⟩
   ·simp only at s2 s3;subst s2;subst s3;rw [s1]
    go_wp2_with fail
    go_ret2;exact ⟨rfl,_,_,HRF2.out,fun h=>by simp at h,HG2.out⟩
   ·simp only [Prod.mk.injEq] at s2;obtain ⟨rfl,rfl,rfl,rfl⟩:=s2;rw [s1];have hge:(0:Int)≤(xs:Int):=by omega
    have hge2:decide ((0:Int)≤(xs:Int))=true:=by simp
    go_wp2_with fail
    go_ret2;exact ⟨rfl,_,_,HRF2.out,fun _=>⟨rfl,rfl⟩,HG2.out⟩
end Go.Proofs.YthbjllabgpaaaaaGreat.Sym
namespace Go.Proofs.YthbjllabgpaaaaaGreat.Sym
open Go.Lib (hid)
set_option maxHeartbeats 16000000
open Go.ChangeShapes Go.WideShapes Go.ChangeAt Go.RowKit
open Go.Proofs.YthbjllabgpaaaaaGreat.Huf (IsInts fine nats nats_length nats_le fine_parts chk refCheck_any nxG used info_parts)
open Go.Proofs.YthbjllabgpaaaaaGreat.Lz (Tok okT tokC cellsT cellsT_length cellsT_append cellsT_one info_tok)
open Go.Proofs.YthbjllabgpaaaaaGreat.Bit (BlAt RfAt rfbits_any rV rI rOk errI rgrown_trans cnt cnt_nat)
set_option linter.unusedVariables false
set_option maxRecDepth 100000
theorem of_len (a b:Option Addr) (s:Nat) (w:World) (h1:IsInts w a (ints LBt)) (h2:IsInts w b (ints LXt)) (hs:(s:Int)≤9223372036854775807) :
  Calls Tryz.prog 89 #[.slice a 29 29,.slice b 29 29,.int .i64 s,.int .i64 257] w fun e w'=>e=.returned (pairN (lenO s))∧∃q,w'=w.drewN q:=by
 refine (refOf_any a b 29 29 29 257 LBt LXt s w rfl rfl h1 h2 (by decide) hs).mono ?_
 rintro r w' ⟨rfl,hq⟩;refine ⟨?_,hq⟩;unfold lenO LB LX
 by_cases h:257≤(s:Int)∧(s:Int)≤285
 ·rw [if_pos h,if_pos (by omega)]
 ·rw [if_neg h,if_neg (by omega)]
theorem of_dist (a b:Option Addr) (s:Nat) (w:World) (h1:IsInts w a (ints DBt)) (h2:IsInts w b (ints DXt)) (hs:(s:Int)≤9223372036854775807) :
  Calls Tryz.prog 89 #[.slice a 30 30,.slice b 30 30,.int .i64 s,.int .i64 0] w fun e w'=>e=.returned (pairN (distO s))∧∃q,w'=w.drewN q:=by
 refine (refOf_any a b 30 30 30 0 DBt DXt s w rfl rfl h1 h2 (by decide) hs).mono ?_
 rintro r w' ⟨rfl,hq⟩;refine ⟨?_,hq⟩;unfold distO DB DX;rw [Nat.sub_zero]
 by_cases h:0≤(s:Int)∧(s:Int)≤29
 ·rw [if_pos h,if_pos (by omega)]
 ·rw [if_neg h,if_neg (by omega)]
theorem lenO_in {s:Nat} (h:256<s) (h2:s≤285):(lenO s).1≠0:=by
 unfold lenO;rw [if_pos (by omega)]
 have:=(LB_pos ⟨(s:Int).toNat-257,by omega⟩).1
 simp only at this;show LB ((s:Int).toNat-257)≠0;omega
theorem distO_in {s:Nat} (h2:s≤29):(distO s).1≠0:=by
 unfold distO;rw [if_pos (by omega)]
 have:=(DB_pos ⟨(s:Int).toNat,by omega⟩).1
 simp only at this;show DB (s:Int).toNat≠0;omega
theorem lenO_out {s:Nat} (h:285<s):lenO s=(0,0):=by unfold lenO;rw [if_neg (by omega)]
theorem distO_out {s:Nat} (h:29<s):distO s=(0,0):=by unfold distO;rw [if_neg (by omega)]
theorem nx_sym (N:List Nat) (T:List Bool) (i:Nat):(nxG N T i false 15 0 0).1≤N.length:=by
 have key:∀f k v,(nxG N T i false f k v).1≤N.length:=by
  intro f
  induction f with
  | zero=>intro k v;simp [nxG]
  | succ f ih=>
   intro k v;unfold nxG
   split
   ·split
    ·exact Nat.zero_le _
    ·split
     ·show (Huf.symsOf N N.length (k+1)).getD _ 0≤_;rw [List.getD_eq_getElem?_getD]
      cases hg:(Huf.symsOf N N.length (k+1))[2*v+(Bit.tat T (i+k)).toNat-Huf.fst N (k+1)]? with
      | none=>exact Nat.zero_le _
      | some y=>
       have hm:=List.mem_of_getElem? hg;unfold Huf.symsOf at hm
       split at hm
       ·simp at hm
       ·have:=List.mem_range.1 (List.mem_filter.1 hm).1
        simp;omega
     ·exact ih _ _
   ·exact Nat.zero_le _
 exact key 15 0 0
theorem codes_keep {w w':World} {b c n i:Nat} {v:Value} {T:List Bool} {e:Bool} {N:List Nat} (hc:CodesAt w c n N) (hr:RfAt w b v T i e) (hg:w.grownBy w' (some b)):CodesAt w' c n N:=rowK hc fun k hk=>by
 cases hk
 exact hg.block c hc.lt (fun e=>by
  cases e
  obtain ⟨_,h2⟩:=hc;rcases h2 with ⟨e1,_⟩ | ⟨g',cap,cur,e1,_,h3,_⟩
  ·cases e1
  ·cases e1
   have:=hr.blk
   rw [h3] at this;simp at this)
theorem ints_keep {w w':World} {b la i:Nat} {v:Value} {T:List Bool} {e:Bool} {l:List Nat} (h:IsInts w (some ⟨la,0,none⟩) (ints l)) (hl:0<l.length) (hr:RfAt w b v T i e) (hg:w.grownBy w' (some b)):IsInts w' (some ⟨la,0,none⟩) (ints l):=
 ints_block h hg.size fun g off ea hgl=>hg.block g hgl (fun eb=>by
  cases ea
  cases eb
  obtain ⟨g2,o2,e2,_,hc⟩:=ints_at h rfl hl
  cases e2
  have h1:=hc 0 hl;have h2:=hr.cells.1;rw [h1] at h2;obtain ⟨a,cap,hv,_⟩:=hr.row.shape;rw [hv] at h2;simp at h2)
theorem posOf_rf {w:World} {b i:Nat} {v:Value} {T:List Bool} {e:Bool} (h:RfAt w b v T i e):posOf w b=i:=by
 unfold posOf;rw [h.cells.2.1];simp [intOf]
theorem num_in {o1 o2:Nat} {T:List Bool} {i:Nat} (h:o1≠0):numG (o1,o2) T i=(o1+rV T i false o2,errI (!rOk T i false o2),rI T i false o2,!rOk T i false o2):=by
 unfold numG;rw [if_neg h]
theorem below_of_drewN (w:World) (q:Nat):Below w.heap.size w (w.drewN q):=⟨rfl,rfl,rfl,Nat.le_refl _,fun _ _=>rfl⟩
theorem rv_le (T:List Bool) (i k:Nat) (h:k≤13):rV T i false k≤8192:=by
 unfold rV
 split
 ·have h3:=Bit.num_lt ((T.drop i).take k);have h4:(2:Nat)^((T.drop i).take k).length≤2^13:=Nat.pow_le_pow_right (by decide) (by rw [List.length_take];omega)
  omega
 ·omega
theorem rf_set {w:World} {b P o i:Nat} {v u:Value} {T:List Bool} {e:Bool} (h:RfAt w b v T i e) (hP:P≠b) (hv:v.ownBlock≠some P):RfAt (w.setCell ⟨P,o,none⟩ u) b v T i e:=
 ⟨by rw [heap_setCell_other w ⟨P,o,none⟩ b u (fun e=>hP e.symm)];exact h.blk,h.row.block fun k hk=>heap_setCell_other w ⟨P,o,none⟩ k u (fun e=>hv (by rw [hk,e]))⟩
theorem refRead_any (b:Nat) (v:Value) (T:List Bool) (i:Nat) (a1 a2:Option Addr) (n c1 m c2:Nat) (L M:List Int) (most:Int) (w:World) (h:RfAt w b v T i false) (hi:i≤T.length) (hT:T.length≤8000000)
  (hL:L.length=n) (hM:M.length=m) (iL:IsInts w a1 L) (iM:IsInts w a2 M) (hn:n≤1000000) (hm:m≤1000000) :
  Calls Tryz.prog 56 #[.pointer (some ⟨b,0,none⟩),.slice a1 n c1,.slice a2 m c2,.int .i64 most] w fun r w'=>∃u,
   r=.returned (.tuple #[u,.int .i64 (rdG L M T i most).2.1])∧w'.ownsRow w.heap.size 136 3 u (rdG L M T i most).1.length (cellsT (rdG L M T i most).1) ∧
   w.grownBy w' (some b)∧∃j bad,RfAt w' b v T j bad∧okAt (rdG L M T i most).2.1 (rdG L M T i most).2.2.1 j bad:=by
 have H:=hid h;have IL:=hid iL;have IM:=hid iM;have hbw:=h.lt;have hvw:Hid (∀k,v.ownBlock=some k→k<w.heap.size):=hid fun k hk=>(World.ownsRow.lt h.row k hk).2
 clear h iL iM;obtain ⟨i0,hi0,hz0,hz1,hz2⟩:=info_parts info_tok;have K1:=hid (fun w h=>refCheck_any a1 n c1 L w hL h hn)
 have K2:=hid (fun w h=>refCheck_any a2 m c2 M w hM h hm)
 obtain ⟨⟨rl,re,rj,rb⟩,hres⟩:∃res,rdG L M T i most=res:=⟨_,rfl⟩;rw [hres];have HRES:=hid hres;clear hres;simp only
 by_cases hff:fine L=true∧fine M=true
 ·obtain ⟨hf1,hf2⟩:=hff;have e:=HRES.out;unfold rdG at e;rw [if_pos ⟨hf1,hf2⟩] at e;have HE:=hid e;obtain ⟨p1,f15,u1⟩:=fine_parts hf1;obtain ⟨p2,g15,u2⟩:=fine_parts hf2;have U:=hid (And.intro u1 u2);have N15:=hid (And.intro (nats_le f15) (nats_le g15));have hNl:(nats L).length=n:=by rw [nats_length];exact hL
  have hMl:(nats M).length=m:=by rw [nats_length];exact hM
  have hn320:n≤320:=by omega
  have hm320:m≤320:=by omega
  rw [chk_fine hf1] at K1;rw [chk_fine hf2] at K2;generalize 32768-used (nats L) 15=left1 at *;generalize 32768-used (nats M) 15=left2 at *;have G1:=hid (fun w h=>codes_at a1 n c1 L w hL h hf1)
  have G2:=hid (fun w h=>codes_at a2 m c2 M w hM h hf2)
  clear e HRES hf1 hf2 u1 u2 f15 g15;generalize nats L=N at *;generalize nats M=K at *;have HTL:=hid hT
  go_enter Tryz.func56,Tryz.ntmps56
  go_wp2_with fail
  refine (K1.out _ IL.out).mono ?_;rintro r w2 ⟨rfl,rfl⟩
  go_wp2_with fail
  refine (K2.out _ IM.out).mono ?_;rintro r w2 ⟨rfl,rfl⟩
  go_wp2_with fail
  refine (G1.out _ IL.out).mono ?_;rintro r w2 ⟨x1,rfl,k1,b2⟩;have HB2:=hid b2;have HC1:=hid k1;clear b2 k1 K1 K2 G1
  go_wp2_with fail
  refine (G2.out _ (IM.out.below HB2.out (Nat.le_refl _))).mono ?_;rintro r w3 ⟨x2,rfl,k2,b3⟩;have HB3:=hid (HB2.out.trans (b3.mono HB2.out.size));have HCC3:=hid (And.intro (HC1.out.below b3) k2);clear b3 k2 HC1 HB2 G2 IL IM
  go_wp2_with fail
  refine (refLengths_any _).mono ?_;rintro r w4 ⟨la,lx,rfl,i1,i2,b4⟩;have HB4:=hid (HB3.out.trans (b4.mono HB3.out.size));have HCC4:=hid (And.intro (HCC3.out.1.below b4) (HCC3.out.2.below b4));have IL4:=hid (And.intro i1 i2);clear b4 i1 i2 HB3 HCC3
  go_wp2_with fail
  refine (refDistances_any _).mono ?_;rintro r w5 ⟨da,dx,rfl,i3,i4,b5⟩;have HB5:=hid (HB4.out.trans (b5.mono HB4.out.size));have HCC5:=hid (And.intro (HCC4.out.1.below b5) (HCC4.out.2.below b5));have I5:=hid (And.intro (IL4.out.1.below b5 (Nat.le_refl _)) (And.intro (IL4.out.2.below b5 (Nat.le_refl _)) (And.intro i3 i4)));have HR5:=hid (H.out.below HB5.out);have HBW5:Hid (b<w5.heap.size):=hid (Nat.lt_of_lt_of_le hbw HB5.out.size);have HVW5:Hid (∀k,v.ownBlock=some k→k<w5.heap.size):=hid fun k hk=>Nat.lt_of_lt_of_le (hvw.out k hk) HB5.out.size
  have KEEP:Hid (∀wr,w5.grownBy wr (some b)→(CodesAt wr x1 n N∧CodesAt wr x2 m K)∧(IsInts wr (some ⟨la,0,none⟩) (ints LBt)∧IsInts wr (some ⟨lx,0,none⟩) (ints LXt))∧(IsInts wr (some ⟨da,0,none⟩) (ints DBt)∧IsInts wr (some ⟨dx,0,none⟩) (ints DXt))):=hid fun wr hg=>
   ⟨⟨codes_keep HCC5.out.1 HR5.out hg,codes_keep HCC5.out.2 HR5.out hg⟩,⟨ints_keep I5.out.1 (by decide) HR5.out hg,ints_keep I5.out.2.1 (by decide) HR5.out hg⟩,ints_keep I5.out.2.2.1 (by decide) HR5.out hg,ints_keep I5.out.2.2.2 (by decide) HR5.out hg⟩
  clear b5 i3 i4 HB4 HCC4 IL4 H HCC5 I5;have HNl:=hid hNl;have HMl:=hid hMl
  go_wp2_with fail
  go_loopw [20,21] (fun u md wr=>∃(j made f:Nat) (acc:List Tok),md=.int .i64 made∧readG N K T most f j made acc=(rl,re,rj,rb)∧T.length-j<f∧j≤T.length∧acc.length≤j∧made≤300*j ∧
   RfAt wr b v T j false∧w5.grownBy wr (some b)∧wr.ownsRow w5.heap.size 136 3 u acc.length (cellsT acc)) (fun _ _ wr=>T.length-posOf wr b)
  case atStart=>exact ⟨i,0,T.length+1,[],rfl,HE.out,by omega,hi,Nat.zero_le _,Nat.zero_le _,HR5.out,World.grownBy.refl _ _,World.ownsRow_nil _ _ _ _⟩
  case round=>
   obtain ⟨j,made,f,acc,rfl,hrd,hf,hj,hacc,hmade,hr,hg,ho⟩:=hrel;obtain ⟨f,rfl⟩:∃f',f=f'+1:=⟨f-1,by omega⟩
   obtain ⟨⟨kc1,kc2⟩,⟨kl1,kl2⟩,kd1,kd2⟩:=KEEP.out wr hg;have CX:=hid (refSym_any x1 n b j v N T wr hNl hn320 N15.out.1 U.out.1 kc1 hr hj HTL.out);have x1':=nx_ok N T j 15 0 0 (by omega)
   have x2':=nx_le N T j false 15 0 0 (by omega)
   have x3':=nx_sym N T j;have HPJ:=hid (posOf_rf hr);generalize hgx:nxG N T j false 15 0 0=x at *;obtain ⟨xs,xe,xj,xb⟩:=x;have HGX:=hid hgx;simp only at x1' x2' x3' CX;have HRD:=hid hrd;have HRF:=hid hr;have HG:=hid hg;have HO:=hid ho;have hmade2:made≤2400000000:=by have:=HTL.out;omega
   have hws:w5.heap.size≤wr.heap.size:=hg.size;obtain ⟨al,hal⟩:∃al,acc.length=al:=⟨_,rfl⟩;have HAL:=hid hal;rw [hal] at HO hacc;have hal8:al≤8000000:=by have:=HTL.out;omega
   have hxs330:xs≤320:=by omega
   clear hrd hr hg ho hgx kc1 kc2 kl1 kl2 kd1 kd2 hal x3'
   obtain ⟨va,vc,rfl⟩:∃ad c,u20=.slice ad al c:=by
    rcases HO.out.2 with ⟨h1,h2⟩ | ⟨g,cap,cur,h1,_⟩
    ·exact ⟨none,0,by rw [h1,h2]⟩
    ·exact ⟨_,cap,h1⟩
   go_wp2_with fail
   refine CX.out.mono ?_;rintro r w6 ⟨rfl,j6,bad6,r6,ok6,g6⟩
   have hbne:∀k,(Value.slice va al vc).ownBlock=some k→k≠b:=fun k hk e=>by
    have h1:=HBW5.out;have h2:=(HO.out.lt k hk).1;omega
   have HBNE:=hid hbne;have HG6:=hid (rgrown_trans HG.out g6);have HO6:=hid (rowK HO.out fun k hk=>g6.block k (HO.out.lt k hk).2 (by simp;exact hbne k hk))
   have h56:w5.heap.size≤w6.heap.size:=Nat.le_trans hws g6.size;clear g6 CX HRF HG HO hbne
   by_cases hxe:xe=0
   ·subst hxe;obtain ⟨rfl,hxj⟩:=x1' rfl;obtain ⟨rfl,rfl⟩:=ok6 rfl;have HXJ0:=hid hxj;have HRF6:=hid r6;clear r6 ok6 x1' hxj
    by_cases hend:xs=256
    ·subst hend;have e:=HRD.out;rw [readG_end HGX.out] at e;simp only [Prod.mk.injEq] at e;obtain ⟨rfl,rfl,rfl,rfl⟩:=e
     have hfin:Hid (w6.ownsRow w.heap.size 136 3 (.slice va al vc) acc.length (cellsT acc)∧w.grownBy w6 (some b)):=hid ⟨by
      rw [HAL.out];refine ⟨HO6.out.1,?_⟩;rcases HO6.out.2 with h0 | ⟨g,cap,cur,h1,h2,h3⟩
      ·exact .inl h0
      ·exact .inr ⟨g,cap,cur,h1,Nat.le_trans HB5.out.size h2,h3⟩,rgrown_trans (grown_of HB5.out _) HG6.out⟩
     clear HRD;rw [show ((256:Nat):Int)=256 from rfl]
     go_wp2_with fail
     go_ret2;exact ⟨_,rfl,hfin.out.1,hfin.out.2,_,_,HRF6.out,fun _=>⟨rfl,rfl⟩⟩
    ·have hend3:((xs:Int)==256)=false:=by simp;omega
     by_cases hbigs:285<xs
     ·have dbig:decide ((285:Int)<(xs:Int))=true:=by simp;omega
      have pbig:(285:Int)<xs:=by omega
      have ht:tokG K T j6 xs=(⟨0,0,0⟩,3,j6,false):=tokG_e1 (av:=0) (ab:=false) (by omega) (by unfold numG;rw [lenO_out hbigs];rfl) (by decide)
      have e:=HRD.out;rw [readG_e2 HGX.out hend ht (by decide)] at e
      simp only [Prod.mk.injEq] at e;obtain ⟨rfl,rfl,rfl,rfl⟩:=e;have hfin:=hid (rgrown_trans (grown_of HB5.out _) HG6.out);clear HRD ht
      go_wp2_with fail
      go_ret2;exact ⟨_,rfl,World.ownsRow_nil _ _ _ _,hfin.out,_,_,HRF6.out,fun h=>by simp at h⟩
     ·have dbig:decide ((285:Int)<(xs:Int))=false:=by simp;omega
      have pbig:¬((285:Int)<xs):=by omega
      by_cases hlit:xs<256
      ·have dlit:decide ((256:Int)<(xs:Int))=false:=by simp;omega
       have plit:¬((256:Int)<xs):=by omega
       obtain ⟨tj,htj⟩:∃tj,j6=tj:=⟨_,rfl⟩;have HGT:Hid (tokG K T j6 xs=(⟨xs,0,0⟩,0,tj,false)):=hid (by rw [tokG_byte hlit,htj])
       have HXJ:Hid (j+0+1≤tj∧tj≤T.length):=hid (by rw [←htj];exact HXJ0.out)
       have bX:Below w6.heap.size w6 (w6.alloc (.cells #[.int .i64 xs,.int .i64 0,.int .i64 0] 136)):=(Below.refl _ _).alloc (Nat.le_refl _) _;have hX:=heap_alloc_new w6 (.cells #[.int .i64 xs,.int .i64 0,.int .i64 0] 136);have HRF9:Hid (RfAt (w6.alloc (.cells #[.int .i64 xs,.int .i64 0,.int .i64 0] 136)) b v T tj false):=hid (by rw [←htj];exact HRF6.out.below bX)
       have HO9:=hid (HO6.out.alloc (.cells #[.int .i64 xs,.int .i64 0,.int .i64 0] 136));have HG9:=hid (rgrown_trans HG6.out (grown_of bX (some b)));have hw1:IntKind.i64.wrap ((made:Int)+1)=(made:Int)+1:=IntWalk.i64_in _ (by omega)
       have hsum:made+max (0:Int).toNat 1=made+1:=by simp
       by_cases hbig:most<((made:Int)+1)
       ·have hbig2:decide (most<((made:Int)+1))=true:=by simp;omega
        have e:=HRD.out;rw [readG_e3 HGX.out hend HGT.out (by show most<((made+max (⟨xs,0,0⟩:Tok).L.toNat 1:Nat):Int);rw [show made+max (⟨xs,0,0⟩:Tok).L.toNat 1=(made+1) from hsum];omega)] at e
        simp only [Prod.mk.injEq] at e;obtain ⟨rfl,rfl,rfl,rfl⟩:=e;have hfin:=hid (rgrown_trans (grown_of HB5.out _) HG9.out);clear HRD hsum
        go_wp2_with fail
        go_ret2;exact ⟨_,rfl,World.ownsRow_nil _ _ _ _,hfin.out,_,_,HRF9.out,fun h=>by simp at h⟩
       ·have hbig2:decide (most<((made:Int)+1))=false:=by simp;omega
        have e:=HRD.out;rw [readG_next HGX.out hend HGT.out (by show ¬most<((made+max (⟨xs,0,0⟩:Tok).L.toNat 1:Nat):Int);rw [show made+max (⟨xs,0,0⟩:Tok).L.toNat 1=(made+1) from hsum];omega)] at e
        rw [show made+max (⟨xs,0,0⟩:Tok).L.toNat 1=(made+1) from hsum] at e
        have HN:=hid e;have hmm3:(made+1)≤300*tj:=by have:=HXJ.out;omega
        have hsz:(w6.alloc (.cells #[.int .i64 xs,.int .i64 0,.int .i64 0] 136)).heap.size=w6.heap.size+1:=by simp
        have LIT:=hid (tok_lit (w:=(w6.alloc (.cells #[.int .i64 xs,.int .i64 0,.int .i64 0] 136))) (t:=(⟨xs,0,0⟩:Tok)) (T:=136));rw [hsz] at LIT
        have FIN:Hid (∀v6 w6',w6'.ownsRow 0 136 3 v6 (al+1) (cellsT acc++cellsT [(⟨xs,0,0⟩:Tok)])→((w6.alloc (.cells #[.int .i64 xs,.int .i64 0,.int .i64 0] 136)).alloc (.cells #[.int .i64 (⟨xs,0,0⟩:Tok).B,.int .i64 (⟨xs,0,0⟩:Tok).L,.int .i64 (⟨xs,0,0⟩:Tok).D] 136)).grownBy w6' (Value.slice va al vc).ownBlock→Lz.Near ((w6.alloc (.cells #[.int .i64 xs,.int .i64 0,.int .i64 0] 136)).alloc (.cells #[.int .i64 (⟨xs,0,0⟩:Tok).B,.int .i64 (⟨xs,0,0⟩:Tok).L,.int .i64 (⟨xs,0,0⟩:Tok).D] 136)) (.slice va al vc) v6 →
          RfAt w6' b v T tj false∧w5.grownBy w6' (some b)∧w6'.ownsRow w5.heap.size 136 3 v6 (acc++[(⟨xs,0,0⟩:Tok)]).length (cellsT (acc++[(⟨xs,0,0⟩:Tok)]))):=hid fun v6 w6' o6 g6 n6=>by
         have hown:∀k,(Value.slice va al vc).ownBlock=some k→w5.heap.size≤k:=fun k hk=>(HO9.out.lt k hk).1
         have hb3:Below (w6.alloc (.cells #[.int .i64 xs,.int .i64 0,.int .i64 0] 136)).heap.size (w6.alloc (.cells #[.int .i64 xs,.int .i64 0,.int .i64 0] 136)) ((w6.alloc (.cells #[.int .i64 xs,.int .i64 0,.int .i64 0] 136)).alloc (.cells #[.int .i64 (⟨xs,0,0⟩:Tok).B,.int .i64 (⟨xs,0,0⟩:Tok).L,.int .i64 (⟨xs,0,0⟩:Tok).D] 136)):=(Below.refl _ _).alloc (Nat.le_refl _) _;have hg9:=rgrown_trans HG9.out (grown_of hb3 (some b));have hs9:=hg9.size;refine ⟨rf_row (HRF9.out.below hb3) g6 HBW5.out HVW5.out hown,grown_row hg9 g6 hown,?_⟩;rw [cellsT_append,List.length_append,HAL.out];refine ⟨o6.1,?_⟩;rcases o6.2 with h0 | ⟨g,cap,cur,h1,h2,h3⟩
         ·exact .inl h0
         ·refine .inr ⟨g,cap,cur,h1,?_,h3⟩;rcases n6 g (by rw [h1];rfl) with h | h
          ·exact hown g h
          ·exact Nat.le_trans hs9 h
        clear HRD e hsum
        go_wp2_with (at_builtin;refine Lz.wpList_append_near _ rfl _ _ 97 rfl 136 i0 (.agg #[.int .i64 0,.int .i64 0,.int .i64 0]) 3 24 Tryz.underlying97 hi0 hz0 hz1 hz2 rfl (by decide) (.slice va al vc) al (cellsT acc) rfl (row0 (HO9.out.alloc _)) ⟨w6.heap.size+1,0,none⟩ 1 1 (cellsT [(⟨xs,0,0⟩:Tok)]) rfl rfl LIT.out (cellsT_one _) (by unfold maxLen;omega) (by omega) ?_;intro v6 w6' o6 g6 n6)
        obtain ⟨r6,gg,oo⟩:=FIN.out v6 w6' o6 g6 n6;have hp6:=posOf_rf r6;have hpj:=HPJ.out;refine ⟨⟨tj,(made+1),f,acc++[(⟨xs,0,0⟩:Tok)],by push_cast;rfl,HN.out,by have:=HXJ.out;omega,by have:=HXJ.out;omega,by rw [List.length_append,HAL.out];have:=HXJ.out;simp;omega,hmm3,r6,gg,oo⟩,?_⟩
        rw [hp6,hpj]
        have:=HXJ.out
        omega
      ·have dlit:decide ((256:Int)<(xs:Int))=true:=by simp;omega
       have plit:(256:Int)<xs:=by omega
       have H256:=hid hlit;have bX:Below w6.heap.size w6 (w6.alloc (.cells #[.int .i64 xs,.int .i64 0,.int .i64 0] 136)):=(Below.refl _ _).alloc (Nat.le_refl _) _;have hX:=heap_alloc_new w6 (.cells #[.int .i64 xs,.int .i64 0,.int .i64 0] 136);have hPsz:w6.heap.size<(w6.alloc (.cells #[.int .i64 xs,.int .i64 0,.int .i64 0] 136)).heap.size:=by simp
       have l1:=lenO_small xs;have l2:=lenO_in (s:=xs) (by omega) (by omega)
       have hbP:w6.heap.size≠b:=by have:=HBW5.out;omega
       have hvP:v.ownBlock≠some w6.heap.size:=fun e=>by have:=HVW5.out _ e;omega
       have HRP:Hid (∀k,(Value.slice va al vc).ownBlock=some k→k≠w6.heap.size):=hid fun k hk=>by have:=(HO6.out.lt k hk).2;omega
       have HRF7:=hid (HRF6.out.below bX);have HO7:=hid (HO6.out.alloc (.cells #[.int .i64 xs,.int .i64 0,.int .i64 0] 136));have HG7:=hid (rgrown_trans HG6.out (grown_of bX (some b)));clear bX
       go_wp2_with fail
       generalize (w6.alloc (.cells #[.int .i64 xs,.int .i64 0,.int .i64 0] 136))=w7 at *;clear HRF6 HO6 HG6;generalize w6.heap.size=P at *;have CO:=hid (of_len (some ⟨la,0,none⟩) (some ⟨lx,0,none⟩) xs w7 (KEEP.out w7 HG7.out).2.1.1 (KEEP.out w7 HG7.out).2.1.2 (by omega))
       generalize hlo:lenO (xs:Int)=o at *;obtain ⟨o1,o2⟩:=o;simp only at l1 l2;have HLO:=hid hlo;clear hlo;unfold pairN at CO;simp only at CO;refine CO.out.mono ?_;rintro r w8 ⟨rfl,q8,rfl⟩;have b8:=below_of_drewN w7 q8;have hX8:(w7.drewN q8).heap[P]?=some (.cells #[.int .i64 xs,.int .i64 0,.int .i64 0] 136 (0,0)):=hX;have hPsz8:P<(w7.drewN q8).heap.size:=hPsz;have HRF8:=hid (HRF7.out.below b8);have HO8:=hid (rowK HO7.out fun k hk=>b8.block k (HO7.out.lt k hk).2)
       have HG8:=hid (rgrown_trans HG7.out (grown_of b8 (some b)));generalize w7.drewN q8=w8 at *;clear b8 HRF7 HO7 HG7 CO hX hPsz;have CB:=hid (rfbits_any b v T j6 false o2 w8 HRF8.out (by have:=HXJ0.out;omega) (by have:=HTL.out;omega))
       rw [cnt_nat o2 (by omega)] at CB
       have hnum:=num_in (o1:=o1) (o2:=o2) (T:=T) (i:=j6) l2;have hrv:=rv_le T j6 o2 (by omega)
       have hrile:=Bit.rI_le (bad:=false) (k:=o2) (show j6≤T.length by have:=HXJ0.out;omega)
       have hrige:j6≤rI T j6 false o2:=by unfold rI;split <;> omega
       generalize rV T j6 false o2=va1 at *;generalize rI T j6 false o2=aj at *;generalize rOk T j6 false o2=ok1 at *;have HNUM:=hid hnum;have hw1:IntKind.i64.wrap ((o1:Int)+va1)=((o1+va1:Nat):Int):=by push_cast;exact IntWalk.i64_in _ (by omega)
       obtain ⟨av,hav⟩:∃av,o1+va1=av:=⟨_,rfl⟩;rw [hav] at hw1 HNUM;clear hnum hrv
       go_wp2_with fail
       refine CB.out.mono ?_;rintro r w9 ⟨rfl,r9,g9⟩;have hX9:=(g9.block P hPsz8 (by simp;exact hbP)).trans hX8
       have HO9:=hid (rowK HO8.out fun k hk=>g9.block k (HO8.out.lt k hk).2 (by simp;exact HBNE.out k hk))
       have HG9:=hid (rgrown_trans HG8.out g9);have hPsz9:P<w9.heap.size:=Nat.lt_of_lt_of_le hPsz8 g9.size;have HGE:Hid (w5.heap.size≤P):=hid h56;have f0:w9.frozen? ⟨P,0,none⟩=false:=frozen_of_row w9 P 0 _ _ hX9;have f1:w9.frozen? ⟨P,1,none⟩=false:=frozen_of_row w9 P 1 _ _ hX9;have f2:w9.frozen? ⟨P,2,none⟩=false:=frozen_of_row w9 P 2 _ _ hX9;obtain ⟨c0,c1,c2⟩:=tok_block hX9;have hXs:=store3 hX9 (.int .i64 0) (.int .i64 av) (.int .i64 0);have rs:=rf_set (o:=2) (u:=.int .i64 0) (rf_set (o:=1) (u:=.int .i64 av) (rf_set (o:=0) (u:=.int .i64 0) r9 hbP hvP) hbP hvP) hbP hvP;have gs:=grown_set (grown_set (grown_set HG9.out HGE.out 0 (.int .i64 0)) HGE.out 1 (.int .i64 av)) HGE.out 2 (.int .i64 0)
       have os:(((w9.setCell ⟨P,0,none⟩ (.int .i64 0)).setCell ⟨P,1,none⟩ (.int .i64 av)).setCell ⟨P,2,none⟩ (.int .i64 0)).ownsRow w5.heap.size 136 3 (.slice va al vc) al (cellsT acc):=rowK HO9.out fun k hk=>by
        have hne:=HRP.out k hk;rw [heap_setCell_other _ ⟨P,2,none⟩ k _ (fun e=>hne e),heap_setCell_other _ ⟨P,1,none⟩ k _ (fun e=>hne e),heap_setCell_other _ ⟨P,0,none⟩ k _ (fun e=>hne e)]
       have hPs:P<(((w9.setCell ⟨P,0,none⟩ (.int .i64 0)).setCell ⟨P,1,none⟩ (.int .i64 av)).setCell ⟨P,2,none⟩ (.int .i64 0)).heap.size:=by simpa using hPsz9
       have hE9:=rs.cells.2.2.1;generalize hws9:((w9.setCell ⟨P,0,none⟩ (.int .i64 0)).setCell ⟨P,1,none⟩ (.int .i64 av)).setCell ⟨P,2,none⟩ (.int .i64 0)=wa at *;have HRFa:=hid rs;have HGa:=hid gs;have HOa:=hid os;have HXa:=hid hXs;clear r9 g9 hX9 HO9 HG9 rs gs os hXs CB HO8 HG8 HRF8 hX8 hPsz8
       cases ok1 with
       | false=>
        have hE9':wa.cell? ⟨b,2,none⟩=some (.int .i64 2):=hE9;have ht:tokG K T j6 xs=(⟨0,0,0⟩,2,aj,true):=tokG_e1 H256.out (by rw [HLO.out,HNUM.out];rfl) (by decide)
        have e:=HRD.out;rw [readG_e2 HGX.out hend ht (by decide)] at e
        simp only [Prod.mk.injEq] at e;obtain ⟨rfl,rfl,rfl,rfl⟩:=e;have hfin:=hid (rgrown_trans (grown_of HB5.out _) HGa.out);clear HRD ht hE9
        go_wp2_with fail
        go_quiet (fail)
        have HRFb:=hid (HRFa.out.draws nq);have hfin2:Hid (w.grownBy (wa.drewN nq) (some b)):=hid ⟨hfin.out.os,hfin.out.tape,hfin.out.output,hfin.out.size,hfin.out.block⟩
        go_wp2_with fail
        go_ret2;exact ⟨_,rfl,World.ownsRow_nil _ _ _ _,hfin2.out,_,_,HRFb.out,fun h=>by simp at h⟩
       | true=>
        have hE9':wa.cell? ⟨b,2,none⟩=some (.int .i64 0):=hE9;have HRFa':Hid (RfAt wa b v T aj false):=hid HRFa.out;have HA1:Hid (numG (lenO (xs:Int)) T j6=(av,0,aj,false)):=hid (by rw [HLO.out,HNUM.out];rfl)
        have CX:=hid (refSym_any x2 m b aj v K T wa hMl hm320 N15.out.2 U.out.2 (KEEP.out wa HGa.out).1.2 HRFa'.out hrile HTL.out);have y1:=nx_ok K T aj 15 0 0 (by omega)
        have y2:=nx_le K T aj false 15 0 0 (by omega)
        have y3:=nx_sym K T aj;generalize hgy:nxG K T aj false 15 0 0=y at *;obtain ⟨ys,ye,yj,yb⟩:=y;have HGY:=hid hgy;simp only at y1 y2 y3 CX;have hys320:ys≤320:=by omega
        have HAJ:Hid (j6≤aj∧aj≤T.length):=hid ⟨hrige,hrile⟩;clear hgy y3 hE9 HRFa HNUM hrige hrile
        go_wp2_with fail
        refine CX.out.mono ?_;rintro r wb ⟨rfl,jb,badb,rb1,okb,gb⟩;have hXb:=(gb.block P hPs (by simp;exact hbP)).trans HXa.out
        have HOb:=hid (rowK HOa.out fun k hk=>gb.block k (HOa.out.lt k hk).2 (by simp;exact HBNE.out k hk))
        have HGb:=hid (rgrown_trans HGa.out gb);have hPszb:P<wb.heap.size:=Nat.lt_of_lt_of_le hPs gb.size;clear gb CX HXa HOa HGa HRFa' hPs hE9' c0 c1 c2 f0 f1 f2
        by_cases hye:ye=0
        ·subst hye;obtain ⟨rfl,hyj⟩:=y1 rfl;obtain ⟨rfl,rfl⟩:=okb rfl;have HYJ:=hid hyj;have HRFb:=hid rb1;clear rb1 okb y1 hyj
         by_cases hbd:29<ys
         ·have dbd:decide ((29:Int)<(ys:Int))=true:=by simp;omega
          have pbd:(29:Int)<ys:=by omega
          have ht:tokG K T j6 xs=(⟨0,0,0⟩,3,jb,false):=tokG_e3 (dv:=0) (db:=false) H256.out HA1.out HGY.out (by unfold numG;rw [distO_out hbd];rfl) (by decide)
          have e:=HRD.out;rw [readG_e2 HGX.out hend ht (by decide)] at e
          simp only [Prod.mk.injEq] at e;obtain ⟨rfl,rfl,rfl,rfl⟩:=e;have hfin:=hid (rgrown_trans (grown_of HB5.out _) HGb.out);clear HRD ht
          go_wp2_with fail
          go_ret2;exact ⟨_,rfl,World.ownsRow_nil _ _ _ _,hfin.out,_,_,HRFb.out,fun h=>by simp at h⟩
         ·have dbd:decide ((29:Int)<(ys:Int))=false:=by simp;omega
          have pbd:¬((29:Int)<ys):=by omega
          have m1:=distO_small ys;have m2:=distO_in (s:=ys) (by omega)
          have CO:=hid (of_dist (some ⟨da,0,none⟩) (some ⟨dx,0,none⟩) ys wb (KEEP.out wb HGb.out).2.2.1 (KEEP.out wb HGb.out).2.2.2 (by omega))
          generalize hlo:distO (ys:Int)=o at *;obtain ⟨p1',p2'⟩:=o;simp only at m1 m2;have HDO:=hid hlo;clear hlo;unfold pairN at CO;simp only at CO
          go_wp2_with fail
          refine CO.out.mono ?_;rintro r wc ⟨rfl,qc,rfl⟩;have bc:=below_of_drewN wb qc;have hXc:(wb.drewN qc).heap[P]?=some (.cells #[.int .i64 0,.int .i64 av,.int .i64 0] 136 (0,0)):=hXb;have hPszc:P<(wb.drewN qc).heap.size:=hPszb;have HRFc:=hid (HRFb.out.below bc);have HOc:=hid (rowK HOb.out fun k hk=>bc.block k (HOb.out.lt k hk).2)
          have HGc:=hid (rgrown_trans HGb.out (grown_of bc (some b)));generalize wb.drewN qc=wc at *;clear bc HRFb HOb HGb CO hXb hPszb;have CB:=hid (rfbits_any b v T jb false p2' wc HRFc.out (by have:=HYJ.out;omega) (by have:=HTL.out;omega))
          rw [cnt_nat p2' (by omega)] at CB
          have hnum:=num_in (o1:=p1') (o2:=p2') (T:=T) (i:=jb) m2;have hrv:=rv_le T jb p2' (by omega)
          generalize rV T jb false p2'=vd at *;generalize rI T jb false p2'=dj at *;generalize rOk T jb false p2'=ok2 at *;have HNUM:=hid hnum;have hw2:IntKind.i64.wrap ((p1':Int)+vd)=((p1'+vd:Nat):Int):=by push_cast;exact IntWalk.i64_in _ (by omega)
          obtain ⟨dv,hdv⟩:∃dv,p1'+vd=dv:=⟨_,rfl⟩;rw [hdv] at hw2 HNUM;clear hnum hrv
          go_wp2_with fail
          refine CB.out.mono ?_;rintro r wd ⟨rfl,rd1,gd⟩;have hXd:=(gd.block P hPszc (by simp;exact hbP)).trans hXc
          have HOd:=hid (rowK HOc.out fun k hk=>gd.block k (HOc.out.lt k hk).2 (by simp;exact HBNE.out k hk))
          have HGd:=hid (rgrown_trans HGc.out gd);have f2:wd.frozen? ⟨P,2,none⟩=false:=frozen_of_row wd P 2 _ _ hXd;obtain ⟨c0,c1,c2⟩:=tok_block hXd;have hXe:=heap_setCell_same wd P 2 _ _ (.int .i64 dv) hXd;have re1:=rf_set (o:=2) (u:=.int .i64 dv) rd1 hbP hvP;have ge1:=grown_set HGd.out HGE.out 2 (.int .i64 dv)
          have oe1:(wd.setCell ⟨P,2,none⟩ (.int .i64 dv)).ownsRow w5.heap.size 136 3 (.slice va al vc) al (cellsT acc):=rowK HOd.out fun k hk=>by
           have hne:=HRP.out k hk;rw [heap_setCell_other _ ⟨P,2,none⟩ k _ (fun e=>hne e)]
          have hEe:=re1.cells.2.2.1;generalize hwe:wd.setCell ⟨P,2,none⟩ (.int .i64 dv)=w9 at *;have HO9:=hid oe1;have HG9:=hid ge1;have HRFe:=hid re1;clear rd1 gd hXd HOd HGd re1 ge1 oe1 CB HOc HGc HRFc hXc hPszc
          cases ok2 with
          | false=>
           have hEe':w9.cell? ⟨b,2,none⟩=some (.int .i64 2):=hEe;have ht:tokG K T j6 xs=(⟨0,0,0⟩,2,dj,true):=tokG_e3 H256.out HA1.out HGY.out (by rw [HDO.out,HNUM.out];rfl) (by decide)
           have e:=HRD.out;rw [readG_e2 HGX.out hend ht (by decide)] at e
           simp only [Prod.mk.injEq] at e;obtain ⟨rfl,rfl,rfl,rfl⟩:=e;have hfin:=hid (rgrown_trans (grown_of HB5.out _) HG9.out);clear HRD ht hEe
           go_wp2_with fail
           go_quiet (fail)
           have HRFb:=hid (HRFe.out.draws nq);have hfin2:Hid (w.grownBy (w9.drewN nq) (some b)):=hid ⟨hfin.out.os,hfin.out.tape,hfin.out.output,hfin.out.size,hfin.out.block⟩
           go_wp2_with fail
           go_ret2;exact ⟨_,rfl,World.ownsRow_nil _ _ _ _,hfin2.out,_,_,HRFb.out,fun h=>by simp at h⟩
          | true=>
           have hEe':w9.cell? ⟨b,2,none⟩=some (.int .i64 0):=hEe;obtain ⟨tj,htj⟩:∃tj,dj=tj:=⟨_,rfl⟩;obtain ⟨tt,htt⟩:∃tt:Tok,tt=⟨0,av,dv⟩:=⟨_,rfl⟩;have HRF9:Hid (RfAt w9 b v T tj false):=hid (by rw [←htj];exact HRFe.out)
           have HGT:Hid (tokG K T j6 xs=(tt,0,tj,false)):=hid (by
            rw [tokG_ok H256.out HA1.out HGY.out (dv:=dv) (dj:=dj) (db:=false) (by rw [HDO.out,HNUM.out];rfl),htj,htt])
           have tok:=tok_ok K T j6 xs (by have:=HXJ0.out;omega) (by rw [HGT.out])
           rw [HGT.out] at tok;obtain ⟨_,t3,t4,t5,t6⟩:=tok;simp only at t3 t4 t5 t6;have HXJ:Hid (j+0+1≤tj∧tj≤T.length):=hid ⟨by have:=HXJ0.out;omega,t4⟩
           have hX9:w9.heap[P]?=some (.cells #[.int .i64 tt.B,.int .i64 tt.L,.int .i64 tt.D] 136 (0,0)):=by rw [htt];exact hXe
           obtain ⟨c3,c4,c5⟩:=tok_block hX9;clear hXe hX9 htt hEe HRFe c0 c1;obtain ⟨mx,hmx⟩:∃mx,max tt.L.toNat 1=mx:=⟨_,rfl⟩;have hm1:max tt.L 1=(mx:Int):=by omega
           have hm2:(if tt.L<1 then (1:Int) else tt.L)=(mx:Int):=by split <;> omega
           have hmx300:mx≤300:=by omega
           obtain ⟨mm,hmm⟩:∃mm,made+mx=mm:=⟨_,rfl⟩;have hw1:IntKind.i64.wrap ((made:Int)+mx)=(mm:Int):=by rw [show (made:Int)+mx=(mm:Int) by omega];exact IntWalk.i64_in _ (by omega)
           have hsum:made+max tt.L.toNat 1=mm:=by rw [hmx];exact hmm
           by_cases hbig:most<(mm:Int)
           ·have hbig2:decide (most<(mm:Int))=true:=by simp;omega
            have e:=HRD.out;rw [readG_e3 HGX.out hend HGT.out (by show most<((made+max tt.L.toNat 1:Nat):Int);rw [show made+max tt.L.toNat 1=mm from hsum];omega)] at e
            simp only [Prod.mk.injEq] at e;obtain ⟨rfl,rfl,rfl,rfl⟩:=e;have hfin:=hid (rgrown_trans (grown_of HB5.out _) HG9.out);clear HRD hsum hmx hmm
            go_wp2_with fail
            go_ret2;exact ⟨_,rfl,World.ownsRow_nil _ _ _ _,hfin.out,_,_,HRF9.out,fun h=>by simp at h⟩
           ·have hbig2:decide (most<(mm:Int))=false:=by simp;omega
            have e:=HRD.out;rw [readG_next HGX.out hend HGT.out (by show ¬most<((made+max tt.L.toNat 1:Nat):Int);rw [show made+max tt.L.toNat 1=mm from hsum];omega)] at e
            rw [show made+max tt.L.toNat 1=mm from hsum] at e
            have HN:=hid e;have hmm3:mm≤300*tj:=by have:=HXJ.out;omega
            have LIT:=hid (tok_lit (w:=w9) (t:=tt) (T:=136))
            have FIN:Hid (∀v6 w6',w6'.ownsRow 0 136 3 v6 (al+1) (cellsT acc++cellsT [tt])→(w9.alloc (.cells #[.int .i64 tt.B,.int .i64 tt.L,.int .i64 tt.D] 136)).grownBy w6' (Value.slice va al vc).ownBlock→Lz.Near (w9.alloc (.cells #[.int .i64 tt.B,.int .i64 tt.L,.int .i64 tt.D] 136)) (.slice va al vc) v6 →
              RfAt w6' b v T tj false∧w5.grownBy w6' (some b)∧w6'.ownsRow w5.heap.size 136 3 v6 (acc++[tt]).length (cellsT (acc++[tt]))):=hid fun v6 w6' o6 g6 n6=>by
             have hown:∀k,(Value.slice va al vc).ownBlock=some k→w5.heap.size≤k:=fun k hk=>(HO9.out.lt k hk).1
             have hb3:Below w9.heap.size w9 (w9.alloc (.cells #[.int .i64 tt.B,.int .i64 tt.L,.int .i64 tt.D] 136)):=(Below.refl _ _).alloc (Nat.le_refl _) _;have hg9:=rgrown_trans HG9.out (grown_of hb3 (some b));have hs9:=hg9.size;refine ⟨rf_row (HRF9.out.below hb3) g6 HBW5.out HVW5.out hown,grown_row hg9 g6 hown,?_⟩;rw [cellsT_append,List.length_append,HAL.out];refine ⟨o6.1,?_⟩;rcases o6.2 with h0 | ⟨g,cap,cur,h1,h2,h3⟩
             ·exact .inl h0
             ·refine .inr ⟨g,cap,cur,h1,?_,h3⟩;rcases n6 g (by rw [h1];rfl) with h | h
              ·exact hown g h
              ·exact Nat.le_trans hs9 h
            clear HRD e hsum hmx hmm
            go_wp2_with (at_builtin;refine Lz.wpList_append_near _ rfl _ _ 97 rfl 136 i0 (.agg #[.int .i64 0,.int .i64 0,.int .i64 0]) 3 24 Tryz.underlying97 hi0 hz0 hz1 hz2 rfl (by decide) (.slice va al vc) al (cellsT acc) rfl (row0 (HO9.out.alloc _)) ⟨w9.heap.size,0,none⟩ 1 1 (cellsT [tt]) rfl rfl LIT.out (cellsT_one _) (by unfold maxLen;omega) (by omega) ?_;intro v6 w6' o6 g6 n6)
            obtain ⟨r6,gg,oo⟩:=FIN.out v6 w6' o6 g6 n6;have hp6:=posOf_rf r6;have hpj:=HPJ.out;refine ⟨⟨tj,mm,f,acc++[tt],by push_cast;rfl,HN.out,by have:=HXJ.out;omega,by have:=HXJ.out;omega,by rw [List.length_append,HAL.out];have:=HXJ.out;simp;omega,hmm3,r6,gg,oo⟩,?_⟩
            rw [hp6,hpj]
            have:=HXJ.out
            omega
        ·have hye2:(ye==0)=false:=by simpa using hye
         have e:=HRD.out;rw [readG_e2 HGX.out hend (tokG_e2 H256.out HA1.out HGY.out hye) hye] at e;simp only [Prod.mk.injEq] at e;obtain ⟨rfl,rfl,rfl,rfl⟩:=e;have hfin:=hid (rgrown_trans (grown_of HB5.out _) HGb.out);clear HRD y1
         go_wp2_with fail
         go_ret2;exact ⟨_,rfl,World.ownsRow_nil _ _ _ _,hfin.out,_,_,rb1,fun h=>absurd h hye⟩
   ·have hxe2:(xe==0)=false:=by simpa using hxe
    have e:=HRD.out;rw [readG_e1 HGX.out hxe] at e;simp only [Prod.mk.injEq] at e;obtain ⟨rfl,rfl,rfl,rfl⟩:=e;have hfin:=hid (rgrown_trans (grown_of HB5.out _) HG6.out);clear HRD x1'
    go_wp2_with fail
    go_ret2;exact ⟨_,rfl,World.ownsRow_nil _ _ _ _,hfin.out,_,_,r6,fun h=>absurd h hxe⟩
 ·have e:=HRES.out;unfold rdG at e;rw [if_neg hff] at e;simp only [Prod.mk.injEq] at e;obtain ⟨rfl,rfl,rfl,rfl⟩:=e;have FIN:Hid (∀q,w.grownBy (w.drewN q) (some b)∧∃j bad,RfAt (w.drewN q) b v T j bad∧okAt 50 i j bad):=hid fun q=>⟨⟨rfl,rfl,rfl,Nat.le_refl _,fun _ _ _=>rfl⟩,i,false,H.out.draws q,fun h=>by simp at h⟩
  have FIN0:Hid (w.grownBy w (some b)∧∃j bad,RfAt w b v T j bad∧okAt 50 i j bad):=hid ⟨World.grownBy.refl _ _,i,false,H.out,fun h=>by simp at h⟩
  clear HRES
  cases hf1:fine L with
  | false=>
   rw [chk_not hf1] at K1
   cases hf2:fine M with
   | false=>
    rw [chk_not hf2] at K2
    go_enter Tryz.func56,Tryz.ntmps56
    go_wp2_with fail
    refine (K1.out _ IL.out).mono ?_;rintro r w2 ⟨rfl,rfl⟩
    go_wp2_with fail
    refine (K2.out _ IM.out).mono ?_;rintro r w2 ⟨rfl,rfl⟩
    go_wp2_with fail
    go_ret2;exact ⟨_,rfl,World.ownsRow_nil _ _ _ _,FIN0.out⟩
   | true=>
    rw [chk_fine hf2] at K2;generalize 32768-used (nats M) 15=left2 at *
    go_enter Tryz.func56,Tryz.ntmps56
    go_wp2_with fail
    refine (K1.out _ IL.out).mono ?_;rintro r w2 ⟨rfl,rfl⟩
    go_wp2_with fail
    refine (K2.out _ IM.out).mono ?_;rintro r w2 ⟨rfl,rfl⟩
    go_wp2_with fail
    go_ret2;exact ⟨_,rfl,World.ownsRow_nil _ _ _ _,FIN0.out⟩
  | true=>
   rw [chk_fine hf1] at K1;generalize 32768-used (nats L) 15=left1 at *
   have hf2:fine M=false:=by
    cases h:fine M with
    | false=>rfl
    | true=>exact absurd ⟨hf1,h⟩ hff
   rw [chk_not hf2] at K2;clear hff
   go_enter Tryz.func56,Tryz.ntmps56
   go_wp2_with fail
   refine (K1.out _ IL.out).mono ?_;rintro r w2 ⟨rfl,rfl⟩
   go_wp2_with fail
   refine (K2.out _ IM.out).mono ?_;rintro r w2 ⟨rfl,rfl⟩
   go_wp2_with fail
   go_ret2;exact ⟨_,rfl,World.ownsRow_nil _ _ _ _,FIN0.out⟩
end Go.Proofs.YthbjllabgpaaaaaGreat.Sym
namespace Go.Proofs.YthbjllabgpaaaaaGreat.Sym
open Go.Lib (hid)
set_option maxHeartbeats 16000000
end Go.Proofs.YthbjllabgpaaaaaGreat.Sym
namespace Go.Proofs.YthbjllabgpaaaaaGreat.Sym
open Go.Lib (hid)
set_option maxHeartbeats 16000000
end Go.Proofs.YthbjllabgpaaaaaGreat.Sym
namespace Go.Proofs.YthbjllabgpaaaaaGreat.Sym
open Go.Lib (hid)
set_option maxHeartbeats 16000000
open Go.Proofs.YthbjllabgpaaaaaGreat.Huf (nxG nx_code bigN_code nextB codeV codeV_lt used top fst symsOf fine nats nats_le fine_parts bigN)
open Go.Proofs.YthbjllabgpaaaaaGreat.Bit (rV rI rOk errI num num_bitsOf bitsOf bitsOf_length cnt cnt_nat codeBits codeBits_length)
open Go.Proofs.YthbjllabgpaaaaaGreat.Lz (Tok okT okT_byte okT_piece)
set_option linter.unusedVariables false
set_option maxRecDepth 100000
def Has (T:List Bool) (p:Nat) (l:List Bool):Prop:=p+l.length≤T.length∧(T.drop p).take l.length=l
theorem Has.left {T a b:List Bool} {p:Nat} (h:Has T p (a++b)):Has T p a:=by
 obtain ⟨h1,h2⟩:=h;rw [List.length_append] at h1 h2;refine ⟨by omega,?_⟩
 have:=congrArg (List.take a.length) h2
 rw [List.take_take,Nat.min_eq_left (by omega),List.take_left] at this
 exact this
theorem Has.right {T a b:List Bool} {p:Nat} (h:Has T p (a++b)):Has T (p+a.length) b:=by
 obtain ⟨h1,h2⟩:=h;rw [List.length_append] at h1 h2;refine ⟨by omega,?_⟩
 have:=congrArg (List.drop a.length) h2
 rw [List.drop_take,List.drop_drop,List.drop_left,Nat.add_sub_cancel_left] at this;exact this
theorem Has.whole (a z:List Bool):Has (a++z) 0 a:=⟨by rw [List.length_append];omega,by rw [List.drop_zero,List.take_left]⟩
theorem nx_at {N:List Nat} {T:List Bool} {p s:Nat} (h15:∀x∈N,x≤15) (hU:used N 15≤32768) (h0:N.getD s 0≠0) (h:Has T p (cd N s)):nxG N T p false 15 0 0=(s,0,p+(cd N s).length,false)∧1≤(cd N s).length:=by
 have hs:s<N.length:=by
  rcases Nat.lt_or_ge s N.length with h1 | h1
  ·exact h1
  ·exact absurd (by rw [List.getD_eq_getElem?_getD,List.getElem?_eq_none h1];rfl) h0
 have g:N.getD s 0=N[s]:=by rw [List.getD_eq_getElem?_getD,List.getElem?_eq_getElem hs];rfl
 have hl15:N[s]≤15:=h15 _ (List.getElem_mem hs);have h1:1≤N[s]:=by rw [g] at h0;omega
 have hlt:=codeV_lt N s N[s] hs rfl h1 hl15 hU;obtain ⟨e1,e2⟩:=bigN_code (codeV N s) N[s] hl15 hlt;have hcd:cd N s=codeBits (codeV N s:Nat) (N[s]:Nat):=by unfold cd;rw [g]
 rw [←hcd] at e1 e2;obtain ⟨k1,k2⟩:=h;rw [e2] at k1 k2 ⊢;exact ⟨nx_code N T p s N[s] h15 hs rfl h1 k1 (by unfold nextB;rw [k2];exact e1),h1⟩
theorem num_at {o1 k e p:Nat} {T:List Bool} (ho:o1≠0) (he:e<2^k) (h:Has T p (bitsOf k (e:Int))):numG (o1,k) T p=(o1+e,0,p+k,false):=by
 obtain ⟨k1,k2⟩:=h;rw [bitsOf_length] at k1 k2;have h1:rOk T p false k=true:=by unfold rOk;simp;omega
 have h2:num (bitsOf k (e:Int))=e:=by
  have:=num_bitsOf k (e:Int)
  have h3:((e:Int))%2^k=(e:Int):=Int.emod_eq_of_lt (by omega) (by exact_mod_cast he)
  rw [h3] at this
  exact_mod_cast this
 unfold numG;rw [if_neg ho];have h3:rV T p false k=e:=by unfold rV;rw [if_pos h1,k2,h2]
 have h4:rI T p false k=p+k:=by unfold rI;rw [if_pos h1]
 simp only [h1,h3,h4]
 rfl
theorem tok_at {N M:List Nat} {T:List Bool} {p:Nat} {t:Tok} (n15:∀x∈N,x≤15) (nU:used N 15≤32768) (m15:∀x∈M,x≤15) (mU:used M 15≤32768) (hv:okT t=true)
  (hN:N.getD (litN t) 0≠0) (hM:t.L≠0→M.getD (di t.D.toNat) 0≠0) (h:Has T p (tokW N M t)) :
  ∃q,nxG N T p false 15 0 0=(litN t,0,q,false)∧litN t≠256∧tokG M T q (litN t)=(t,0,p+(tokW N M t).length,false)∧1≤(tokW N M t).length:=by
 by_cases h0:t.L=0
 ·obtain ⟨hD,hB0,hB1⟩:=okT_byte hv h0;have hl:litN t=t.B.toNat:=by unfold litN;rw [if_pos h0]
  have hw:tokW N M t=cd N t.B.toNat:=by unfold tokW;rw [if_pos h0]
  rw [hl] at hN ⊢;rw [hw] at h ⊢;obtain ⟨e1,e2⟩:=nx_at n15 nU hN h;refine ⟨_,e1,by omega,?_,e2⟩
  rw [tokG_byte (by omega)]
  have:t=⟨(t.B.toNat:Nat),0,0⟩:=by
   obtain ⟨b,l,d⟩:=t;simp only at h0 hD hB0 ⊢;subst h0;subst hD
   congr 1;omega
  rw [←this]
 ·obtain ⟨hB,hL1,hL2,hD1,hD2⟩:=okT_piece hv h0;have hl:litN t=257+li t.L.toNat:=by unfold litN;rw [if_neg h0]
  have hw:tokW N M t=(cd N (257+li t.L.toNat)++bitsOf (LX (li t.L.toNat)) (t.L.toNat-LB (li t.L.toNat):Nat))++(cd M (di t.D.toNat)++bitsOf (DX (di t.D.toNat)) (t.D.toNat-DB (di t.D.toNat):Nat)):=by unfold tokW;rw [if_neg h0]
  obtain ⟨p1,p2,p3⟩:=li_spec t.L.toNat (by omega) (by omega)
  obtain ⟨q1,q2,q3⟩:=di_spec t.D.toNat (by omega) (by omega)
  have hM':=hM h0
  have oL:lenO ((257+li t.L.toNat:Nat):Int)=(LB (li t.L.toNat),LX (li t.L.toNat)):=by
   unfold lenO;rw [if_pos (by omega),show ((257+li t.L.toNat:Nat):Int).toNat-257=li t.L.toNat by omega]
  have oD:distO ((di t.D.toNat:Nat):Int)=(DB (di t.D.toNat),DX (di t.D.toNat)):=by
   unfold distO;rw [if_pos (by omega),Int.toNat_natCast]
  have bL:=(LB_pos ⟨li t.L.toNat,p1⟩).1;have bD:=(DB_pos ⟨di t.D.toNat,q1⟩).1;simp only at bL bD;rw [hl] at hN ⊢;rw [hw] at h ⊢;have h1:=h.left;have h2:=h.right;obtain ⟨e1,e2⟩:=nx_at n15 nU hN h1.left;have e3:=num_at (o1:=LB (li t.L.toNat)) (by omega) (by omega) h1.right
  obtain ⟨e4,e5⟩:=nx_at m15 mU hM' h2.left;have e6:=num_at (o1:=DB (di t.D.toNat)) (by omega) (by omega) h2.right
  have ht:t=⟨0,((LB (li t.L.toNat)+(t.L.toNat-LB (li t.L.toNat)):Nat):Int),((DB (di t.D.toNat)+(t.D.toNat-DB (di t.D.toNat)):Nat):Int)⟩:=by
   have a1:((LB (li t.L.toNat)+(t.L.toNat-LB (li t.L.toNat)):Nat):Int)=t.L:=by omega
   have a2:((DB (di t.D.toNat)+(t.D.toNat-DB (di t.D.toNat)):Nat):Int)=t.D:=by omega
   rw [a1,a2];obtain ⟨b,l,d⟩:=t;simp only at hB ⊢;rw [hB]
  refine ⟨_,e1,by omega,?_,by rw [List.length_append,List.length_append];omega⟩
  rw [List.length_append,bitsOf_length,←Nat.add_assoc] at e4 e6;have e7:=tokG_ok (M:=M) (T:=T) (i:=p+(cd N (257+li t.L.toNat)).length) (s:=257+li t.L.toNat) (by omega) (by rw [oL];exact e3) e4 (by rw [oD];exact e6)
  rw [e7,←ht]
  congr 2
  rw [List.length_append,List.length_append,List.length_append,bitsOf_length,bitsOf_length]
  congr 1
  omega
theorem toks_long {N M:List Nat} (l:List Tok) (h:∀t∈l,1≤(tokW N M t).length):l.length≤(toksW N M l).length:=by
 induction l with
 | nil=>simp [toksW]
 | cons t l ih=>
  have ew:toksW N M (t::l)=tokW N M t++toksW N M l:=by simp [toksW]
  rw [ew,List.length_append,List.length_cons];have h1:=h t (List.mem_cons_self);have h2:=ih fun u hu=>h u (List.mem_cons_of_mem _ hu)
  omega
end Go.Proofs.YthbjllabgpaaaaaGreat.Sym
