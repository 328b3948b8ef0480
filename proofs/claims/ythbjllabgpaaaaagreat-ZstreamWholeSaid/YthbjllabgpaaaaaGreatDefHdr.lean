/-
  Contract of the reference's Header of layer 8, where a header stands.
-/
import Derived.Test.YthbjllabgpaaaaaGreatAllDef
import Derived.Test.YthbjllabgpaaaaaGreatAllHuf
import Derived.Deep.DeepCutAuto
namespace Go.Proofs.YthbjllabgpaaaaaGreat.Def
open Go.Lib (hid)
set_option maxHeartbeats 16000000
open Go.ChangeShapes Go.WideShapes Go.ChangeAt Go.RowKit
open Go.Proofs.YthbjllabgpaaaaaGreat.Huf (IsInts cellsN cellsN_length cellsN_append chk refCheck_any refCodes_any used fine nats codeV info_int info_parts)
open Go.Proofs.YthbjllabgpaaaaaGreat.Bit (BlAt From Near RfAt rV rI rOk bitsOf bitsOf_length lenOf rgrown_trans rgrown_set rgrown_drewN row_ne cnt cnt_nat wpList_append_near)
open Go.Proofs.YthbjllabgpaaaaaGreat.Sym
set_option linter.unusedVariables false
set_option maxRecDepth 100000
theorem codes_far (a:Option Addr) (n cap:Nat) (O:List Nat) (w:World) (hn:O.length=n) (h:IsInts w a (ints O)) (hl:n≤320) (h15:∀x∈O,x≤15) :
  Calls Tryz.prog 84 #[.slice a n cap] w fun e w'=>∃c,e=.returned (.slice (some ⟨c,0,none⟩) n n)∧CodesAt w' c n O∧Below w.heap.size w w'∧(0<n→w.heap.size≤c):=by
 refine (refCodes_any a n cap O w hn h hl h15).mono ?_;rintro r w' ⟨c,rfl,hb,ho⟩;refine ⟨c,rfl,⟨ho.1,?_⟩,hb,fun h0=>?_⟩
 ·rcases ho.2 with h0 | ⟨g,cap,cur,h1,_,h3⟩
  ·exact .inl h0
  ·exact .inr ⟨g,cap,cur,h1,Nat.zero_le _,h3⟩
 ·rcases ho.2 with ⟨e,_⟩ | ⟨g,cap,cur,h1,h2,h3⟩
  ·cases e
  ·cases h1;exact h2
theorem refHeader_any (b p n m k:Nat) (v:Value) (T:List Bool) (L M O:List Nat) (Y:List (Nat×Nat)) (w:World) (hL:L.length=n) (hM:M.length=m) (H:IsHdr L M k O Y) (hr:RfAt w b v T p false) (hT:T.length≤8000000) (hh:Has T p (hdrB L M k O Y)) :
  Calls Tryz.prog 55 #[.pointer (some ⟨b,0,none⟩)] w fun r w'=>∃g c c',r=.returned (.tuple #[.slice (some ⟨g,0,none⟩) n c,.slice (some ⟨g,n,none⟩) m c',.int .i64 0]) ∧
   IsInts w' (some ⟨g,0,none⟩) (ints L)∧IsInts w' (some ⟨g,n,none⟩) (ints M)∧RfAt w' b v T (p+(hdrB L M k O Y).length) false∧w.grownBy w' (some b):=by
 obtain ⟨t0,hi0,hz0,hz1,hz2⟩:=info_parts info_int;obtain ⟨⟨l1,l2⟩,⟨d1,d2⟩,⟨k1,k2⟩,ho,ho7,hrest,hroom,hrows⟩:=H;rw [hdrB_length];unfold hdrB at hh;rw [hL,hM] at hh;rw [hL] at l1 l2;rw [hM] at d1 d2;obtain ⟨A1,e1⟩:∃A,n-257=A:=⟨_,rfl⟩;obtain ⟨A2,e2⟩:∃A,m-1=A:=⟨_,rfl⟩;obtain ⟨A3,e3⟩:∃A,k-4=A:=⟨_,rfl⟩;rw [e1,e2,e3] at hh;have HA:=hid hh.left;have h2:=hh.right;rw [bitsOf_length] at h2;have HB:=hid h2.left;have h3:=h2.right;rw [bitsOf_length] at h3;have HC:=hid h3.left;have h4:=h3.right;rw [bitsOf_length] at h4;have HD:=hid h4.left;have h5:=h4.right;rw [ordB_length] at h5;have HE:Hid (Has T (p+14+3*k) (Y.flatMap (yB O))):=hid (by rw [show p+14+3*k=p+5+5+4+3*k by omega];exact h5)
 obtain ⟨pe,hpe⟩:∃pe,p+(14+3*k+(Y.flatMap (yB O)).length)=pe:=⟨_,rfl⟩;rw [hpe];have HPE:=hid hpe;clear hpe;have E:=hid (And.intro e1 (And.intro e2 e3));have HLM:=hid (And.intro hL hM);have HO:=hid (And.intro ho (And.intro ho7 (And.intro hrest (And.intro hroom hrows))));have HT:=hid hT;have C1:=hid (bits_here (k:=5) (by omega) hr hT HA.out (by show A1<32;omega))
 have HW:=hid (And.intro hr.lt (fun k hk=>(World.ownsRow.lt hr.row k hk).2:∀k,v.ownBlock=some k→k<w.heap.size))
 have s1:(A1:Int)+257=(n:Int):=by omega
 have s2:(A2:Int)+1=(m:Int):=by omega
 have s3:(A3:Int)+4=(k:Int):=by omega
 have R:=hid (And.intro (And.intro l1 l2) (And.intro (And.intro d1 d2) (And.intro k1 k2)));have t1:¬((286:Int)<(n:Int)):=by omega
 have t2:¬((30:Int)<(m:Int)):=by omega
 have t3:decide ((286:Int)<(n:Int))=false:=by simp;omega
 have t4:decide ((30:Int)<(m:Int))=false:=by simp;omega
 have i1:(A1:Int)<32:=by omega
 have i2:(A2:Int)<32:=by omega
 have i3:(A3:Int)<16:=by omega
 clear hr hh h2 h3 h4 h5 e1 e2 e3 hL hM ho ho7 hrest hroom hrows hT l1 l2 d1 d2
 go_enter Tryz.func55,Tryz.ntmps55
 go_wp2_with fail
 refine C1.out.mono ?_;rintro r w1 ⟨rfl,r1,g1⟩;have C2:=hid (bits_here (k:=5) (by omega) r1 HT.out HB.out (by show A2<32;omega))
 have G1:=hid g1;clear r1 g1 C1
 go_wp2_with fail
 refine C2.out.mono ?_;rintro r w2 ⟨rfl,r2,g2⟩;have C3:=hid (bits_here (k:=4) (by omega) r2 HT.out HC.out (by show A3<16;omega))
 have G2:=hid (rgrown_trans G1.out g2);clear r2 g2 C2 G1
 go_wp2_with fail
 refine C3.out.mono ?_;rintro r w3 ⟨rfl,r3,g3⟩;have HR3:=hid r3;have G3:=hid (rgrown_trans G2.out g3);have z3:w3.cell? ⟨b,2,none⟩=some (.int .i64 0):=r3.cells.2.2.1;clear r3 g3 C3 G2;have hmk:(Instr.makeSlice 92 (.int .i64 19) (.int .i64 19)).run Tryz.prog w3=.ok (.slice (some ⟨w3.heap.size,0,none⟩) 19 19) (w3.alloc (.cells (rowN 19 fun _=>0) 3)):=make_ints 19 (by omega) w3
 have b4:Below w3.heap.size w3 (w3.alloc (.cells (rowN 19 fun _=>0) 3)):=(Below.refl _ _).alloc (Nat.le_refl _) _
 have A4:Hid (AtN (w3.alloc (.cells (rowN 19 fun _=>0) 3)) w3.heap.size 19 fun _=>0):=hid (heap_alloc_new _ _)
 have HR4:=hid (HR3.out.below b4);have G4:Hid (w.grownBy (w3.alloc (.cells (rowN 19 fun _=>0) 3)) (some b)):=hid (rgrown_trans G3.out (below_grown b4))
 have S3:=hid G3.out.size;clear b4 HR3 HA HB HC
 go_wp2_with fail
 generalize w3.alloc (.cells (rowN 19 fun _=>0) 3)=w4 at *
 generalize w3.heap.size=g at *;clear G3 z3;refine (refOrder_any w4).mono ?_;rintro r w5 ⟨a,rfl,a5,b5,ha⟩;have A5:=hid (A4.out.below b5);have HR5:=hid (HR4.out.below b5);have G5:Hid (w.grownBy w5 (some b)):=hid (rgrown_trans G4.out (below_grown b5));have HO5:=hid a5;have HGA:=hid (And.intro (show g<a from Nat.lt_of_lt_of_le A4.out.lt ha) S3.out)
 clear a5 b5 ha A4 HR4 G4 S3 hmk s1 s2 s3 t1 t2 t3 t4 i1 i2 i3
 go_wp2_with fail
 go_loopw [10] (fun i wr=>∃j:Nat,j≤k∧i=.int .i64 j∧AtN wr g 19 (ownF O j)∧AtN wr a 19 ordF∧RfAt wr b v T (p+14+3*j) false∧w.grownBy wr (some b)) (fun i _=>k-(intOf i).toNat)
 case atStart=>exact ⟨0,by omega,rfl,A5.out.congr fun j _=>(ownF_zero O j).symm,HO5.out,HR5.out,G5.out⟩
 case round=>
  obtain ⟨j,hj,rfl,a1,a2,r1,g1⟩:=hrel;have A1':=hid a1;have A2':=hid a2;have R1:=hid r1;have G1:=hid g1;clear a1 a2 r1 g1 A5 HO5 HR5 G5
  by_cases hlt:j<k
  ·have hx:=ordF_lt j;have hjk:(j:Int)<(k:Int):=by omega
   obtain ⟨X,hX⟩:∃X,ordF j=X:=⟨_,rfl⟩;obtain ⟨Z,hZ⟩:∃Z,O.getD (ordF j) 0=Z:=⟨_,rfl⟩
   have hz:Z≤7:=by
    rw [←hZ,List.getD_eq_getElem?_getD];rcases Nat.lt_or_ge (ordF j) O.length with h | h
    ·rw [List.getElem?_eq_getElem h];exact HO.out.2.1 _ (List.getElem_mem h)
    ·rw [List.getElem?_eq_none h];simp
   have hb:=ordB_at hlt HD.out;rw [hZ,show p+5+5+4+3*j=p+14+3*j by omega] at hb
   have C1:=hid (bits_here (k:=3) (by omega) R1.out.drew HT.out hb (by show Z<8;omega))
   rw [hX] at hx;have x1:(0:Int)≤(X:Int):=by omega
   have x2:(X:Int)<19:=by omega
   have y1:(0:Int)≤(j:Int):=by omega
   have y2:(j:Int)<19:=by omega
   have ld:wr.cell? ⟨a,j,none⟩=some (.int .i64 (X:Nat)):=by rw [←hX];exact A2'.out.cell j (by omega)
   have y3:IntKind.i64.wrap ((j:Int)+1)=((j+1:Nat):Int):=by rw [show (j:Int)+1=((j+1:Nat):Int) by omega];exact IntWalk.i64_in _ (by omega)
   have F1:Hid (∀w',wr.drew.grownBy w' (some b)→w'.cell? ⟨a,j,none⟩=some (.int .i64 (X:Nat))∧w'.frozen? ⟨g,X,none⟩=false∧w'.cell? ⟨g,X,none⟩=some (.int .i64 (ownF O j X:Nat))):=hid fun w' h=>by
    have hbg:b<g:=Nat.lt_of_lt_of_le HW.out.1 HGA.out.2;have e1:=atn_call (w:=wr.drew) A2'.out h (by have:=HGA.out.1;omega)
    have e2:=atn_call (w:=wr.drew) A1'.out h (by omega)
    exact ⟨by rw [←hX];exact e1.cell j (by omega),e2.frozen X,e2.cell X hx⟩
   have F2:Hid (∀w',wr.drew.grownBy w' (some b)→RfAt w' b v T (p+14+3*j+3) false→AtN (w'.setCell ⟨g,X,none⟩ (.int .i64 (Z:Nat))) g 19 (ownF O (j+1))∧AtN (w'.setCell ⟨g,X,none⟩ (.int .i64 (Z:Nat))) a 19 ordF ∧
     RfAt (w'.setCell ⟨g,X,none⟩ (.int .i64 (Z:Nat))) b v T (p+14+3*(j+1)) false∧w.grownBy (w'.setCell ⟨g,X,none⟩ (.int .i64 (Z:Nat))) (some b)):=hid fun w' h r=>by
    have hbg:b<g:=Nat.lt_of_lt_of_le HW.out.1 HGA.out.2;have e1:=atn_call (w:=wr.drew) A2'.out h (by have:=HGA.out.1;omega)
    have e2:=atn_call (w:=wr.drew) A1'.out h (by omega)
    refine ⟨(e2.set X Z).congr fun s hs=>?_,e1.other (by have:=HGA.out.1;omega),?_,set_grown (rgrown_trans G1.out ⟨h.os,h.tape,h.output,h.size,h.block⟩) HGA.out.2⟩
    ·have e:=ownF_succ O (show j<19 by omega) s
     rw [hZ,hX] at e;exact e
    ·have:=rf_other (g:=g) (j:=X) (x:=.int .i64 (Z:Nat)) r (by omega) (fun e=>by have:=HW.out.2 g e;have:=HGA.out.2;omega)
     rw [show p+14+3*(j+1)=p+14+3*j+3 by omega]
     exact this
   have HJ:=hid (show j+1≤k∧k-(j+1)<k-j by omega)
   clear hX hZ hb hz hx hlt hj
   go_wp2_with fail
   go_region_with (go_at_call 52;refine C1.out.mono ?_;rintro r w' ⟨rfl,r2,g2⟩;obtain ⟨hk2,hfz,hcc⟩:=F1.out _ g2;have HH:=hid (F2.out _ g2 r2);clear r2 g2)
   all_goals (
    go_wp2_with fail
    refine ⟨⟨j+1,HJ.out.1,by go_num,HH.out⟩,?_⟩
    have:=HJ.out.2
    simp [intOf];omega)
  ·obtain rfl:j=k:=by omega
   have hlt':¬((j:Int)<(j:Int)):=by omega
   have ZO:AtN wr g 19 (fun s=>O.getD s 0):=A1'.out.congr fun s hs=>ownF_all k2 HO.out.2.2.1 s hs
   have IO:Hid (IsInts wr (some ⟨g,0,none⟩) (ints O)):=hid (by have:=ZO.isInts;rwa [own_list HO.out.1] at this)
   have zE:wr.cell? ⟨b,2,none⟩=some (.int .i64 0):=R1.out.cells.2.2.1;have HF:=fine_ints (l:=O) (by rw [HO.out.1];omega) (fun x hx=>by have:=HO.out.2.1 x hx;omega) HO.out.2.2.2.1
   obtain ⟨X,hck⟩:∃X:Int,chk (ints O)=.tuple #[.int .i64 X,.int .i64 0]:=by unfold chk;rw [if_pos HF];exact ⟨_,rfl⟩
   have HCK:=hid hck;clear ZO HF hck hlt A1' A2'
   go_wp2_with fail
   refine (refCheck_any (some ⟨g,0,none⟩) 19 19 (ints O) wr (by rw [ints_length,HO.out.1]) IO.out (by omega)).mono ?_
   rintro r w' ⟨rfl,rfl⟩;rw [HCK.out]
   go_wp2_with fail
   refine (codes_far (some ⟨g,0,none⟩) 19 19 O wr HO.out.1 IO.out (by omega) (fun x hx=>by have:=HO.out.2.1 x hx;omega)).mono ?_
   rintro r w6 ⟨c,rfl,c6,b6,hc⟩;have HS:Hid (St w b c v T O w6 (p+14+3*j) (.slice none 0 0) []):=hid ⟨World.ownsRow_nil _ _ _ _,From.nil _,c6,⟨Nat.le_trans G1.out.size (hc (by omega)),HW.out⟩,R1.out.below b6,rgrown_trans G1.out (below_grown b6)⟩
   obtain ⟨q,hq⟩:∃q,n+m=q:=⟨_,rfl⟩;have hq1:(n:Int)+(m:Int)=(q:Int):=by omega
   have hq2:q≤316:=by have:=R.out;omega
   have HQ:Hid ((L++M).length=q):=hid (by rw [List.length_append,HLM.out.1,HLM.out.2];exact hq)
   have HPE2:Hid (p+14+3*j+(Y.flatMap (yB O)).length=pe):=hid (by rw [←HPE.out];omega)
   have HRW:=hid HO.out.2.2.2.2;have HO1:=hid HO.out.1;have HO7:=hid HO.out.2.1;have HU:=hid HO.out.2.2.2.1;clear hq c6 b6 hc IO HCK zE R1 G1 HGA HD HPE E HO k1 k2 hj hlt';generalize p+14+3*j=p0 at *
   go_wp2_with fail
   go_loopw [14] (fun u wr=>∃(l:List Nat) (Z:List (Nat×Nat)) (i:Nat),St w b c v T O wr i u l∧Rows O l Z (L++M)∧Has T i (Z.flatMap (yB O))∧i+(Z.flatMap (yB O)).length=pe∧lenOf u=l.length) (fun u _=>q-lenOf u)
   case atStart=>exact ⟨[],Y,p0,HS.out,HRW.out,HE.out,HPE2.out,rfl⟩
   case round=>
    obtain ⟨l,Z,i,hs,hrw,hhas,hpe,hlen⟩:=hrel;obtain ⟨ua,uc,rfl⟩:=hs.form;clear HS HRW HE HPE2;obtain ⟨t,ht⟩:∃t,l.length=t:=⟨_,rfl⟩;have HLL:=hid ht;rw [ht] at hs ⊢;rw [ht] at hlen;have HS:=hid hs
    by_cases hlt:t<q
    ·obtain ⟨s,x,Z',rfl,⟨hs19,hx,h16⟩,h0,hrw',htm⟩:=hrw.cons (by rw [ht,HQ.out];exact hlt)
     have hw1:(yB O (s,x)).length=(cd O s).length+xb s:=by unfold yB;rw [List.length_append,bitsOf_length]
     have efm:((s,x)::Z').flatMap (yB O)=(cd O s++bitsOf (xb s) (x:Int))++Z'.flatMap (yB O):=rfl;rw [efm] at hhas hpe;have hn:=nx_at (fun y hy=>by have:=HO7.out y hy;omega:∀y∈O,y≤15) HU.out h0 hhas.left.left
     obtain ⟨i1,hi1⟩:∃i1,i+(cd O s).length=i1:=⟨_,rfl⟩;rw [hi1] at hn;have CS:=hid (refSymbol_any c 19 b i v O T wr HO1.out (by omega) (fun y hy=>by have:=HO7.out y hy;omega) HU.out HS.out.codes HS.out.rd (by have:=hhas.1;omega) HT.out s i1 hn.1)
     have HX:Hid (Has T i1 (bitsOf (xb s) (x:Int))):=hid (by have:=hhas.left.right;rw [hi1] at this;exact this)
     have HZ:Hid (Has T (i1+xb s) (Z'.flatMap (yB O))):=hid (by have:=hhas.right;rw [List.length_append,bitsOf_length,←Nat.add_assoc,hi1] at this;exact this)
     have HP:Hid (i1+xb s+(Z'.flatMap (yB O)).length=pe):=hid (by rw [←hpe,List.length_append,List.length_append,bitsOf_length];omega)
     have HRW:=hid hrw';have H16:=hid (And.intro hx (And.intro h16 hs19));have HTM:Hid (t+times s x≤q):=hid (by have:=htm;rw [HQ.out] at this;omega)
     clear hrw hhas hpe hrw' htm hn hi1 efm hw1 h0 hx h16;have hlt':(t:Int)<(q:Int):=by omega
     go_wp2_with fail
     refine CS.out.mono ?_;rintro r w7 ⟨rfl,r7,g7⟩;have HS7:=hid (HS.out.call r7 g7);clear r7 g7 CS HS hs
     by_cases hs16:s<16
     ·have c16:(s:Int)<16:=by omega
      have hxb:xb s=0:=by unfold xb;rw [if_pos hs16]
      have htm:times s x=1:=by unfold times;rw [if_pos hs16]
      have ROW:Hid (w7.ownsRow 0 3 1 (.slice ua t uc) t (cellsN l)):=hid (by have:=HS7.out.row;rw [HLL.out] at this;exact this)
      rw [hxb] at HX HZ HP;have HRW2:Hid (Rows O (l++[s]) Z' (L++M)):=hid (by rw [←grow_low l s x hs16];exact HRW.out)
      have hq1':t+1≤q:=by have:=HTM.out;rw [htm] at this;exact this
      have HQ1:=hid hq1';clear hq1' hs16 hxb htm HTM H16 HRW
      go_wp2_with (at_builtin;refine wpList_append_near _ rfl _ _ 92 rfl 3 t0 (.int .i64 0) 1 8 Tryz.underlying92 hi0 hz0 hz1 hz2 rfl (by decide) (.slice ua t uc) t (cellsN l) rfl (ROW.out.alloc _) ⟨w7.heap.size,0,none⟩ 1 1 [.int .i64 (s:Nat)] rfl rfl (cell_one_new _ _ _) (by intro u hu;simp at hu;subst hu;rfl) (by unfold maxLen;omega) (by omega) ?_;intro v8 w8 o8 g8 n8;have H8:=hid (HS7.out.app (by rw [HLL.out];exact o8) g8 n8);clear o8 g8 n8)
      obtain ⟨a8,c8,e8⟩:=H8.out.form;refine ⟨⟨l++[s],Z',i1,H8.out,HRW2.out,HZ.out,HP.out,?_⟩,?_⟩
      ·rw [e8];rfl
      ·rw [e8];show q-(l++[s]).length<q-t;rw [List.length_append,HLL.out]
       have:=HQ1.out
       simp;omega
     --SYMS--
     ·have hge:16≤s:=by omega
      have hs19:=H16.out.2.2;clear hs16
      by_cases hs16:s=16
      ·have hs:s=16:=hs16;have hxb:xb s=2:=by rw [hs];rfl
       obtain ⟨tm,htm⟩:∃tm,times s x=tm:=⟨_,rfl⟩;have htm2:tm=3+x:=by rw [←htm,hs];rfl
       obtain ⟨V,hV⟩:∃V,valN l s=V:=⟨_,rfl⟩;have HV:=hid hV;have hx:=H16.out.1;rw [hxb] at HX HZ HP hx;have hx':x<2^2:=hx;have HRW2:Hid (Rows O (l++List.replicate tm V) Z' (L++M)):=hid (by have:=HRW.out;unfold grow at this;rw [htm,hV] at this;exact this)
       have htq:t+tm≤q:=by have:=HTM.out;rw [htm] at this;exact this
       have TB:Hid (t+tm≤q∧q≤316∧1≤tm):=hid ⟨htq,hq2,by omega⟩
       have CB:=hid (bits_here (k:=2) (by omega) HS7.out.rd HT.out HX.out (by omega))
       have q1:(3:Int)+(x:Int)=(tm:Int):=by omega
       obtain ⟨t2,ht2⟩:∃t2,t+tm=t2:=⟨_,rfl⟩;have q2:(t:Int)+(tm:Int)=(t2:Int):=by omega
       have q3:¬((q:Int)<(t2:Int)):=by omega
       have q4:decide ((q:Int)<(t2:Int))=false:=by simp;omega
       have q9:decide (q<t2)=false:=by simp;omega
       have q5:(x:Int)<128:=by omega
       have q6:(t2:Int)≤316:=by omega
       have q7:(tm:Int)≤316:=by omega
       have c16:¬((s:Int)<16):=by omega
       have d16:((s:Int)==16)=true:=by simp;omega
       have h16:=H16.out.2.1 hs;have ht0:0<t:=by rw [←HLL.out];exact List.length_pos_iff.2 h16
       obtain ⟨gl,rfl,hgl,hcap,hcell⟩:=HS7.out.at HLL.out ht0;obtain ⟨t1,ht1⟩:∃t1,t=t1+1:=⟨t-1,by omega⟩
       have hc1:w7.cell? ⟨gl,t1,none⟩=some (.int .i64 (V:Nat)):=by
        rw [hcell t1 (by omega),←hV,hs]
        show _=some (Value.int .i64 ((lastN l:Nat):Int));unfold lastN;rw [HLL.out,show t-1=t1 by omega]
       have p1:((t:Int)==0)=false:=by simp;omega
       have p2:(t:Int)-1=(t1:Int):=by omega
       have p3:(0:Int)≤(t1:Int):=by omega
       have p4:(t1:Int)<(t:Int):=by omega
       clear h16 ht0 hcell ht1 hgl hcap;clear hs hxb htm htm2 hV hx hx' HRW htq HTM H16 ht2 HX
       go_wp2_with fail
       refine CB.out.mono ?_;rintro r w8 ⟨rfl,r8,g8⟩;have H8:=hid (HS7.out.call r8 g8);have z8:w8.cell? ⟨b,2,none⟩=some (.int .i64 0):=r8.cells.2.2.1;clear r8 g8 CB HS7 c16 d16 p1 p2 p3 p4
       go_wp2_with fail
       go_loopw [14,19] (fun u e wr=>∃f:Nat,f≤tm∧e=.int .i64 f∧St w b c v T O wr (i1+2) u (l++List.replicate f V)∧lenOf u=t+f) (fun _ e _=>tm-(intOf e).toNat)
       case atStart=>exact ⟨0,Nat.zero_le _,rfl,by rw [List.replicate_zero,List.append_nil];exact H8.out,rfl⟩
       case round=>
        obtain ⟨f,hf,rfl,hs9,hl9⟩:=hrel;clear H8 z8;obtain ⟨va,vc,rfl⟩:=hs9.form;have hle:(l++List.replicate f V).length=t+f:=by rw [List.length_append,List.length_replicate,HLL.out]
        rw [hle] at hs9 ⊢;obtain ⟨tf,htf⟩:∃tf,t+f=tf:=⟨_,rfl⟩;rw [htf] at hs9 hle ⊢;have HTF:=hid htf;have ROW:Hid (wr.ownsRow 0 3 1 (.slice va tf vc) tf (cellsN (l++List.replicate f V))):=hid (by have:=hs9.row;rw [hle] at this;exact this)
        have HLE:=hid hle;have HS9:=hid hs9;have HB9:Hid (tf≤316∧q≤316):=hid (by have:=TB.out;omega)
        clear hs9 hl9 hle htf
        by_cases hft:f<tm
        ·have hft':(f:Int)<(tm:Int):=by omega
         have HF1:=hid (show f+1≤tm∧tm-(f+1)<tm-f by omega)
         clear hft hf
         go_wp2_with (at_builtin;refine wpList_append_near _ rfl _ _ 92 rfl 3 t0 (.int .i64 0) 1 8 Tryz.underlying92 hi0 hz0 hz1 hz2 rfl (by decide) (.slice va tf vc) tf (cellsN (l++List.replicate f V)) rfl (ROW.out.alloc _) ⟨wr.heap.size,0,none⟩ 1 1 [.int .i64 (V:Nat)] rfl rfl (cell_one_new _ _ _) (by intro u hu;simp at hu;subst hu;rfl) (by have:=HB9.out;unfold maxLen;omega) (by have:=HB9.out;omega) ?_;intro v8 w8 o8 g8 n8;have H8:=hid (HS9.out.app (by rw [HLE.out];exact o8) g8 n8);clear o8 g8 n8)
         rw [List.append_assoc,←List.replicate_succ'] at H8;have q8:(f:Int)≤316:=by have:=HF1.out;omega
         go_wp2_with fail
         obtain ⟨a8,c8,e8⟩:=H8.out.form;refine ⟨⟨f+1,HF1.out.1,by go_num,H8.out,?_⟩,?_⟩
         ·rw [e8];show (l++List.replicate (f+1) V).length=t+(f+1);rw [List.length_append,List.length_replicate,HLL.out]
         ·have:=HF1.out.2
          simp [intOf];omega
        ·obtain rfl:f=tm:=by omega
         have hft':¬((f:Int)<(f:Int)):=by omega
         clear hft hf
         go_wp2_with fail
         refine ⟨⟨l++List.replicate f V,Z',i1+2,HS9.out,HRW2.out,HZ.out,HP.out,?_⟩,?_⟩
         ·rw [HLE.out];rfl
         ·show q-tf<q-t
          have:=HTF.out
          have:=TB.out
          omega
      ·by_cases hs17:s=17
       ·have hs:s=17:=hs17;have hxb:xb s=3:=by rw [hs];rfl
        obtain ⟨tm,htm⟩:∃tm,times s x=tm:=⟨_,rfl⟩;have htm2:tm=3+x:=by rw [←htm,hs];rfl
        obtain ⟨V,hV⟩:∃V,valN l s=V:=⟨_,rfl⟩;have HV:=hid hV;have hx:=H16.out.1;rw [hxb] at HX HZ HP hx;have hx':x<2^3:=hx;have HRW2:Hid (Rows O (l++List.replicate tm V) Z' (L++M)):=hid (by have:=HRW.out;unfold grow at this;rw [htm,hV] at this;exact this)
        have htq:t+tm≤q:=by have:=HTM.out;rw [htm] at this;exact this
        have TB:Hid (t+tm≤q∧q≤316∧1≤tm):=hid ⟨htq,hq2,by omega⟩
        have CB:=hid (bits_here (k:=3) (by omega) HS7.out.rd HT.out HX.out (by omega))
        have q1:(3:Int)+(x:Int)=(tm:Int):=by omega
        obtain ⟨t2,ht2⟩:∃t2,t+tm=t2:=⟨_,rfl⟩;have q2:(t:Int)+(tm:Int)=(t2:Int):=by omega
        have q3:¬((q:Int)<(t2:Int)):=by omega
        have q4:decide ((q:Int)<(t2:Int))=false:=by simp;omega
        have q9:decide (q<t2)=false:=by simp;omega
        have q5:(x:Int)<128:=by omega
        have q6:(t2:Int)≤316:=by omega
        have q7:(tm:Int)≤316:=by omega
        have c16:¬((s:Int)<16):=by omega
        have d16:((s:Int)==16)=false:=by simp;omega
        have d17:((s:Int)==17)=true:=by simp;omega
        have hV0:V=0:=by rw [←hV];unfold valN;rw [if_neg (by omega),if_neg (by omega)]
        subst hV0;clear hs hxb htm htm2 hV hx hx' HRW htq HTM H16 ht2 HX
        go_wp2_with fail
        refine CB.out.mono ?_;rintro r w8 ⟨rfl,r8,g8⟩;have H8:=hid (HS7.out.call r8 g8);have z8:w8.cell? ⟨b,2,none⟩=some (.int .i64 0):=r8.cells.2.2.1;clear r8 g8 CB HS7 c16 d16 d17
        go_wp2_with fail
        go_loopw [14,19] (fun u e wr=>∃f:Nat,f≤tm∧e=.int .i64 f∧St w b c v T O wr (i1+3) u (l++List.replicate f 0)∧lenOf u=t+f) (fun _ e _=>tm-(intOf e).toNat)
        case atStart=>exact ⟨0,Nat.zero_le _,rfl,by rw [List.replicate_zero,List.append_nil];exact H8.out,rfl⟩
        case round=>
         obtain ⟨f,hf,rfl,hs9,hl9⟩:=hrel;clear H8 z8;obtain ⟨va,vc,rfl⟩:=hs9.form;have hle:(l++List.replicate f 0).length=t+f:=by rw [List.length_append,List.length_replicate,HLL.out]
         rw [hle] at hs9 ⊢;obtain ⟨tf,htf⟩:∃tf,t+f=tf:=⟨_,rfl⟩;rw [htf] at hs9 hle ⊢;have HTF:=hid htf;have ROW:Hid (wr.ownsRow 0 3 1 (.slice va tf vc) tf (cellsN (l++List.replicate f 0))):=hid (by have:=hs9.row;rw [hle] at this;exact this)
         have HLE:=hid hle;have HS9:=hid hs9;have HB9:Hid (tf≤316∧q≤316):=hid (by have:=TB.out;omega)
         clear hs9 hl9 hle htf
         by_cases hft:f<tm
         ·have hft':(f:Int)<(tm:Int):=by omega
          have HF1:=hid (show f+1≤tm∧tm-(f+1)<tm-f by omega)
          clear hft hf
          go_wp2_with (at_builtin;refine wpList_append_near _ rfl _ _ 92 rfl 3 t0 (.int .i64 0) 1 8 Tryz.underlying92 hi0 hz0 hz1 hz2 rfl (by decide) (.slice va tf vc) tf (cellsN (l++List.replicate f 0)) rfl (ROW.out.alloc _) ⟨wr.heap.size,0,none⟩ 1 1 [.int .i64 (0:Nat)] rfl rfl (cell_one_new _ _ _) (by intro u hu;simp at hu;subst hu;rfl) (by have:=HB9.out;unfold maxLen;omega) (by have:=HB9.out;omega) ?_;intro v8 w8 o8 g8 n8;have H8:=hid (HS9.out.app (by rw [HLE.out];exact o8) g8 n8);clear o8 g8 n8)
          rw [List.append_assoc,←List.replicate_succ'] at H8;have q8:(f:Int)≤316:=by have:=HF1.out;omega
          go_wp2_with fail
          obtain ⟨a8,c8,e8⟩:=H8.out.form;refine ⟨⟨f+1,HF1.out.1,by go_num,H8.out,?_⟩,?_⟩
          ·rw [e8];show (l++List.replicate (f+1) 0).length=t+(f+1);rw [List.length_append,List.length_replicate,HLL.out]
          ·have:=HF1.out.2
           simp [intOf];omega
         ·obtain rfl:f=tm:=by omega
          have hft':¬((f:Int)<(f:Int)):=by omega
          clear hft hf
          go_wp2_with fail
          refine ⟨⟨l++List.replicate f 0,Z',i1+3,HS9.out,HRW2.out,HZ.out,HP.out,?_⟩,?_⟩
          ·rw [HLE.out];rfl
          ·show q-tf<q-t
           have:=HTF.out
           have:=TB.out
           omega
       ·have hs:s=18:=by omega
        have hxb:xb s=7:=by rw [hs];rfl
        obtain ⟨tm,htm⟩:∃tm,times s x=tm:=⟨_,rfl⟩;have htm2:tm=11+x:=by rw [←htm,hs];rfl
        obtain ⟨V,hV⟩:∃V,valN l s=V:=⟨_,rfl⟩;have HV:=hid hV;have hx:=H16.out.1;rw [hxb] at HX HZ HP hx;have hx':x<2^7:=hx;have HRW2:Hid (Rows O (l++List.replicate tm V) Z' (L++M)):=hid (by have:=HRW.out;unfold grow at this;rw [htm,hV] at this;exact this)
        have htq:t+tm≤q:=by have:=HTM.out;rw [htm] at this;exact this
        have TB:Hid (t+tm≤q∧q≤316∧1≤tm):=hid ⟨htq,hq2,by omega⟩
        have CB:=hid (bits_here (k:=7) (by omega) HS7.out.rd HT.out HX.out (by omega))
        have q1:(11:Int)+(x:Int)=(tm:Int):=by omega
        obtain ⟨t2,ht2⟩:∃t2,t+tm=t2:=⟨_,rfl⟩;have q2:(t:Int)+(tm:Int)=(t2:Int):=by omega
        have q3:¬((q:Int)<(t2:Int)):=by omega
        have q4:decide ((q:Int)<(t2:Int))=false:=by simp;omega
        have q9:decide (q<t2)=false:=by simp;omega
        have q5:(x:Int)<128:=by omega
        have q6:(t2:Int)≤316:=by omega
        have q7:(tm:Int)≤316:=by omega
        have c16:¬((s:Int)<16):=by omega
        have d16:((s:Int)==16)=false:=by simp;omega
        have d17:((s:Int)==17)=false:=by simp;omega
        have d18:((s:Int)==18)=true:=by simp;omega
        have hV0:V=0:=by rw [←hV];unfold valN;rw [if_neg (by omega),if_neg (by omega)]
        subst hV0;clear hs hxb htm htm2 hV hx hx' HRW htq HTM H16 ht2 HX
        go_wp2_with fail
        refine CB.out.mono ?_;rintro r w8 ⟨rfl,r8,g8⟩;have H8:=hid (HS7.out.call r8 g8);have z8:w8.cell? ⟨b,2,none⟩=some (.int .i64 0):=r8.cells.2.2.1;clear r8 g8 CB HS7 c16 d16 d17 d18
        go_wp2_with fail
        go_loopw [14,19] (fun u e wr=>∃f:Nat,f≤tm∧e=.int .i64 f∧St w b c v T O wr (i1+7) u (l++List.replicate f 0)∧lenOf u=t+f) (fun _ e _=>tm-(intOf e).toNat)
        case atStart=>exact ⟨0,Nat.zero_le _,rfl,by rw [List.replicate_zero,List.append_nil];exact H8.out,rfl⟩
        case round=>
         obtain ⟨f,hf,rfl,hs9,hl9⟩:=hrel;clear H8 z8;obtain ⟨va,vc,rfl⟩:=hs9.form;have hle:(l++List.replicate f 0).length=t+f:=by rw [List.length_append,List.length_replicate,HLL.out]
         rw [hle] at hs9 ⊢;obtain ⟨tf,htf⟩:∃tf,t+f=tf:=⟨_,rfl⟩;rw [htf] at hs9 hle ⊢;have HTF:=hid htf;have ROW:Hid (wr.ownsRow 0 3 1 (.slice va tf vc) tf (cellsN (l++List.replicate f 0))):=hid (by have:=hs9.row;rw [hle] at this;exact this)
         have HLE:=hid hle;have HS9:=hid hs9;have HB9:Hid (tf≤316∧q≤316):=hid (by have:=TB.out;omega)
         clear hs9 hl9 hle htf
         by_cases hft:f<tm
         ·have hft':(f:Int)<(tm:Int):=by omega
          have HF1:=hid (show f+1≤tm∧tm-(f+1)<tm-f by omega)
          clear hft hf
          go_wp2_with (at_builtin;refine wpList_append_near _ rfl _ _ 92 rfl 3 t0 (.int .i64 0) 1 8 Tryz.underlying92 hi0 hz0 hz1 hz2 rfl (by decide) (.slice va tf vc) tf (cellsN (l++List.replicate f 0)) rfl (ROW.out.alloc _) ⟨wr.heap.size,0,none⟩ 1 1 [.int .i64 (0:Nat)] rfl rfl (cell_one_new _ _ _) (by intro u hu;simp at hu;subst hu;rfl) (by have:=HB9.out;unfold maxLen;omega) (by have:=HB9.out;omega) ?_;intro v8 w8 o8 g8 n8;have H8:=hid (HS9.out.app (by rw [HLE.out];exact o8) g8 n8);clear o8 g8 n8)
          rw [List.append_assoc,←List.replicate_succ'] at H8;have q8:(f:Int)≤316:=by have:=HF1.out;omega
          go_wp2_with fail
          obtain ⟨a8,c8,e8⟩:=H8.out.form;refine ⟨⟨f+1,HF1.out.1,by go_num,H8.out,?_⟩,?_⟩
          ·rw [e8];show (l++List.replicate (f+1) 0).length=t+(f+1);rw [List.length_append,List.length_replicate,HLL.out]
          ·have:=HF1.out.2
           simp [intOf];omega
         ·obtain rfl:f=tm:=by omega
          have hft':¬((f:Int)<(f:Int)):=by omega
          clear hft hf
          go_wp2_with fail
          refine ⟨⟨l++List.replicate f 0,Z',i1+7,HS9.out,HRW2.out,HZ.out,HP.out,?_⟩,?_⟩
          ·rw [HLE.out];rfl
          ·show q-tf<q-t
           have:=HTF.out
           have:=TB.out
           omega
     --END--
    ·have htq:t=q:=by
      have:=hrw.length
      rw [ht,HQ.out] at this;omega
     obtain ⟨rfl,hl⟩:=hrw.nil (by rw [ht,HQ.out];exact htq)
     subst htq;have hle:=R.out;have hnm:n+m=t:=by omega
     obtain ⟨gl,rfl,hgl,hcap,hcell⟩:=HS.out.at HLL.out (by omega)
     have cut1:∀W:World,(Instr.slice 92 (.slice (some ⟨gl,0,none⟩) t uc) none (some (.int .i64 (n:Int))) none).run Tryz.prog W=.ok (.slice (some ⟨gl,0,none⟩) n uc) W:=fun W=>run_low W gl t uc n (by omega)
     have cut2:∀W:World,(Instr.slice 92 (.slice (some ⟨gl,0,none⟩) t uc) (some (.int .i64 (n:Int))) none none).run Tryz.prog W=.ok (.slice (some ⟨gl,n,none⟩) m (uc-n)) W:=fun W=>by
      rw [run_high W gl t uc n (by omega) hcap (by omega),show t-n=m by omega]
     have hpe':i=pe:=by rw [←hpe];rfl
     have I1:Hid (∀k,IsInts (wr.drewN k) (some ⟨gl,0,none⟩) (ints L)):=hid fun k h0=>⟨gl,0,rfl,hgl,fun e he=>by
      have he':e<n:=by rw [ints_length,HLM.out.1] at he;exact he
      rw [Nat.zero_add,ints_get L e (by rw [HLM.out.1];exact he')]
      refine (hcell e (by omega)).trans ?_
      rw [hl,List.getD_eq_getElem?_getD,List.getElem?_append_left (by rw [HLM.out.1];exact he'),←List.getD_eq_getElem?_getD]⟩
     have I2:Hid (∀k,IsInts (wr.drewN k) (some ⟨gl,n,none⟩) (ints M)):=hid fun k h0=>⟨gl,n,rfl,hgl,fun e he=>by
      have he':e<m:=by rw [ints_length,HLM.out.2] at he;exact he
      rw [ints_get M e (by rw [HLM.out.2];exact he')]
      refine (hcell (n+e) (by omega)).trans ?_
      rw [hl,List.getD_eq_getElem?_getD,List.getElem?_append_right (by rw [HLM.out.1];omega),HLM.out.1,Nat.add_sub_cancel_left,←List.getD_eq_getElem?_getD]⟩
     have RD:Hid (RfAt wr b v T pe false):=hid (by rw [←hpe'];exact HS.out.rd)
     have GR:=hid HS.out.gr;have hlt':¬((t:Int)<(t:Int)):=by omega
     clear hrw hhas hpe hlen hl hgl hcap hcell hpe' hlt hs HS hle hnm
     go_wp2_with fail
     go_quiet (fail)
     go_wp2_with fail
     go_ret3
     exact ⟨gl,uc,uc-n,rfl,I1.out nq,I2.out nq,RD.out.draws nq,rgrown_drewN GR.out nq⟩
end Go.Proofs.YthbjllabgpaaaaaGreat.Def
