/-
  Contracts of inflate's Segment and Whole.
-/
import Derived.Test.YthbjllabgpaaaaaGreatInfNext
namespace Go.Proofs.YthbjllabgpaaaaaGreat.Inf
open Go.Lib (hid)
set_option maxHeartbeats 8000000
open Go.ChangeShapes Go.WideShapes Go.ChangeAt Go.RowKit
open Go.Proofs.YthbjllabgpaaaaaGreat.Bit (RdAt tb tb_length rleft_any rat_any rgrown_trans)
open Go.Proofs.YthbjllabgpaaaaaGreat.Sym
open Go.Proofs.YthbjllabgpaaaaaGreat.Def
set_option linter.unusedVariables false
set_option maxRecDepth 100000
def SgIf (T:List Bool) (win:List UInt8) (most:Int) (p:Nat) (out:List UInt8) (en:Bool):Prop:=∀tot:List UInt8,Sg T win 0 [] false tot→(tot.length:Int)≤most→Sg T win p out en tot
theorem SgIf.start (T:List Bool) (win:List UInt8) (most:Int):SgIf T win most 0 [] false:=fun _ h _=>h
theorem SgIf.step {t:ByteArray} {win:List UInt8} {most:Int} {p q k:Nat} {out:List UInt8} {en last bad:Bool} {s:ByteArray} {e:Int} (h:SgIf (tb t) win most p out en) (hp:p<(tb t).length) (hb:blkG t (win++out) p (most-(out.length:Nat))=(k,last,s,e,q,bad))
  (tot:List UInt8) (h0:Sg (tb t) win 0 [] false tot) (hm:(tot.length:Int)≤most):e=0∧last=false∧Sg (tb t) win q (out++s.data.toList) (decide (k=0)&&decide (s.data.toList=[])) tot:=by
 have hs:=h tot h0 hm
 cases hs with
 | done=>omega
 | more _ _ s' _ _ K q' hk hr=>
  have hl:=hr.long;rw [List.length_append] at hl;have e1:=blk_at hk (most:=most-(out.length:Nat)) (by omega)
  rw [hb] at e1;simp only [Prod.mk.injEq] at e1;obtain ⟨rfl,rfl,rfl,rfl,rfl,_⟩:=e1;exact ⟨rfl,rfl,hr⟩
theorem SgIf.end {t:ByteArray} {win:List UInt8} {most:Int} {p:Nat} {out:List UInt8} {en:Bool} (h:SgIf (tb t) win most p out en) (hp:(tb t).length≤p) (tot:List UInt8) (h0:Sg (tb t) win 0 [] false tot) (hm:(tot.length:Int)≤most):en=true∧tot=out:=by
 have hs:=h tot h0 hm
 cases hs with
 | done=>exact ⟨rfl,rfl⟩
 | more _ _ s' _ _ K q' hk hr=>have:=hk.far;omega
def SegPost (w:World) (t win:ByteArray) (most:Int) (r:Ending) (w':World):Prop:=
 ∃(s:ByteArray) (e:Int),r=.returned (.tuple #[.string s,.int .i64 e])∧(e≠0→s=⟨#[]⟩)∧(e=0→(s.size:Int)≤most) ∧
  (∀tot:ByteArray,Sg (tb t) win.data.toList 0 [] false tot.data.toList→(tot.size:Int)≤most→e=0∧s=tot)∧Below w.heap.size w w'
theorem segment_in (win t:ByteArray) (most:Int) (w:World) (hw:win.size≤32768) (ht:t.size≤100000) (hm:0≤most∧most≤100000) :
  Calls Tryz.prog 15 #[.string win,.string t,.int .i64 most] w fun r w'=>SegPost w t win most r w':=by
 have CB:=hid (begin_any win t most w hw (by omega))
 have HT:=hid (And.intro hw (And.intro ht hm));clear hw ht hm
 go_enter Tryz.func15,Tryz.ntmps15
 go_wp2_with fail
 refine CB.out.mono ?_;rintro r w1 ⟨c,R,v,rfl,h1,b1⟩;have H1:=hid h1;have B1:=hid b1;obtain ⟨N,hN⟩:∃N,(tb t).length=N:=⟨_,rfl⟩;have HN:=hid hN;clear h1 b1 CB hN
 go_wp2_with fail
 go_loopw [9] (fun em wr=>∃(v:Value) (out:List UInt8) (p:Nat) (en:Bool),em=.bool en∧ChB wr w.heap.size c R (win.size:Nat) (us c) v (win.data.toList++out) most t p false∧Below w.heap.size w wr∧p≤N∧(out.length:Int)≤most∧SgIf (tb t) win.data.toList most p out en) (fun _ wr=>N-posOf wr R)
 case atStart=>exact ⟨v,[],0,false,rfl,by rw [List.append_nil];exact H1.out,B1.out,Nat.zero_le _,HT.out.2.2.1,SgIf.start _ _ _⟩
 case round=>
  obtain ⟨v,out,p,en,rfl,hc,hb,hp,ho,hs⟩:=hrel;have hpos:=posOf_eq hc.rd;rw [hpos];have HC:=hid hc;have HB:=hid hb;have HS:=hid hs;have HP:=hid (And.intro hp ho);obtain ⟨c0,_,_,_,_,_,_⟩:=hc.cells;have CL:=hid (rleft_any R t p false wr hc.rd (by rw [HN.out];exact hp) (by have:=HT.out;omega))
  rw [HN.out] at CL;clear hpos hc hb hs H1 B1
  by_cases hlt:p<N
  ·obtain ⟨L,hL⟩:∃L,N-p=L:=⟨_,rfl⟩;have hL0:(0:Int)<(L:Int):=by omega
   rw [hL] at CL;have HLT:=hid (And.intro hlt hL);clear hp ho hlt hL
   go_wp2_with fail
   refine CL.out.mono ?_;rintro r w2 ⟨rfl,nd,rfl⟩;have H2:=hid (HC.out.draws nd);have B2:Hid (Below w.heap.size w (wr.drewN nd)):=hid (HB.out.trans ⟨rfl,rfl,rfl,Nat.le_refl _,fun _ _=>rfl⟩)
   clear CL c0 HC HB;generalize wr.drewN nd=w2 at *;have hsz:(win.data.toList++out).length-win.size=out.length:=by rw [List.length_append,size_list];omega
   have hsl:(win.data.toList++out).length=win.size+out.length:=by rw [List.length_append,size_list]
   have CN:=next_any w.heap.size c R p win.size most v (win.data.toList++out) t w2 H2.out B2.out.size (by rw [HN.out];exact HP.out.1) (by have:=HT.out;omega) (by have:=HT.out;have:=HP.out;omega) (by omega) (by have:=HT.out;omega)
   rw [hsz] at CN;have OK:=blk_ok (t:=t) (win:=win.data.toList++out) (p:=p) (most:=most-(out.length:Nat)) (by rw [HN.out];exact HP.out.1)
   obtain ⟨⟨k,last,s,e,q,bad⟩,hx⟩:∃x,blkG t (win.data.toList++out) p (most-(out.length:Nat))=x:=⟨_,rfl⟩;rw [hx] at CN OK;unfold blkCells at CN;simp only at CN OK;have ST:=fun tot h0 hm=>HS.out.step (by rw [HN.out];exact HLT.out.1) hx tot h0 hm
   have CN':=hid CN;have OK':=hid OK;have ST':=hid ST;clear hsz hsl CN OK hx ST HS
   go_wp2_with fail
   refine CN'.out.mono ?_;rintro r w3 ⟨rfl,⟨v3,h3⟩,b3⟩;have H3:=hid h3;have B3:=hid (B2.out.trans b3);clear h3 b3 CN' H2 B2
   by_cases he:e=0
   ·subst he;obtain ⟨ok1,rfl,ok3,ok4⟩:=OK'.out rfl;rw [HN.out] at ok4;have OK2:=hid (And.intro ok1 (And.intro ok3 ok4));have bl:Below w3.heap.size w3 (w3.alloc (.cells #[.int .i64 (k:Nat),.bool last,.string s] 75)):=(Below.refl _ _).alloc (Nat.le_refl _) _;have B4:=hid (B3.out.trans (bl.mono B3.out.size));have H4:=hid (H3.out.below bl);obtain ⟨y0,y1,y2,_,_,_⟩:=blk_block (heap_alloc_new w3 (.cells #[.int .i64 (k:Nat),.bool last,.string s] 75));clear bl OK' ok1 ok3 ok4
    cases last with
    | true=>
     go_wp2_with fail
     go_ret2;exact ⟨_,_,rfl,fun _=>rfl,fun h=>absurd h (by decide),fun tot h0 hm=>absurd (ST'.out _ h0 (by rw [size_list];exact hm)).2.1 (by decide),B4.out⟩
    | false=>
     have heq:s.toList.isEmpty=decide (s.data.toList=[]):=by
      rw [Go.ByteArray.toList_eq]
      cases s.data.toList <;> rfl
     have hlen:(out++s.data.toList).length=out.length+s.size:=by rw [List.length_append,size_list]
     have HLN:=hid hlen;rw [List.append_assoc] at H4;clear hlen
     by_cases hk:k=0
     ·subst hk;have HEQ:=hid heq;clear heq
      go_wp2_with fail
      refine ⟨⟨v3,out++s.data.toList,q,_,by rw [HEQ.out],H4.out,B4.out,OK2.out.2.2,?_,fun tot h0 hm=>?_⟩,?_⟩
      ·rw [HLN.out];have:=OK2.out.1;omega
      ·have:=(ST'.out _ h0 hm).2.2
       simp only [decide_true,Bool.true_and] at this;exact this
      ·have hps:=posOf_eq H4.out.rd;rw [show ((0:Nat):Int)=0 from rfl] at hps
       rw [hps];have:=OK2.out;have:=HLT.out;omega
     ·have hk0:((k:Int)==0)=false:=by simp;omega
      have HK:=hid hk;clear heq hk
      go_wp2_with fail
      refine ⟨⟨v3,out++s.data.toList,q,false,rfl,H4.out,B4.out,OK2.out.2.2,?_,fun tot h0 hm=>?_⟩,?_⟩
      ·rw [HLN.out];have:=OK2.out.1;omega
      ·have:=(ST'.out _ h0 hm).2.2
       rw [decide_eq_false HK.out,Bool.false_and] at this;exact this
      ·rw [posOf_eq H4.out.rd];have:=OK2.out;have:=HLT.out;omega
   ·have hne:(e != 0)=true:=by simpa using he
    have HE:=hid he;have bl:Below w3.heap.size w3 (w3.alloc (.cells #[.int .i64 (k:Nat),.bool last,.string s] 75)):=(Below.refl _ _).alloc (Nat.le_refl _) _;have B4:=hid (B3.out.trans (bl.mono B3.out.size));clear he bl
    go_wp2_with fail
    go_ret2;exact ⟨_,_,rfl,fun _=>rfl,fun h=>absurd h HE.out,fun tot h0 hm=>absurd (ST'.out _ h0 (by rw [size_list];exact hm)).1 HE.out,B4.out⟩
  ·have hpN:p=N:=by omega
   have hL:N-p=0:=by omega
   rw [hL] at CL;have HEND:=hid (fun tot h0 hm=>HS.out.end (by rw [HN.out];omega) tot h0 hm)
   clear hp hlt hpN hL HS
   go_wp2_with fail
   refine CL.out.mono ?_;rintro r w2 ⟨rfl,nd,rfl⟩;have H2:=hid (HC.out.draws nd);have B2:Hid (Below w.heap.size w (wr.drewN nd)):=hid (HB.out.trans ⟨rfl,rfl,rfl,Nat.le_refl _,fun _ _=>rfl⟩)
   clear CL c0 HC HB;generalize wr.drewN nd=w2 at *;rw [show ((0:Nat):Int)=0 from rfl]
   cases en with
   | false=>
    go_wp2_with fail
    go_ret2;exact ⟨_,_,rfl,fun _=>rfl,fun h=>absurd h (by decide),fun tot h0 hm=>absurd (HEND.out _ h0 (by rw [size_list];exact hm)).1 (by decide),B2.out⟩
   | true=>
    have hsl:(win.data.toList++out).length=win.size+out.length:=by rw [List.length_append,size_list]
    have CM:=hid (made_any w.heap.size c R p win.size most v (win.data.toList++out) t false w2 H2.out (by have:=HT.out;omega) (by omega))
    rw [show (win.data.toList++out).drop win.size=out from by rw [←size_list,List.drop_left]] at CM
    clear hsl
    go_wp2_with fail
    refine CM.out.mono ?_;rintro r w3 ⟨rfl,h3,b3,_⟩;have B3:=hid (B2.out.trans b3);clear h3 b3 CM
    go_wp2_with fail
    go_ret2;refine ⟨_,_,rfl,fun h=>absurd rfl h,fun _=>?_,fun tot h0 hm=>⟨rfl,?_⟩,B3.out⟩
    ·have e:(⟨out.toArray⟩:ByteArray).size=out.length:=by show out.toArray.size=_;simp
     rw [e];exact HP.out.2
    ·rw [←(HEND.out _ h0 (by rw [size_list];exact hm)).2]
theorem whole_in (win t tot:ByteArray) (most:Int) (qe:Nat) (w:World) (hw:win.size≤32768) (ht:t.size≤100000) (hm:(tot.size:Int)≤most∧most≤100000) (h:Wh (tb t) win.data.toList 0 [] tot.data.toList qe) :
  Calls Tryz.prog 38 #[.string win,.string t,.int .i64 most] w fun r w'=>r=.returned (.tuple #[.string tot,.int .i64 (((qe+7)/8:Nat):Int),.int .i64 0])∧Below w.heap.size w w':=by
 have CB:=hid (begin_any win t most w hw (by omega))
 have HT:=hid (And.intro hw (And.intro ht hm));have HW:=hid h;obtain ⟨Q,hQ0⟩:∃Q,(qe+7)/8=Q:=⟨_,rfl⟩;rw [hQ0];have HQ:=hid hQ0;clear hw ht hm h hQ0
 go_enter Tryz.func38,Tryz.ntmps38
 go_wp2_with fail
 refine CB.out.mono ?_;rintro r w1 ⟨c,R,v,rfl,h1,b1⟩;have H1:=hid h1;have B1:=hid b1;obtain ⟨N,hN⟩:∃N,(tb t).length=N:=⟨_,rfl⟩;have HN:=hid hN;clear h1 b1 CB hN
 go_wp2_with fail
 go_loopw [11] (fun _ wr=>∃(v:Value) (out:List UInt8) (p:Nat),ChB wr w.heap.size c R (win.size:Nat) (us c) v (win.data.toList++out) most t p false∧Below w.heap.size w wr∧Wh (tb t) win.data.toList p out tot.data.toList qe) (fun _ wr=>N-posOf wr R)
 case atStart=>exact ⟨v,[],0,by rw [List.append_nil];exact H1.out,B1.out,HW.out⟩
 case round=>
  obtain ⟨v,out,p,hc,hb,hs⟩:=hrel;have hpos:=posOf_eq hc.rd;rw [hpos];have HC:=hid hc;have HB:=hid hb;have hlong:=hs.long;rw [size_list] at hlong;have hsz:(win.data.toList++out).length-win.size=out.length:=by rw [List.length_append,size_list];omega
  have hsl:(win.data.toList++out).length=win.size+out.length:=by rw [List.length_append,size_list]
  have HTL:=hid (show tot.data.toList=tot.data.toList from rfl)
  obtain ⟨TL,hTL⟩:∃TL,tot.data.toList=TL:=⟨_,rfl⟩;rw [hTL] at hs;have hTz:TL.length=tot.size:=by rw [←hTL,size_list]
  clear hpos hc hb H1 B1
  cases hs with
  | last _ _ s K _ hk=>
   have hfar:=hk.far;rw [List.length_append] at hTz;have e1:=blk_at hk (most:=most-(out.length:Nat)) (by have:=HT.out;omega)
   have CN:=next_any w.heap.size c R p win.size most v (win.data.toList++out) t wr HC.out HB.out.size (by omega) (by have:=HT.out;omega) (by have:=HT.out;omega) (by omega) (by have:=HT.out;omega)
   rw [hsz,e1] at CN;unfold blkCells at CN;simp only at CN;obtain ⟨S,hS⟩:∃S:ByteArray,⟨s.toArray⟩=S:=⟨_,rfl⟩;have eS:s=S.data.toList:=by rw [←hS]
   rw [hS,eS] at CN;have CN':=hid CN;have hl2:(win.data.toList++out++S.data.toList).length≤1000000:=by rw [←eS,List.length_append,hsl];have:=HT.out;omega
   have hd:(win.data.toList++out++S.data.toList).drop win.size=tot.data.toList:=by
    rw [List.append_assoc,←size_list win,List.drop_left,hTL,eS]
   have HD:=hid (And.intro hl2 hd);have HLE:=hid (show win.size≤(win.data.toList++out++S.data.toList).length by rw [List.length_append,List.length_append,size_list];omega)
   have hqb:qe≤800000:=by have:=HT.out;have:=tb_length t;omega
   have p1:IntKind.i64.wrap ((qe:Int)+7)=(qe:Int)+7:=IntWalk.i64_in _ (by omega)
   have p2:((qe:Int)+7).tdiv 8=(Q:Int):=by rw [Int.tdiv_eq_ediv_of_nonneg (by omega)];have:=HQ.out;omega
   have p3:IntKind.i64.wrap (Q:Int)=(Q:Int):=IntWalk.i64_in _ (by have:=HQ.out;omega)
   clear hk hfar hTz e1 CN hS eS hlong hsz hsl hTL hl2 hd HW
   go_wp2_with fail
   refine CN'.out.mono ?_;rintro r w3 ⟨rfl,⟨v3,h3⟩,b3⟩;have bl:Below w3.heap.size w3 (w3.alloc (.cells #[.int .i64 (K:Nat),.bool true,.string S] 75)):=(Below.refl _ _).alloc (Nat.le_refl _) _;have B4:=hid ((HB.out.trans b3).trans (bl.mono (HB.out.trans b3).size));have H4:=hid (h3.below bl);obtain ⟨y0,y1,y2,_,_,_⟩:=blk_block (heap_alloc_new w3 (.cells #[.int .i64 (K:Nat),.bool true,.string S] 75));clear bl h3 b3 CN' HC HB
   go_wp2_with fail
   generalize w3.alloc (.cells #[.int .i64 (K:Nat),.bool true,.string S] 75)=w4 at *;clear y0 y1 y2;have CM:=fun W hW=>made_any w.heap.size c R qe win.size most v3 (win.data.toList++out++S.data.toList) t false W hW HD.out.1 HLE.out
   rw [HD.out.2,list_bytes] at CM;have CM':=hid CM;have d0:w4.drew.cell? ⟨c,0,none⟩=some (.pointer (some ⟨R,0,none⟩)):=H4.out.cells.1;have HQE:=hid hqb;clear CM hqb
   go_region_with (first
    | (go_at_call 36;refine (CM'.out _ H4.out.drew).mono ?_;rintro r w5 ⟨rfl,h5,b5,_⟩;have H5:=hid h5;have B5:=hid (B4.out.drew.trans b5);have e0:=h5.cells.1;clear h5 b5)
    | (go_at_call 62;refine (rat_any R t qe false _ H5.out.rd).mono ?_;rintro r w6 ⟨rfl,rfl⟩))
   all_goals (go_wp2_with fail;go_ret3;exact ⟨rfl,B5.out⟩)
  | more _ _ s _ K q1 _ hk hr=>
   have hfar:=hk.far;have hl3:=hr.long;rw [List.length_append] at hl3;have e1:=blk_at hk (most:=most-(out.length:Nat)) (by have:=HT.out;omega)
   have CN:=next_any w.heap.size c R p win.size most v (win.data.toList++out) t wr HC.out HB.out.size (by omega) (by have:=HT.out;omega) (by have:=HT.out;omega) (by omega) (by have:=HT.out;omega)
   rw [hsz,e1] at CN;unfold blkCells at CN;simp only at CN;obtain ⟨S,hS⟩:∃S:ByteArray,⟨s.toArray⟩=S:=⟨_,rfl⟩;have eS:s=S.data.toList:=by rw [←hS]
   rw [hS,eS] at CN;have CN':=hid CN;have HR:=hid (by rw [←hTL,eS] at hr;exact hr:Wh (tb t) win.data.toList q1 (out++S.data.toList) tot.data.toList qe)
   have HF:=hid (And.intro hfar HN.out);clear hk hfar hTz e1 CN hS eS hlong hsz hsl hTL hl3 hr HW
   go_wp2_with fail
   refine CN'.out.mono ?_;rintro r w3 ⟨rfl,⟨v3,h3⟩,b3⟩;have bl:Below w3.heap.size w3 (w3.alloc (.cells #[.int .i64 (K:Nat),.bool false,.string S] 75)):=(Below.refl _ _).alloc (Nat.le_refl _) _;have B4:=hid ((HB.out.trans b3).trans (bl.mono (HB.out.trans b3).size));have H4:=hid (h3.below bl);rw [List.append_assoc] at H4;obtain ⟨y0,y1,y2,_,_,_⟩:=blk_block (heap_alloc_new w3 (.cells #[.int .i64 (K:Nat),.bool false,.string S] 75));clear bl h3 b3 CN' HC HB
   go_wp2_with fail
   refine ⟨⟨v3,out++S.data.toList,q1,H4.out,B4.out,HR.out⟩,?_⟩;rw [posOf_eq H4.out.rd];have:=HF.out;omega
end Go.Proofs.YthbjllabgpaaaaaGreat.Inf
