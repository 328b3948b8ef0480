/-
  Contracts of the reference's Whole and Segment of layer 8, where blocks stand.
-/
import Derived.Test.YthbjllabgpaaaaaGreatDefBlk
namespace Go.Proofs.YthbjllabgpaaaaaGreat.Def
open Go.Lib (hid)
set_option maxHeartbeats 8000000
open Go.ChangeShapes Go.WideShapes Go.ChangeAt Go.RowKit
open Go.Proofs.YthbjllabgpaaaaaGreat.Bit (RfAt BlAt From tb tb_length tbits bitsOf bitsOf_length rgrown_trans rgrown_drewN all_any lenOf)
open Go.Proofs.YthbjllabgpaaaaaGreat.Lz (Tok expL expE)
open Go.Proofs.YthbjllabgpaaaaaGreat.Sym
set_option linter.unusedVariables false
set_option maxRecDepth 100000
theorem refBlock_code (b p q K:Nat) (last:Bool) (l:List Tok) (most:Int) (v:Value) (T:List Bool) (win:ByteArray) (w:World) (hr:RfAt w b v T p false) (hT:T.length≤8000000) (hw:win.size≤maxLen) (hll:l.length≤3000000) (hs:((sumT l:Nat):Int)≤most)
  (h:Coded T p last K l q) :
  Calls Tryz.prog 32 #[.pointer (some ⟨b,0,none⟩),.string win,.int .i64 most] w fun r w'=>r=.returned (blkV win l last K)∧RfAt w' b v T q false∧w.grownBy w' (some b):=by
 cases h with
 | fixed _ hF hh=>exact refBlock_fixed b p last l most v T win w hr hT hw hll hs hF hh
 | own N M k O Y _ hH hF hh=>exact refBlock_own b p N.length M.length k last N M O Y l most v T win w hr hT hw hll hs rfl rfl hH hF hh
theorem sum_long (l:List Tok):l.length≤sumT l:=by
 induction l with
 | nil=>simp
 | cons t l ih=>
  rw [sumT_cons,List.length_cons]
  have:1≤Lz.wide t:=by unfold Lz.wide;omega
  omega
theorem size_list (s:ByteArray):s.data.toList.length=s.size:=by simp
theorem list_bytes (s:ByteArray):(⟨s.data.toList.toArray⟩:ByteArray)=s:=by simp
theorem refBlock_any (b p q K:Nat) (last:Bool) (s t win:ByteArray) (most:Int) (v:Value) (w:World) (hr:RfAt w b v (tb t) p false) (ht:t.size≤100000) (hw:win.size≤maxLen) (hs:s.size≤3000000) (hm:(s.size:Int)≤most)
  (h:Blk (tb t) win.data.toList p last K s.data.toList q) :
  Calls Tryz.prog 32 #[.pointer (some ⟨b,0,none⟩),.string win,.int .i64 most] w fun r w'=>r=.returned (.tuple #[.string s,.bool last,.int .i64 (K:Nat),.int .i64 0])∧RfAt w' b v (tb t) q false∧w.grownBy w' (some b):=by
 obtain ⟨sl,hsl⟩:∃sl,s.data.toList=sl:=⟨_,rfl⟩;have hsz:=size_list s;rw [hsl] at h hsz
 cases h with
 | plain _ f h1 h2 h3 h4=>
  rw [←hsl] at h4 ⊢;exact refBlock_plain b p f last most v t s win w hr ht (by omega) hm h2 h3 h4
 | code _ l _ hc he=>
  have hx:=exp_sum he;have hl:=sum_long l
  have:=refBlock_code b p q K last l most v (tb t) win w hr (by rw [tb_length];omega) hw (by omega) (by omega) hc
  rw [blkV_eq rfl he,if_pos rfl,←hsl,list_bytes] at this;exact this
theorem Blk.far {T:List Bool} {win s:List UInt8} {p q K:Nat} {last:Bool} (h:Blk T win p last K s q):p+3≤q∧q≤T.length:=by
 cases h with
 | plain _ f h1 h2 h3 h4=>
  have:=h4.1
  rw [plB_length] at this ⊢;omega
 | code _ l _ hc he=>
  cases hc with
  | fixed _ hF hh=>
   have:=hh.1
   rw [List.length_append] at this;simp only [List.length_cons,List.length_nil] at this;omega
  | own N M k O Y _ hH hF hh=>
   have:=hh.1
   rw [List.length_append,List.length_append] at this;simp only [List.length_cons,List.length_nil] at this;omega
inductive Wh (T:List Bool) (win:List UInt8):Nat→List UInt8→List UInt8→Nat→Prop
 | last (p:Nat) (out s:List UInt8) (K q:Nat):Blk T (win++out) p true K s q→Wh T win p out (out++s) q
 | more (p:Nat) (out s tot:List UInt8) (K q q':Nat):Blk T (win++out) p false K s q→Wh T win q (out++s) tot q'→Wh T win p out tot q'
theorem Wh.long {T:List Bool} {win out tot:List UInt8} {p q:Nat} (h:Wh T win p out tot q):out.length≤tot.length:=by
 induction h with
 | last=>rw [List.length_append];omega
 | more p out s tot K q q' _ _ ih=>rw [List.length_append] at ih;omega
inductive Sg (T:List Bool) (win:List UInt8):Nat→List UInt8→Bool→List UInt8→Prop
 | done (out:List UInt8):Sg T win T.length out true out
 | more (p:Nat) (out s tot:List UInt8) (e:Bool) (K q:Nat):Blk T (win++out) p false K s q→Sg T win q (out++s) (decide (K=0)&&decide (s=[])) tot→Sg T win p out e tot
theorem Sg.long {T:List Bool} {win out tot:List UInt8} {p:Nat} {e:Bool} (h:Sg T win p out e tot):out.length≤tot.length:=by
 induction h with
 | done=>omega
 | more p out s tot e K q _ _ ih=>rw [List.length_append] at ih;omega
theorem below_row2 {n b:Nat} {w w1 w2:World} (h:Below n w w1) (hn:n≤w.heap.size) (hg:w1.grownBy w2 (some b)) (hb:n≤b):Below n w w2:=
 h.trans ⟨hg.os,hg.tape,hg.output,hg.size,fun i hi=>hg.block i (by have:=h.size;omega) (by simp;omega)⟩
theorem refWhole_any (win t tot:ByteArray) (most:Int) (q:Nat) (w:World) (hw:win.size≤1000000) (ht:t.size≤100000) (htot:tot.size≤1000000) (hm:(tot.size:Int)≤most) (hM:most≤1099511627776) (h:Wh (tb t) win.data.toList 0 [] tot.data.toList q) :
  Calls Tryz.prog 28 #[.string win,.string t,.int .i64 most] w fun r w'=>r=.returned (.tuple #[.string tot,.int .i64 (((q+7)/8:Nat):Int),.int .i64 0])∧Below w.heap.size w w':=by
 have B:=hid (And.intro hw (And.intro ht (And.intro htot (And.intro hm hM))));have HW:=hid h;have m1:most≤1099511627776:=hM;have m2:(0:Int)≤most:=by omega
 obtain ⟨Q,hQ0⟩:∃Q,(q+7)/8=Q:=⟨_,rfl⟩;rw [hQ0];have HQ:=hid hQ0;clear h hw ht htot hm hM hQ0
 go_enter Tryz.func28,Tryz.ntmps28
 go_wp2_with fail
 refine (all_any t w (by have:=B.out;omega)).mono ?_
 rintro r w1 ⟨u,rfl,hu,b1,fu⟩;obtain ⟨ua,uc,rfl,_⟩:=hu.shape;obtain ⟨N,hN⟩:∃N,(tb t).length=N:=⟨_,rfl⟩;rw [hN] at hu fu ⊢;have R2:Hid (RfAt (w1.alloc (.cells #[.slice ua N uc,.int .i64 0,.int .i64 0] 61)) w1.heap.size (.slice ua N uc) (tb t) 0 false):=hid ⟨heap_alloc_new _ _,hu.alloc _⟩;have B2:Hid (Below w.heap.size w (w1.alloc (.cells #[.slice ua N uc,.int .i64 0,.int .i64 0] 61))):=hid (b1.alloc b1.size _);have S2:=hid b1.size;have HN:=hid hN;clear hu b1 fu hN
 go_wp2_with fail
 generalize w1.alloc (.cells #[.slice ua N uc,.int .i64 0,.int .i64 0] 61)=w2 at *;generalize w1.heap.size=b at *;generalize Value.slice ua N uc=v at *
 go_loopw [10] (fun o wr=>∃(O:ByteArray) (p:Nat),o=.string O∧RfAt wr b v (tb t) p false∧Below w.heap.size w wr∧Wh (tb t) win.data.toList p O.data.toList tot.data.toList q) (fun _ wr=>N-posOf wr b)
 case atStart=>exact ⟨⟨#[]⟩,0,rfl,R2.out,B2.out,HW.out⟩
 case round=>
  obtain ⟨O,p,rfl,hr,hb,hwh⟩:=hrel;have hpos:=posOf_rf hr;rw [hpos];clear hpos R2 B2 HW;have hlen:=hwh.long;rw [size_list,size_list] at hlen;have eo:(win++O).data.toList=win.data.toList++O.data.toList:=by simp
  have HR:=hid hr;have HB:=hid hb;have wz:win.size≤1000000:=B.out.1;have oz:O.size≤1000000:=by have:=B.out;omega
  obtain ⟨mo,hmo⟩:∃mo,most-(O.size:Int)=mo:=⟨_,rfl⟩;clear hr hb;obtain ⟨TL,hTL⟩:∃TL,tot.data.toList=TL:=⟨_,rfl⟩;rw [hTL] at hwh
  cases hwh with
  | last _ _ s K _ hk=>
   obtain ⟨S,hS⟩:∃S:ByteArray,S.data.toList=s:=⟨⟨s.toArray⟩,by simp⟩
   have htot:O++S=tot:=by
    apply ByteArray.ext
    apply Array.ext'
    rw [ByteArray.data_append,Array.toList_append,hS,hTL]
   have hsz:O.size+S.size=tot.size:=by rw [←htot];simp
   rw [←hS] at hk;have hfar:=hk.far;rw [tb_length] at hfar;have CB:=hid (refBlock_any b p q K true S t (win++O) mo v wr HR.out B.out.2.1 (by have:=B.out;rw [ByteArray.size_append];unfold maxLen;omega) (by have:=B.out;omega) (by have:=B.out;omega) (by rw [eo];exact hk))
   have HTT:=hid htot;have pz:S.size≤1000000:=by have:=B.out;omega
   have SS:=S2.out;have hQ:=HQ.out;have q1:((q:Int)+7).tdiv 8=(Q:Int):=by rw [Int.tdiv_eq_ediv_of_nonneg (by omega)];omega
   have q2:(q:Int)≤8000000:=by have:=B.out;omega
   clear hS hTL hsz hk hfar htot hQ hlen eo HR B HN
   go_wp2_with fail
   refine CB.out.mono ?_;rintro r w3 ⟨rfl,r3,g3⟩;have HR3:=hid r3;have HB3:=hid (below_row2 HB.out (Nat.le_refl _) g3 SS);obtain ⟨_,z3,_⟩:=r3.cells;clear r3 g3 CB HB
   go_wp2_with fail
   go_quiet (fail)
   go_wp2_with fail
   go_ret3
   refine ⟨?_,HB3.out.trans ⟨rfl,rfl,rfl,Nat.le_refl _,fun _ _=>rfl⟩⟩
   show Ending.returned (.tuple #[.string (O++S),.int .i64 (wrap64 (Q:Int)),.int .i64 0])=_;rw [IntWalk.wrap64_in (Q:Int) (by have:=HQ.out;omega),HTT.out]
  | more _ _ s tt K q1 _ hk hwh'=>
   obtain ⟨S,hS⟩:∃S:ByteArray,S.data.toList=s:=⟨⟨s.toArray⟩,by simp⟩
   have hlo:=hwh'.long;rw [←hTL,List.length_append,size_list,size_list,←hS,size_list] at hlo;have hw2:Hid (Wh (tb t) win.data.toList q1 (O++S).data.toList tot.data.toList q):=hid (by rw [ByteArray.data_append,Array.toList_append,hS,hTL];exact hwh')
   rw [←hS] at hk;have hfar:=hk.far;have HFR:=hid (And.intro hfar HN.out);have CB:=hid (refBlock_any b p q1 K false S t (win++O) mo v wr HR.out B.out.2.1 (by have:=B.out;rw [ByteArray.size_append];unfold maxLen;omega) (by have:=B.out;omega) (by have:=B.out;omega) (by rw [eo];exact hk))
   have pz:S.size≤1000000:=by have:=B.out;omega
   have SS:=S2.out;clear hS hTL hk hfar hlen hlo eo HR B HN hwh'
   go_wp2_with fail
   refine CB.out.mono ?_;rintro r w3 ⟨rfl,r3,g3⟩;have HR3:=hid r3;have HB3:=hid (below_row2 HB.out (Nat.le_refl _) g3 SS);clear r3 g3 CB HB
   go_wp2_with fail
   refine ⟨⟨O++S,q1,rfl,HR3.out,HB3.out,hw2.out⟩,?_⟩;rw [posOf_rf HR3.out]
   have:=HFR.out
   omega
theorem refSegment_any (win t tot:ByteArray) (most:Int) (w:World) (hw:win.size≤1000000) (ht:t.size≤100000) (htot:tot.size≤1000000) (hm:(tot.size:Int)≤most) (hM:most≤1099511627776) (h:Sg (tb t) win.data.toList 0 [] false tot.data.toList) :
  Calls Tryz.prog 14 #[.string win,.string t,.int .i64 most] w fun r w'=>r=.returned (.tuple #[.string tot,.int .i64 0])∧Below w.heap.size w w':=by
 have B:=hid (And.intro hw (And.intro ht (And.intro htot (And.intro hm hM))));have HW:=hid h;have m1:most≤1099511627776:=hM;have m2:(0:Int)≤most:=by omega
 clear h hw ht htot hm hM
 go_enter Tryz.func14,Tryz.ntmps14
 go_wp2_with fail
 refine (all_any t w (by have:=B.out;omega)).mono ?_
 rintro r w1 ⟨u,rfl,hu,b1,fu⟩;obtain ⟨ua,uc,rfl,_⟩:=hu.shape;obtain ⟨N,hN⟩:∃N,(tb t).length=N:=⟨_,rfl⟩;rw [hN] at hu fu ⊢;have R2:Hid (RfAt (w1.alloc (.cells #[.slice ua N uc,.int .i64 0,.int .i64 0] 61)) w1.heap.size (.slice ua N uc) (tb t) 0 false):=hid ⟨heap_alloc_new _ _,hu.alloc _⟩;have B2:Hid (Below w.heap.size w (w1.alloc (.cells #[.slice ua N uc,.int .i64 0,.int .i64 0] 61))):=hid (b1.alloc b1.size _);have S2:=hid b1.size;have HN:=hid hN;clear hu b1 fu hN
 go_wp2_with fail
 generalize w1.alloc (.cells #[.slice ua N uc,.int .i64 0,.int .i64 0] 61)=w2 at *;generalize w1.heap.size=b at *
 go_loopw [9,10] (fun o em wr=>∃(O:ByteArray) (p:Nat) (e:Bool),o=.string O∧em=.bool e∧RfAt wr b (.slice ua N uc) (tb t) p false∧Below w.heap.size w wr∧Sg (tb t) win.data.toList p O.data.toList e tot.data.toList) (fun _ _ wr=>N-posOf wr b)
 case atStart=>exact ⟨⟨#[]⟩,0,false,rfl,rfl,R2.out,B2.out,HW.out⟩
 case round=>
  obtain ⟨O,p,e,rfl,rfl,hr,hb,hsg⟩:=hrel;have hpos:=posOf_rf hr;rw [hpos];clear hpos R2 B2 HW;have hlen:=hsg.long;rw [size_list,size_list] at hlen;have eo:(win++O).data.toList=win.data.toList++O.data.toList:=by simp
  have HR:=hid (fun n=>hr.draws n:∀n,RfAt (wr.drewN n) b (.slice ua N uc) (tb t) p false)
  have HB:=hid hb;obtain ⟨z0,z1,_⟩:=hr.cells;have wz:win.size≤1000000:=B.out.1;have oz:O.size≤1000000:=by have:=B.out;omega
  obtain ⟨mo,hmo⟩:∃mo,most-(O.size:Int)=mo:=⟨_,rfl⟩;clear hr hb;obtain ⟨TL,hTL⟩:∃TL,tot.data.toList=TL:=⟨_,rfl⟩;rw [hTL] at hsg
  cases hsg with
  | done _=>
   have htot:O=tot:=by
    apply ByteArray.ext
    apply Array.ext'
    rw [hTL]
   subst htot;have hpN:(tb t).length=N:=HN.out;rw [hpN] at z1 HR ⊢;have hlt:¬((N:Int)<(N:Int)):=by omega
   clear hTL hlen eo HN hpN
   go_wp2_with fail
   go_quiet (fail)
   go_wp2_with fail
   go_ret2;exact ⟨rfl,HB.out.trans ⟨rfl,rfl,rfl,Nat.le_refl _,fun _ _=>rfl⟩⟩
  | more _ _ s tt _ K q1 hk hsg'=>
   obtain ⟨S,hS⟩:∃S:ByteArray,S.data.toList=s:=⟨⟨s.toArray⟩,by simp⟩
   have hlo:=hsg'.long;rw [←hTL,List.length_append,size_list,size_list,←hS,size_list] at hlo;obtain ⟨E,hE⟩:∃E,(decide (K=0)&&decide (s=[]))=E:=⟨_,rfl⟩;have hw2:Hid (Sg (tb t) win.data.toList q1 (O++S).data.toList E tot.data.toList):=hid (by rw [ByteArray.data_append,Array.toList_append,hS,hTL,←hE];exact hsg')
   rw [←hS] at hk;have hfar:=hk.far;have HFR:=hid (And.intro hfar HN.out);have CB:=hid (fun w3 (h3:RfAt w3 b (.slice ua N uc) (tb t) p false)=>refBlock_any b p q1 K false S t (win++O) mo (.slice ua N uc) w3 h3 B.out.2.1 (by have:=B.out;rw [ByteArray.size_append];unfold maxLen;omega) (by have:=B.out;omega) (by have:=B.out;omega) (by rw [eo];exact hk))
   have pz:S.size≤1000000:=by have:=B.out;omega
   have SS:=S2.out;have hlt:(p:Int)<(N:Int):=by have:=HFR.out;omega
   have heq:S.toList.isEmpty=decide (s=[]):=by
    rw [Go.ByteArray.toList_eq,hS]
    cases s <;> rfl
   have HEQ:=hid heq;obtain ⟨se,hse⟩:∃se,decide (s=[])=se:=⟨_,rfl⟩;rw [hse] at HEQ hE;have HE:=hid hE;clear heq hse hE;clear hS hTL hk hfar hlen hlo eo B HN hsg'
   go_wp2_with fail
   go_quiet (fail)
   have HB2:Hid (Below w.heap.size w (wr.drewN nq)):=hid (HB.out.trans ⟨rfl,rfl,rfl,Nat.le_refl _,fun _ _=>rfl⟩)
   have HR2:=hid (HR.out nq);clear z0 z1 HB HR;generalize wr.drewN nq=w5 at *
   go_wp2_with fail
   refine (CB.out w5 HR2.out).mono ?_;rintro r w3 ⟨rfl,r3,g3⟩;have HR3:=hid r3;have HB3:=hid (below_row2 HB2.out (Nat.le_refl _) g3 SS);clear r3 g3 CB HB2 HR2;rcases Nat.eq_zero_or_pos K with hK | hK
   ·subst hK;have hE':se=E:=by have:=HE.out;simpa using this
    have HE':=hid hE';clear hE'
    go_wp2_with fail
    refine ⟨⟨O++S,q1,E,rfl,by rw [HEQ.out,HE'.out],HR3.out,HB3.out,hw2.out⟩,?_⟩
    rw [posOf_rf HR3.out]
    have:=HFR.out
    omega
   ·have hE':E=false:=by rw [←HE.out,decide_eq_false (by omega)];rfl
    have HE':=hid hE';have hk0:((K:Int)==0)=false:=by simp;omega
    clear hE'
    go_wp2_with fail
    refine ⟨⟨O++S,q1,E,rfl,by rw [HE'.out],HR3.out,HB3.out,hw2.out⟩,?_⟩
    rw [posOf_rf HR3.out]
    have:=HFR.out
    omega
end Go.Proofs.YthbjllabgpaaaaaGreat.Def
