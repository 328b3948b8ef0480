/-
  Contracts of inflate's lengths and Header.
-/
import Derived.Test.YthbjllabgpaaaaaGreatInfHdr
namespace Go.Proofs.YthbjllabgpaaaaaGreat.Inf
open Go.Lib (hid)
set_option maxHeartbeats 16000000
open Go.ChangeShapes Go.WideShapes Go.ChangeAt Go.RowKit
open Go.Proofs.YthbjllabgpaaaaaGreat.Huf (IsInts cellsN cellsN_length cellsN_append cellsN_one DecAt fst used symsOf fine nats next_any nxG info_int info_parts)
open Go.Proofs.YthbjllabgpaaaaaGreat.Bit (RdAt tb tb_length rV rI rOk rerr_any errI rgrown_trans From Near lenOf wpList_append_near row_ne)
open Go.Proofs.YthbjllabgpaaaaaGreat.Sym
open Go.Proofs.YthbjllabgpaaaaaGreat.Def
set_option linter.unusedVariables false
set_option maxRecDepth 100000
structure Ln (w:World) (b:Nat) (t:ByteArray) (wr:World) (j:Nat) (bad:Bool) (u:Value) (l:List Nat):Prop where
 row:wr.ownsRow 0 3 1 u l.length (cellsN l)
 far:From w.heap.size u
 old:b<w.heap.size
 rd:RdAt 107 wr b t j bad
 gr:w.grownBy wr (some b)
theorem Ln.ne {w wr:World} {b j:Nat} {t:ByteArray} {bad:Bool} {u:Value} {l:List Nat} (h:Ln w b t wr j bad u l):u.ownBlock≠some b:=fun e=>by
 have:=h.far b e
 have:=h.old
 omega
theorem Ln.call {w wr w':World} {b j j':Nat} {t:ByteArray} {bad bad':Bool} {u:Value} {l:List Nat} (h:Ln w b t wr j bad u l) (hr:RdAt 107 w' b t j' bad') (hg:wr.grownBy w' (some b)):Ln w b t w' j' bad' u l:=
 ⟨rowK h.row fun k hk=>hg.block k (World.ownsRow.lt h.row k hk).2 (fun e=>h.ne (by rw [hk,e])),h.far,h.old,hr,rgrown_trans h.gr hg⟩
theorem Ln.form {w wr:World} {b j:Nat} {t:ByteArray} {bad:Bool} {u:Value} {l:List Nat} (h:Ln w b t wr j bad u l):∃a cap,u=.slice a l.length cap:=by
 rcases h.row.2 with ⟨rfl,h1⟩ | ⟨g,cap,cur,rfl,_⟩
 ·exact ⟨none,0,by rw [h1]⟩
 ·exact ⟨_,_,rfl⟩
theorem Ln.app {w wr w1:World} {b j m V:Nat} {t:ByteArray} {bad:Bool} {u u':Value} {l:List Nat} (h:Ln w b t wr j bad u l)
  (ho:w1.ownsRow 0 3 1 u' (l.length+m) (cellsN l++cellsN (List.replicate m V))) (hg:wr.grownBy w1 u.ownBlock) (hn:Near wr u u'):Ln w b t w1 j bad u' (l++List.replicate m V):=by
 refine ⟨?_,h.far.near hn h.gr.size,h.old,h.rd.kept hg (fun e=>h.ne e.symm),?_⟩
 ·rw [cellsN_append,List.length_append,List.length_replicate];exact ho
 ·refine ⟨hg.os.trans h.gr.os,hg.tape.trans h.gr.tape,hg.output.trans h.gr.output,Nat.le_trans h.gr.size hg.size,fun i hi hr=>(hg.block i (Nat.lt_of_lt_of_le hi h.gr.size) (fun e=>?_)).trans (h.gr.block i hi hr)⟩
  have:=h.far i e.symm
  omega
theorem new_cells {w:World} {g m V:Nat} (h:NewAt w g m V):∀j u,(cellsN (List.replicate m V))[j]?=some u→w.cell? ((⟨g,0,none⟩:Addr).add j)=some u:=by
 intro j u hj;rw [show cellsN (List.replicate m V)=List.replicate m (Value.int .i64 (V:Nat)) by simp [cellsN],List.getElem?_replicate] at hj
 by_cases hjm:j<m
 ·rw [if_pos hjm] at hj;rw [Go.WideShapes.add_plain,Nat.zero_add,h j hjm];exact hj
 ·rw [if_neg hjm] at hj;cases hj
theorem lens_over {O:List Nat} {T:List Bool} {many f p:Nat} {l:List Nat} (h:many<l.length):lensG O T many f p l=([],80,p,false):=by
 cases f with
 | zero=>rfl
 | succ f=>exact lens_many h
theorem lengths_any (D b p many:Nat) (S:Nat→Value) (O:List Nat) (t:ByteArray) (w:World) (hD:DecAt w D S (fst O) (used O 15) (symsOf O 19)) (hO:O.length=19) (hU:used O 15≤32768) (h:RdAt 107 w b t p false) (hp:p≤(tb t).length) (ht:t.size≤1000000) (hm:many≤400) :
  Calls Tryz.prog 135 #[.pointer (some ⟨b,0,none⟩),.pointer (some ⟨D,0,none⟩),.int .i64 (many:Nat)] w fun r w'=>∃v,
   r=.returned (.tuple #[v,.int .i64 (lensG O (tb t) many (many+1) p []).2.1])∧w'.ownsRow 0 3 1 v (lensG O (tb t) many (many+1) p []).1.length (cellsN (lensG O (tb t) many (many+1) p []).1) ∧
   RdAt 107 w' b t (lensG O (tb t) many (many+1) p []).2.2.1 (lensG O (tb t) many (many+1) p []).2.2.2∧w.grownBy w' (some b):=by
 obtain ⟨t0,hi0,hz0,hz1,hz2⟩:=info_parts info_int;have H:=hid h;have HD:=hid hD;have HB:=hid (And.intro hO (And.intro hU (And.intro ht hp)));have hbw:=rd_lt h;obtain ⟨⟨rl,re,rj,rb⟩,hres⟩:∃res,lensG O (tb t) many (many+1) p []=res:=⟨_,rfl⟩;rw [hres];have HRES:=hid hres;have hmm:(many:Int)≤400:=by omega
 have HM:=hid hm;clear h hD hO hU hp ht hres hm;simp only
 go_enter Tryz.func135,Tryz.ntmps135
 go_wp2_with fail
 go_loopw [8] (fun v wr=>∃(l:List Nat) (f q:Nat),Ln w b t wr q false v l∧lensG O (tb t) many f q l=(rl,re,rj,rb)∧many<f+l.length∧q≤(tb t).length∧l.length≤600∧lenOf v=l.length) (fun v _=>many-lenOf v)
 case atStart=>exact ⟨[],many+1,p,⟨World.ownsRow_nil _ _ _ _,From.nil _,hbw,H.out,World.grownBy.refl _ _⟩,HRES.out,by simp,HB.out.2.2.2,by simp,rfl⟩
 case round=>
  obtain ⟨l,f,q,hl,hres,hf,hq,hl6,hlen⟩:=hrel;obtain ⟨va,vc,rfl⟩:=hl.form;obtain ⟨n,hn⟩:∃n,l.length=n:=⟨_,rfl⟩;have HN:=hid hn;have hd:=HD.out.grown hl.gr H.out (by decide) (by decide)
  have hln:lenOf (.slice va n vc)=n:=rfl;rw [hn] at hlen hf hl6 hl ⊢;have HL:=hid hl;clear hl HRES;have nb:(n:Int)≤600:=by omega
  by_cases hlt:n<many
  ·obtain ⟨f,rfl⟩:∃f',f=f'+1:=⟨f-1,by omega⟩
   ·have hlt':(n:Int)<(many:Int):=by omega
    have HLT:=hid (And.intro hlt (And.intro hf hl6));have hd':DecAt wr D S (fst O) (used O 15) (symsOf O O.length):=by rw [HB.out.1];exact hd
    have CX:=hid (next_any D S O b t q false wr hd' HL.out.rd hq HB.out.2.2.1 (by have:=HB.out.1;omega) HB.out.2.1)
    have x1:=nx_ok O (tb t) q 15 0 0 (by omega)
    have x3:=nx_lt (N:=O) (by have:=HB.out.1;omega) (tb t) q false 15 0 0
    rw [HB.out.1] at x3;obtain ⟨⟨xs,xe,xj,xb'⟩,hgx⟩:∃x,nxG O (tb t) q false 15 0 0=x:=⟨_,rfl⟩;rw [hgx] at x1 x3 CX;simp only at x1 x3 CX;have HGX:=hid hgx;have HR:=hid hres;have X1:=hid (And.intro x1 x3);clear hgx hres hd hd' hlt hf hl6 hlen hln hq x1 x3 hn
    go_wp2_with fail
    refine CX.out.mono ?_;rintro r w3 ⟨rfl,r3,g3⟩;have L3:=hid (HL.out.call r3 g3);clear r3 g3 CX HL
    by_cases h0:xe=0
    ·subst h0;obtain ⟨rfl,_,hxj⟩:=X1.out.1 rfl;have hx19:=X1.out.2;have HXJ:=hid (And.intro hxj hx19);clear X1 hxj
     by_cases hag:xs=16∧n=0
     ·obtain ⟨rfl,rfl⟩:=hag;have hnil:l=[]:=List.eq_nil_of_length_eq_zero HN.out;have e:=HR.out;rw [lens_again (by have:=HLT.out.1;rw [HN.out];exact this) HGX.out hnil] at e
      simp only [Prod.mk.injEq] at e;obtain ⟨rfl,rfl,rfl,rfl⟩:=e;rw [show ((16:Nat):Int)=16 from rfl]
      clear HR HLT hnil hx19
      go_wp2_with fail
      go_ret2;exact ⟨_,rfl,World.ownsRow_nil _ _ _ _,L3.out.rd,L3.out.gr⟩
     ·have h16:xs=16→l≠[]:=fun h1 h2=>hag ⟨h1,by rw [←HN.out,h2];rfl⟩
      obtain ⟨V,hV⟩:∃V,valN l xs=V:=⟨_,rfl⟩;have ROW:=L3.out.row;have NE:=L3.out.ne;have LL:=L3.out;rw [←HN.out] at LL;have CS:=several_any b xs xj t l va vc w3 LL.rd HXJ.out.1 HB.out.2.2.1 hx19 LL.row LL.ne h16 (by have:=HLT.out.2.2;have:=HN.out;omega)
      obtain ⟨x,hx⟩:∃x,rV (tb t) xj false (xb xs)=x:=⟨_,rfl⟩;obtain ⟨m,hm⟩:∃m,times xs x=m:=⟨_,rfl⟩;obtain ⟨ok,hok⟩:∃ok,rOk (tb t) xj false (xb xs)=ok:=⟨_,rfl⟩;obtain ⟨xk,hxk⟩:∃xk,rI (tb t) xj false (xb xs)=xk:=⟨_,rfl⟩;rw [hx,hm,hV,hok,hxk,HN.out] at CS;have CS':=hid CS
      have hm150:m≤150∧1≤m:=by
       rw [←hm];refine ⟨?_,times_pos _ _⟩;have h1:=rV_lt (tb t) xj false (xb xs);rw [hx] at h1
       have h2:xb xs≤7:=by
        unfold xb;split;· omega
        split;· omega
        split <;> omega
       have h3:(2:Nat)^xb xs≤2^7:=Nat.pow_le_pow_right (by decide) h2
       unfold times
       split;· omega
       split <;> omega
      have XS:=hid (And.intro hx (And.intro hm (And.intro hok (And.intro hxk hV))));have HMM:=hid hm150;have H16:=hid (And.intro h16 hag);have hml:(n:Int)+(m:Int)≤600:=by have:=HLT.out.1;have:=HM.out;omega
      have hbool:((xs:Int)==16&&(n:Int)==0)=false:=by
       by_cases h1:xs=16
       ·have h2:n≠0:=fun h=>hag ⟨h1,h⟩
        simp;intro;omega
       ·simp;intro h;omega
      clear hx hm hok hxk hV CS hm150 h16 hag ROW NE LL
      by_cases hs:xs=16
      ·have hn0:((n:Int)==0)=false:=by have:=H16.out.2;simp;omega
       subst hs;rw [show ((16:Nat):Int)=16 from rfl]
       go_wp2_with fail
       refine CS'.out.mono ?_;rintro r w4 ⟨g,c,rfl,na,hg,r4,g4⟩;have L4:=hid (L3.out.call r4 g4);have NA:=hid na;have ROW:Hid (w4.ownsRow 0 3 1 (.slice va n vc) n (cellsN l)):=hid (by have:=L4.out.row;rw [HN.out] at this;exact this)
       clear r4 g4 na CS' L3 hg
       go_wp2_with (at_builtin;refine wpList_append_near _ rfl _ _ 92 rfl 3 t0 (.int .i64 0) 1 8 Tryz.underlying92 hi0 hz0 hz1 hz2 rfl (by decide) (.slice va n vc) n (cellsN l) rfl ROW.out ⟨g,0,none⟩ m c (cellsN (List.replicate m V)) rfl (by simp [cellsN]) (new_cells NA.out) (cellsN_one _) (by unfold maxLen;omega) (by omega) ?_;intro v5 w5 o5 g5 n5;have L5:=hid (L4.out.app (by rw [HN.out];exact o5) g5 n5);clear o5 g5 n5)
       have CE:=hid (rerr_any b t xk (!ok) w5 L5.out.rd)
       cases ok with
       | false=>
        have e:=HR.out;rw [lens_short (by rw [HN.out];exact HLT.out.1) HGX.out (fun h=>H16.out.1 (by first | exact h | trivial)) XS.out.2.2.1,XS.out.2.2.2.1] at e
        simp only [Prod.mk.injEq] at e;obtain ⟨rfl,rfl,rfl,rfl⟩:=e;clear HR
        go_wp2_with fail
        refine CE.out.mono ?_;rintro r w6 ⟨rfl,rfl⟩;rw [show errI (!false)=2 from rfl]
        clear CE
        go_wp2_with fail
        go_ret2;exact ⟨_,rfl,World.ownsRow_nil _ _ _ _,L5.out.rd,L5.out.gr⟩
       | true=>
        have e:=HR.out;have e2:=XS.out;rw [lens_next (by rw [HN.out];exact HLT.out.1) HGX.out (fun h=>H16.out.1 (by first | exact h | trivial)) e2.2.2.1,e2.2.2.2.1,e2.1] at e
        unfold grow at e;simp only at e;rw [e2.2.1,e2.2.2.2.2] at e;have HR2:=hid e;clear HR e e2
        go_wp2_with fail
        refine CE.out.mono ?_;rintro r w6 ⟨rfl,rfl⟩;rw [show errI (!true)=0 from rfl]
        clear CE
        go_wp2_with fail
        obtain ⟨a5,c5,e5⟩:=L5.out.form;have hl5:(l++List.replicate m V).length=n+m:=by rw [List.length_append,List.length_replicate,HN.out]
        have hxk:xk≤(tb t).length:=by rw [←XS.out.2.2.2.1];exact Bit.rI_le HXJ.out.1
        refine ⟨⟨l++List.replicate m V,f,xk,L5.out,HR2.out,?_,hxk,?_,?_⟩,?_⟩
        ·have:=HLT.out;have:=HMM.out;rw [hl5];omega
        ·have:=HLT.out;have:=HMM.out;have:=HM.out;rw [hl5];omega
        ·rw [e5];rfl
        ·rw [e5];show many-(l++List.replicate m V).length<many-n
         have:=HLT.out;have:=HMM.out;rw [hl5];omega
      ·have hs16:((xs:Int)==16)=false:=by simp;omega
       go_wp2_with fail
       refine CS'.out.mono ?_;rintro r w4 ⟨g,c,rfl,na,hg,r4,g4⟩;have L4:=hid (L3.out.call r4 g4);have NA:=hid na;have ROW:Hid (w4.ownsRow 0 3 1 (.slice va n vc) n (cellsN l)):=hid (by have:=L4.out.row;rw [HN.out] at this;exact this)
       clear r4 g4 na CS' L3 hg
       go_wp2_with (at_builtin;refine wpList_append_near _ rfl _ _ 92 rfl 3 t0 (.int .i64 0) 1 8 Tryz.underlying92 hi0 hz0 hz1 hz2 rfl (by decide) (.slice va n vc) n (cellsN l) rfl ROW.out ⟨g,0,none⟩ m c (cellsN (List.replicate m V)) rfl (by simp [cellsN]) (new_cells NA.out) (cellsN_one _) (by unfold maxLen;omega) (by omega) ?_;intro v5 w5 o5 g5 n5;have L5:=hid (L4.out.app (by rw [HN.out];exact o5) g5 n5);clear o5 g5 n5)
       have CE:=hid (rerr_any b t xk (!ok) w5 L5.out.rd)
       cases ok with
       | false=>
        have e:=HR.out;rw [lens_short (by rw [HN.out];exact HLT.out.1) HGX.out (fun h=>H16.out.1 (by first | exact h | trivial)) XS.out.2.2.1,XS.out.2.2.2.1] at e
        simp only [Prod.mk.injEq] at e;obtain ⟨rfl,rfl,rfl,rfl⟩:=e;clear HR
        go_wp2_with fail
        refine CE.out.mono ?_;rintro r w6 ⟨rfl,rfl⟩;rw [show errI (!false)=2 from rfl]
        clear CE
        go_wp2_with fail
        go_ret2;exact ⟨_,rfl,World.ownsRow_nil _ _ _ _,L5.out.rd,L5.out.gr⟩
       | true=>
        have e:=HR.out;have e2:=XS.out;rw [lens_next (by rw [HN.out];exact HLT.out.1) HGX.out (fun h=>H16.out.1 (by first | exact h | trivial)) e2.2.2.1,e2.2.2.2.1,e2.1] at e
        unfold grow at e;simp only at e;rw [e2.2.1,e2.2.2.2.2] at e;have HR2:=hid e;clear HR e e2
        go_wp2_with fail
        refine CE.out.mono ?_;rintro r w6 ⟨rfl,rfl⟩;rw [show errI (!true)=0 from rfl]
        clear CE
        go_wp2_with fail
        obtain ⟨a5,c5,e5⟩:=L5.out.form;have hl5:(l++List.replicate m V).length=n+m:=by rw [List.length_append,List.length_replicate,HN.out]
        have hxk:xk≤(tb t).length:=by rw [←XS.out.2.2.2.1];exact Bit.rI_le HXJ.out.1
        refine ⟨⟨l++List.replicate m V,f,xk,L5.out,HR2.out,?_,hxk,?_,?_⟩,?_⟩
        ·have:=HLT.out;have:=HMM.out;rw [hl5];omega
        ·have:=HLT.out;have:=HMM.out;have:=HM.out;rw [hl5];omega
        ·rw [e5];rfl
        ·rw [e5];show many-(l++List.replicate m V).length<many-n
         have:=HLT.out;have:=HMM.out;rw [hl5];omega
    ·have e:=HR.out;rw [lens_sym (by rw [HN.out];exact HLT.out.1) HGX.out h0] at e
     simp only [Prod.mk.injEq] at e;obtain ⟨rfl,rfl,rfl,rfl⟩:=e;have hne:(xe != 0)=true:=by simpa using h0
     clear HR X1 HLT
     go_wp2_with fail
     refine (told_any xe w3).mono ?_;rintro r w4 ⟨rfl,rfl⟩
     go_wp2_with fail
     go_ret2;exact ⟨_,rfl,World.ownsRow_nil _ _ _ _,L3.out.rd,L3.out.gr⟩
  ·have hlt':¬((n:Int)<(many:Int)):=by omega
   by_cases heq:n=many
   ·obtain ⟨f,rfl⟩:∃f',f=f'+1:=⟨f-1,by omega⟩
    subst heq;rw [lens_done HN.out] at hres;simp only [Prod.mk.injEq] at hres;obtain ⟨rfl,rfl,rfl,rfl⟩:=hres;clear hd hlt hf hl6 hlen hln hq hn
    go_wp2_with fail
    go_ret2;exact ⟨_,rfl,HL.out.row,HL.out.rd,HL.out.gr⟩
   ·rw [lens_over (by omega:many<l.length)] at hres
    simp only [Prod.mk.injEq] at hres;obtain ⟨rfl,rfl,rfl,rfl⟩:=hres;have hgt:(many:Int)<(n:Int):=by omega
    clear hd hlt hf hl6 hlen hln hq hn heq
    go_wp2_with fail
    go_ret2;exact ⟨_,rfl,World.ownsRow_nil _ _ _ _,HL.out.rd,HL.out.gr⟩
end Go.Proofs.YthbjllabgpaaaaaGreat.Inf
