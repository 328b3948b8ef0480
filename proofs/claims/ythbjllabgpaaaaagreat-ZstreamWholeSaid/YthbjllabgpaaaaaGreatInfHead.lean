/-
  Contract of inflate's Header.
-/
import Derived.Test.YthbjllabgpaaaaaGreatInfLen
import Derived.Deep.DeepCutAuto
namespace Go.Proofs.YthbjllabgpaaaaaGreat.Inf
open Go.Lib (hid)
set_option maxHeartbeats 8000000
open Go.ChangeShapes Go.WideShapes Go.ChangeAt Go.RowKit
open Go.Proofs.YthbjllabgpaaaaaGreat.Huf (IsInts cellsN cellsN_length cellsN_append DecAt fst used symsOf fine nats fine_parts)
open Go.Proofs.YthbjllabgpaaaaaGreat.Bit (RdAt tb tb_length rV rI rOk rerr_any errI rgrown_trans rgrown_drewN)
open Go.Proofs.YthbjllabgpaaaaaGreat.Sym
open Go.Proofs.YthbjllabgpaaaaaGreat.Def
set_option linter.unusedVariables false
set_option maxRecDepth 100000
set_option linter.unusedSimpArgs false
theorem nil_ints (w:World):IsInts w none (ints []):=fun h=>by simp [ints] at h
def HdrPost (w:World) (b:Nat) (t:ByteArray) (x:List Nat×List Nat×Int×Nat×Bool) (r:Ending) (w':World):Prop:=
 ∃a1 c1 a2 c2,r=.returned (.tuple #[.slice a1 x.1.length c1,.slice a2 x.2.1.length c2,.int .i64 x.2.2.1])∧IsInts w' a1 (ints x.1)∧IsInts w' a2 (ints x.2.1)∧RdAt 107 w' b t x.2.2.2.1 x.2.2.2.2∧w.grownBy w' (some b)
theorem HdrPost.nil {w w':World} {b q:Nat} {t:ByteArray} {e:Int} {bad:Bool} (h:RdAt 107 w' b t q bad) (hg:w.grownBy w' (some b)):HdrPost w b t ([],[],e,q,bad) (.returned (.tuple #[.slice none 0 0,.slice none 0 0,.int .i64 e])) w':=
 ⟨none,0,none,0,rfl,nil_ints _,nil_ints _,h,hg⟩
theorem run_low3 (W:World) (g t cap n:Nat) (h:n≤t) (h3:t≤cap) (h0:0<n) :
  (Instr.slice 92 (.slice (some ⟨g,0,none⟩) t cap) none (some (.int .i64 (n:Int))) (some (.int .i64 (n:Int)))).run Tryz.prog W=.ok (.slice (some ⟨g,0,none⟩) n n) W:=by
 have h1:(n:Int)≤cap:=by omega
 have hb:=run_sliceBound (P:=Tryz.prog) (w:=W) .i64 (n:Int) cap .slice3Acap (by omega) h1
 have hb2:=run_sliceBound (P:=Tryz.prog) (w:=W) .i64 (n:Int) n .slice3B (by omega) (by omega)
 have h2:¬(n=0):=by omega
 simp [Instr.slice,run_underlying Tryz.underlying92,Instr.sliceBounds,run_sliceBound,h1,hb,hb2,Addr.add,h2]
theorem run_high3 (W:World) (g t cap n:Nat) (h:n<t) (h3:t≤cap) :
  (Instr.slice 92 (.slice (some ⟨g,0,none⟩) t cap) (some (.int .i64 (n:Int))) (some (.int .i64 (t:Int))) (some (.int .i64 (t:Int)))).run Tryz.prog W=.ok (.slice (some ⟨g,n,none⟩) (t-n) (t-n)) W:=by
 have h1:(t:Int)≤cap:=by omega
 have hb:=run_sliceBound (P:=Tryz.prog) (w:=W) .i64 (t:Int) cap .slice3Acap (by omega) h1
 have hb2:=run_sliceBound (P:=Tryz.prog) (w:=W) .i64 (t:Int) t .slice3B (by omega) (by omega)
 have hb3:=run_sliceBound (P:=Tryz.prog) (w:=W) .i64 (n:Int) t .slice3C (by omega) (by omega)
 have h2:¬(t=n):=by omega
 simp [Instr.slice,run_underlying Tryz.underlying92,Instr.sliceBounds,hb,hb2,hb3,Addr.add,h2];exact fun e=>e.symm
theorem header_any (b p:Nat) (t:ByteArray) (w:World) (h:RdAt 107 w b t p false) (hp:p≤(tb t).length) (ht:t.size≤1000000) :
  Calls Tryz.prog 116 #[.pointer (some ⟨b,0,none⟩)] w fun r w'=>HdrPost w b t (hdrG (tb t) p) r w':=by
 have C1:=bits_any (k:=5) (by omega) b t p false w h hp ht
 have k1:=rV_lt (tb t) p false 5;have l1:rI (tb t) p false 5≤(tb t).length:=Bit.rI_le hp;obtain ⟨A0,hA⟩:∃A0,rV (tb t) p false 5=A0:=⟨_,rfl⟩;obtain ⟨i1,hi1⟩:∃i1,rI (tb t) p false 5=i1:=⟨_,rfl⟩;obtain ⟨b1,hb1⟩:∃b1,(!rOk (tb t) p false 5)=b1:=⟨_,rfl⟩;rw [hA,hi1,hb1] at C1;rw [hA] at k1;rw [hi1] at l1;have C2:=fun w1 h1=>bits_any (k:=5) (by omega) b t i1 b1 w1 h1 l1 ht
 have k2:=rV_lt (tb t) i1 b1 5;have l2:rI (tb t) i1 b1 5≤(tb t).length:=Bit.rI_le l1;obtain ⟨B0,hB⟩:∃A0,rV (tb t) i1 b1 5=A0:=⟨_,rfl⟩;obtain ⟨i2,hi2⟩:∃i1',rI (tb t) i1 b1 5=i1':=⟨_,rfl⟩;obtain ⟨b2,hb2⟩:∃b1',(!rOk (tb t) i1 b1 5)=b1':=⟨_,rfl⟩;rw [hB,hi2,hb2] at C2;rw [hB] at k2;rw [hi2] at l2;have C3:=fun w1 h1=>bits_any (k:=4) (by omega) b t i2 b2 w1 h1 l2 ht
 have k3:=rV_lt (tb t) i2 b2 4;have l3:rI (tb t) i2 b2 4≤(tb t).length:=Bit.rI_le l2;obtain ⟨K0,hK⟩:∃A0,rV (tb t) i2 b2 4=A0:=⟨_,rfl⟩;obtain ⟨i3,hi3⟩:∃i1',rI (tb t) i2 b2 4=i1':=⟨_,rfl⟩;obtain ⟨b3,hb3⟩:∃b1',(!rOk (tb t) i2 b2 4)=b1':=⟨_,rfl⟩;rw [hK,hi3,hb3] at C3;rw [hK] at k3;rw [hi3] at l3
 have EH:hdrG (tb t) p=if b3=true then ([],[],2,i3,true) else hdrC (tb t) i3 (A0+257) (B0+1) (K0+4):=by
  simp only [hdrG,hi1,hb1,hi2,hb2,hi3,hb3,hA,hB,hK]
 have k1':A0<32:=k1;have k2':B0<32:=k2;have k3':K0<16:=k3;clear k1 k2 k3 l1 l2 hA hi1 hb1 hB hi2 hb2 hK hi3 hb3 hp h;obtain ⟨A,eA⟩:∃A,A0+257=A:=⟨_,rfl⟩;obtain ⟨B,eB⟩:∃A,B0+1=A:=⟨_,rfl⟩;obtain ⟨K,eK⟩:∃A,K0+4=A:=⟨_,rfl⟩;rw [eA,eB,eK] at EH;have s1:(A0:Int)+257=(A:Int):=by omega
 have s2:(B0:Int)+1=(B:Int):=by omega
 have s3:(K0:Int)+4=(K:Int):=by omega
 have C1':=hid C1;have C2':=hid C2;have C3':=hid C3;have HT:=hid (And.intro ht (And.intro l3 (And.intro (show 4≤K∧K≤19 by omega) (show A≤288∧B≤32 by omega))))
 have EH':=hid EH;have n1:(A0:Int)<32:=by omega
 have n2:(B0:Int)<32:=by omega
 have n3:(K0:Int)<16:=by omega
 clear C1 C2 C3 ht l3 EH eA eB eK k1' k2' k3'
 go_enter Tryz.func116,Tryz.ntmps116
 go_wp2_with fail
 refine C1'.out.mono ?_;rintro r w1 ⟨rfl,r1,g1⟩;have C2w:=hid (C2'.out w1 r1);have G1:=hid g1;clear r1 g1 C1' C2'
 go_wp2_with fail
 refine C2w.out.mono ?_;rintro r w2 ⟨rfl,r2,g2⟩;have C3w:=hid (C3'.out w2 r2);have G2:=hid (rgrown_trans G1.out g2);clear r2 g2 C2w C3' G1
 go_wp2_with fail
 refine C3w.out.mono ?_;rintro r w3 ⟨rfl,r3,g3⟩;have R3:=hid r3;have G3:=hid (rgrown_trans G2.out g3);have CE:=hid (rerr_any b t i3 b3 w3 r3);clear r3 g3 C3w G2
 go_wp2_with fail
 refine CE.out.mono ?_;rintro r w4 ⟨rfl,rfl⟩;clear CE
 cases b3 with
 | true=>
  have e:hdrG (tb t) p=([],[],2,i3,true):=EH'.out;have E:=hid e;rw [show errI true=2 from rfl]
  clear e EH'
  go_wp2_with fail
  go_ret3
  rw [E.out];exact .nil R3.out G3.out
 | false=>
  have e:hdrG (tb t) p=hdrC (tb t) i3 A B K:=EH'.out;have E:=hid e;rw [show errI false=0 from rfl]
  clear e EH'
  by_cases h1:286<A
  ·have E2:Hid (hdrC (tb t) i3 A B K=([],[],80,i3,false)):=hid (by unfold hdrC;rw [if_pos (.inl h1)])
   have h1':(286:Int)<(A:Int):=by omega
   have d1:decide ((286:Int)<(A:Int))=true:=by simp;omega
   clear h1
   go_wp2_with fail
   go_ret3
   rw [E.out,E2.out];exact .nil R3.out G3.out
  ·by_cases h2:30<B
   ·have E2:Hid (hdrC (tb t) i3 A B K=([],[],80,i3,false)):=hid (by unfold hdrC;rw [if_pos (.inr h2)])
    have h1':¬((286:Int)<(A:Int)):=by omega
    have h2':(30:Int)<(B:Int):=by omega
    have d1:decide ((286:Int)<(A:Int))=false:=by simp;omega
    have d2:decide ((30:Int)<(B:Int))=true:=by simp;omega
    clear h1 h2
    go_wp2_with fail
    go_ret3
    rw [E.out,E2.out];exact .nil R3.out G3.out
   ·have h1':¬((286:Int)<(A:Int)):=by omega
    have h2':¬((30:Int)<(B:Int)):=by omega
    have d1:decide ((286:Int)<(A:Int))=false:=by simp;omega
    have d2:decide ((30:Int)<(B:Int))=false:=by simp;omega
    have E2:Hid (hdrC (tb t) i3 A B K=if (ownG (tb t) i3 K).2.2=true then ([],[],2,(ownG (tb t) i3 K).2.1,true)
      else if fine (ints ((List.range 19).map (ownG (tb t) i3 K).1))=false then ([],[],80,(ownG (tb t) i3 K).2.1,false)
      else (if (lensG ((List.range 19).map (ownG (tb t) i3 K).1) (tb t) (A+B) (A+B+1) (ownG (tb t) i3 K).2.1 []).2.1≠0 then ([],[],(lensG ((List.range 19).map (ownG (tb t) i3 K).1) (tb t) (A+B) (A+B+1) (ownG (tb t) i3 K).2.1 []).2.1,(lensG ((List.range 19).map (ownG (tb t) i3 K).1) (tb t) (A+B) (A+B+1) (ownG (tb t) i3 K).2.1 []).2.2.1,(lensG ((List.range 19).map (ownG (tb t) i3 K).1) (tb t) (A+B) (A+B+1) (ownG (tb t) i3 K).2.1 []).2.2.2)
       else ((lensG ((List.range 19).map (ownG (tb t) i3 K).1) (tb t) (A+B) (A+B+1) (ownG (tb t) i3 K).2.1 []).1.take A,(lensG ((List.range 19).map (ownG (tb t) i3 K).1) (tb t) (A+B) (A+B+1) (ownG (tb t) i3 K).2.1 []).1.drop A,0,(lensG ((List.range 19).map (ownG (tb t) i3 K).1) (tb t) (A+B) (A+B+1) (ownG (tb t) i3 K).2.1 []).2.2.1,(lensG ((List.range 19).map (ownG (tb t) i3 K).1) (tb t) (A+B) (A+B+1) (ownG (tb t) i3 K).2.1 []).2.2.2))):=hid (by
     unfold hdrC;rw [if_neg (by omega)])
    have CD:=hid (decoder_any b i3 K t w3 R3.out HT.out.2.1 HT.out.1 HT.out.2.2.1);have h19:((List.range 19).map (ownG (tb t) i3 K).1).length=19:=by simp
    have LO:=hid (own_le HT.out.2.1 K);generalize (List.range 19).map (ownG (tb t) i3 K).1=O at *;generalize (ownG (tb t) i3 K).2.1=oi at *;generalize (ownG (tb t) i3 K).2.2=ob at *;have H19:=hid h19;have AB:=hid (And.intro h1 h2);clear h1 h2 h19
    go_wp2_with fail
    refine CD.out.mono ?_;rintro r w5 ⟨r5,g5,hc⟩;have R5:=hid r5;have G5:=hid (rgrown_trans G3.out g5);have G35:=hid g5.size;clear r5 g5 CD d1 d2 h1' h2';rcases hc with ⟨rfl,rfl⟩ | ⟨rfl,hf,rfl⟩ | ⟨rfl,hf,D,S,rfl,hD,d5⟩
    ·go_wp2_with fail
     go_ret3
     rw [E.out,E2.out];simp only [↓reduceIte];exact .nil R5.out G5.out
    ·have HF:=hid hf;clear hf
     go_wp2_with fail
     go_ret3
     rw [E.out,E2.out];simp only [HF.out,↓reduceIte,Bool.false_eq_true];exact .nil R5.out G5.out
    ·have HF:=hid hf
     have hU:used O 15≤32768:=by
      have:=(fine_parts hf).2.2
      rwa [ints_nats] at this
     obtain ⟨N,hN⟩:∃N,A+B=N:=⟨_,rfl⟩;have s4:(A:Int)+(B:Int)=(N:Int):=by omega
     rw [hN] at E2;have CL:=lengths_any D b oi N S O t w5 d5 H19.out hU R5.out LO.out HT.out.1 (by have:=HT.out;omega)
     have LK:=lens_ok (O:=O) (T:=tb t) (many:=N) (N+1) oi [] LO.out;obtain ⟨⟨rl,re,rj,rb⟩,hrl⟩:∃x,lensG O (tb t) N (N+1) oi []=x:=⟨_,rfl⟩;rw [hrl] at CL LK E2;simp only at CL LK E2;have CL':=hid CL;have LK':=hid LK;have AN:=hid hN;have na:(A:Int)≤288:=by have:=HT.out;omega
     have nb:(B:Int)≤32:=by have:=HT.out;omega
     clear hf hU hN CL LK hrl hD d5
     go_wp2_with fail
     refine CL'.out.mono ?_;rintro r w6 ⟨v,rfl,o6,r6,g6⟩;have O6:=hid o6;have R6:=hid r6;have G6:=hid (rgrown_trans G5.out g6);clear o6 r6 g6 CL'
     by_cases h0:re=0
     ·subst h0;obtain ⟨hl,rfl,_,hj⟩:=LK'.out rfl;have hA1:257≤A∧1≤B:=by omega
      have hN:=AN.out
      obtain ⟨g,cap,rfl,hcap,hcell,hgw⟩:∃g cap,v=.slice (some ⟨g,0,none⟩) N cap∧N≤cap∧(∀i,i<N→w6.cell? ⟨g,i,none⟩=some (.int .i64 (rl.getD i 0:Nat)))∧g<w6.heap.size:=by
       rcases O6.out.2 with ⟨_,e2⟩ | ⟨g,cap,cur,e1,_,_,h5,_⟩
       ·exact absurd e2 (by omega)
       ·refine ⟨g,cap,by rw [e1,hl],by omega,fun i hi=>?_,(World.ownsRow.lt O6.out g (by rw [e1];rfl)).2⟩
        have:=World.ownsRow.cells O6.out (g:=g) (by rw [e1];rfl) i (.int .i64 (rl.getD i 0:Nat)) (by
         unfold cellsN;rw [List.getElem?_map,List.getElem?_eq_getElem (by omega),List.getD_eq_getElem?_getD,List.getElem?_eq_getElem (by omega)]
         rfl)
        rwa [Go.WideShapes.add_plain,Nat.zero_add] at this
      have cut1:∀W:World,(Instr.slice 92 (.slice (some ⟨g,0,none⟩) N cap) none (some (.int .i64 (A:Int))) (some (.int .i64 (A:Int)))).run Tryz.prog W=.ok (.slice (some ⟨g,0,none⟩) A A) W:=fun W=>run_low3 W g N cap A (by omega) hcap (by omega)
      have cut2:∀W:World,(Instr.slice 92 (.slice (some ⟨g,0,none⟩) N cap) (some (.int .i64 (A:Int))) (some (.int .i64 (N:Int))) (some (.int .i64 (N:Int)))).run Tryz.prog W=.ok (.slice (some ⟨g,A,none⟩) B B) W:=fun W=>by
       rw [run_high3 W g N cap A (by omega) hcap,show N-A=B by omega]
      have lt:(rl.take A).length=A:=by rw [List.length_take];omega
      have ld:(rl.drop A).length=B:=by rw [List.length_drop];omega
      have I1:Hid (∀k,IsInts (w6.drewN k) (some ⟨g,0,none⟩) (ints (rl.take A))):=hid fun k h0=>⟨g,0,rfl,hgw,fun e he=>by
       have he':e<A:=by rw [ints_length,lt] at he;exact he
       rw [Nat.zero_add,ints_get _ e (by rw [lt];exact he')]
       refine (hcell e (by omega)).trans ?_
       rw [List.getD_eq_getElem?_getD,List.getD_eq_getElem?_getD,List.getElem?_take_of_lt he']⟩
      have I2:Hid (∀k,IsInts (w6.drewN k) (some ⟨g,A,none⟩) (ints (rl.drop A))):=hid fun k h0=>⟨g,A,rfl,hgw,fun e he=>by
       have he':e<B:=by rw [ints_length,ld] at he;exact he
       rw [ints_get _ e (by rw [ld];exact he')]
       refine (hcell (A+e) (by omega)).trans ?_
       rw [List.getD_eq_getElem?_getD,List.getD_eq_getElem?_getD,List.getElem?_drop]⟩
      have LT:=hid (And.intro lt ld);clear hcap hcell hgw lt ld hA1 hN hl hj LK'
      go_wp2_with fail
      go_quiet (fail)
      go_wp2_with fail
      go_ret3
      rw [E.out,E2.out];simp only [HF.out,↓reduceIte,Bool.false_eq_true,Bool.true_eq_false,ne_eq,not_true_eq_false];refine ⟨some ⟨g,0,none⟩,A,some ⟨g,A,none⟩,B,?_,I1.out _,I2.out _,R6.out,rgrown_drewN G6.out _⟩;rw [LT.out.1,LT.out.2]
      rfl
     ·have hne:(re != 0)=true:=by simpa using h0
      have H0:=hid h0;clear h0
      go_wp2_with fail
      go_ret3
      rw [E.out,E2.out];simp only [HF.out,↓reduceIte,Bool.false_eq_true,Bool.true_eq_false,ne_eq,H0.out,not_false_eq_true];exact .nil R6.out G6.out
end Go.Proofs.YthbjllabgpaaaaaGreat.Inf
