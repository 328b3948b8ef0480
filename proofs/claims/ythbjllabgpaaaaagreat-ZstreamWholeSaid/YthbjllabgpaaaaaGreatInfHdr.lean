/-
  Contracts of inflate's Order, told, several, decoder.
-/
import Derived.Test.YthbjllabgpaaaaaGreatInfMath
import Derived.Test.YthbjllabgpaaaaaGreatInfRepA
import Derived.Test.YthbjllabgpaaaaaGreatAllSym
import Derived.Test.YthbjllabgpaaaaaGreatDefHdr
namespace Go.Proofs.YthbjllabgpaaaaaGreat.Inf
open Go.Lib (hid)
set_option maxHeartbeats 4000000
open Go.ChangeShapes Go.WideShapes Go.ChangeAt Go.RowKit
open Go.Proofs.YthbjllabgpaaaaaGreat.Huf (IsInts cellsN cellsN_length cellsN_append DecAt fst used symsOf fine nats new_good new_bad next_any nxG)
open Go.Proofs.YthbjllabgpaaaaaGreat.Bit (RdAt tb tb_length rV rI rOk rbits_any rerr_any errI cnt cnt_nat rgrown_trans)
open Go.Proofs.YthbjllabgpaaaaaGreat.Sym
open Go.Proofs.YthbjllabgpaaaaaGreat.Def
set_option linter.unusedVariables false
set_option maxRecDepth 100000
theorem order_any (w:World) :
  Calls Tryz.prog 157 #[] w fun e w'=>∃a,e=.returned (.slice (some ⟨a,0,none⟩) 19 19)∧AtN w' a 19 ordF∧Below w.heap.size w w'∧w.heap.size≤a:=by
 go_enter Tryz.func157,Tryz.ntmps157
 go_wp2
 go_ret;exact ⟨_,rfl,heap_alloc_new w _,(Below.refl w.heap.size w).alloc (Nat.le_refl _) _,Nat.le_refl _⟩
theorem told_any (e:Int) (w:World) :
  Calls Tryz.prog 137 #[.int .i64 e] w fun r w'=>r=.returned (.int .i64 (told e))∧w=w':=by
 unfold told
 by_cases h1:e=50
 ·subst h1
  go_enter Tryz.func137,Tryz.ntmps137
  go_wp2
  go_ret;exact ⟨rfl,rfl⟩
 ·by_cases h2:e=3
  ·subst h2
   go_enter Tryz.func137,Tryz.ntmps137
   go_wp2
   go_ret;exact ⟨rfl,rfl⟩
  ·rw [if_neg (by omega)]
   have d1:(e==50)=false:=by simpa using h1
   have d2:(e==3)=false:=by simpa using h2
   go_enter Tryz.func137,Tryz.ntmps137
   go_wp2
   go_ret;exact ⟨rfl,rfl⟩
theorem bits_any {k:Nat} (hk:k≤32) (b:Nat) (t:ByteArray) (i:Nat) (e:Bool) (w:World) (h:RdAt 107 w b t i e) (hi:i≤(tb t).length) (ht:t.size≤1000000) :
  Calls Tryz.prog 93 #[.pointer (some ⟨b,0,none⟩),.int .i64 (k:Int)] w fun r w'=>r=.returned (.int .i64 (rV (tb t) i e k)) ∧
   RdAt 107 w' b t (rI (tb t) i e k) (!rOk (tb t) i e k)∧w.grownBy w' (some b):=by
 have:=rbits_any b t i e (k:Int) w h hi (by omega)
 rw [cnt_nat k hk] at this;exact this
def NewAt (w:World) (g m:Nat) (V:Nat):Prop:=∀j,j<m→w.cell? ⟨g,j,none⟩=some (.int .i64 (V:Nat))
theorem several_any (b s i:Nat) (t:ByteArray) (l:List Nat) (a:Option Addr) (cap:Nat) (w:World) (h:RdAt 107 w b t i false) (hi:i≤(tb t).length) (ht:t.size≤1000000) (hs:s<19)
  (hv:w.ownsRow 0 3 1 (.slice a l.length cap) l.length (cellsN l)) (hab:(Value.slice a l.length cap).ownBlock≠some b) (h16:s=16→l≠[]) (hl:l.length≤1000) :
  Calls Tryz.prog 160 #[.pointer (some ⟨b,0,none⟩),.int .i64 (s:Nat),.slice a l.length cap] w fun r w'=>
   ∃g c,r=.returned (.slice (some ⟨g,0,none⟩) (times s (rV (tb t) i false (xb s))) c)∧NewAt w' g (times s (rV (tb t) i false (xb s))) (valN l s)∧w.heap.size≤g ∧
   RdAt 107 w' b t (rI (tb t) i false (xb s)) (!rOk (tb t) i false (xb s))∧w.grownBy w' (some b):=by
 by_cases h1:s<16
 ·have e1:xb s=0:=by unfold xb;rw [if_pos h1]
  have e2:∀x,times s x=1:=fun x=>by unfold times;rw [if_pos h1]
  have e3:valN l s=s:=by unfold valN;rw [if_pos h1]
  have e4:rOk (tb t) i false 0=true:=by unfold rOk;simp
  have e5:rI (tb t) i false 0=i:=by unfold rI;rw [e4];rfl
  rw [e1,e2,e3,e4,e5];have H:=hid h;have d1:((s:Int)==16)=false:=by simp;omega
  have d2:((s:Int)==17)=false:=by simp;omega
  have d3:((s:Int)==18)=false:=by simp;omega
  clear h hi ht hv hab h16 hl e1 e2 e3 e4 e5 h1 hs
  go_enter Tryz.func160,Tryz.ntmps160
  go_wp2_with fail
  go_ret;have bl:Below w.heap.size w (w.alloc (.cells #[.int .i64 (s:Nat)] 3)):=(Below.refl _ _).alloc (Nat.le_refl _) _;refine ⟨_,_,rfl,?_,Nat.le_refl _,rd_below H.out bl,below_grown bl⟩;intro j hj;obtain rfl:j=0:=by omega
  rw [cell_of_row _ _ 0 _ _ _ (heap_alloc_new w _)];rfl
 ·obtain ⟨x,hx⟩:∃x,rV (tb t) i false (xb s)=x:=⟨_,rfl⟩;have hxl:=rV_lt (tb t) i false (xb s);rw [hx] at hxl ⊢;have HX:=hid hx;clear hx
  by_cases h2:s=16
  ·subst h2;have CB:=hid (bits_any (k:=2) (by omega) b t i false w.drew h hi ht)
   have e:rV (tb t) i false 2=x:=HX.out;rw [e] at CB;have hx4:x<4:=hxl;have hl0:0<l.length:=List.length_pos_iff.2 (h16 rfl);obtain ⟨n,hn⟩:∃n,l.length=n+1:=⟨l.length-1,by omega⟩
   obtain ⟨g,rfl⟩:∃g,a=some ⟨g,0,none⟩:=by
    rcases hv.2 with ⟨e1,e2⟩ | ⟨g,cap',cur,e1,_⟩
    ·exact absurd e2 (by omega)
    ·simp only [Value.slice.injEq] at e1;exact ⟨g,e1.1⟩
   have hgb:g≠b:=fun e=>hab (by rw [e];rfl)
   have hc0:w.cell? ⟨g,n,none⟩=some (.int .i64 (lastN l:Nat)):=by
    have:=World.ownsRow.cells hv (g:=g) rfl n (.int .i64 (lastN l:Nat)) (by
     unfold cellsN lastN;rw [List.getElem?_map,List.getElem?_eq_getElem (by omega),List.getD_eq_getElem?_getD,show l.length-1=n by omega,List.getElem?_eq_getElem (by omega)]
     rfl)
    rw [Go.WideShapes.add_plain,Nat.zero_add] at this;exact this
   have hgw:g<w.heap.size:=(World.ownsRow.lt hv g rfl).2
   have hcap:n+1≤cap:=by
    rcases hv.2 with ⟨e1,e2⟩ | ⟨g',cap',cur,e1,_,_,h5,_⟩
    ·exact absurd e2 (by omega)
    ·simp only [Value.slice.injEq] at e1;omega
   obtain ⟨L,hL⟩:∃L,lastN l=L:=⟨_,rfl⟩;have eV:valN l 16=L:=hL;rw [hL] at hc0;rw [eV];obtain ⟨m,hm⟩:∃m,times 16 x=m:=⟨_,rfl⟩;have hm3:m=3+x:=hm.symm;have q1:(3:Int)+(x:Int)=(m:Int):=by omega
   obtain ⟨N,hN⟩:∃N,n+1=N:=⟨_,rfl⟩;rw [hm,hn,hN];have HL:=hid (And.intro hgb (And.intro hc0 (And.intro hgw (And.intro hn hl))));have HM:=hid (show m≤1000000 by omega)
   have hrs:∀W:World,(Instr.slice 92 (.slice (some ⟨g,0,none⟩) N cap) (some (.int .i64 (n:Int))) none none).run Tryz.prog W=.ok (.slice (some ⟨g,n,none⟩) 1 (cap-n)) W:=fun W=>by
    have:=Def.run_high W g N cap n (by omega) (by omega) (by omega)
    rw [show N-n=1 by omega] at this
    exact this
   have hrs1:=hrs w;have hrs2:=hrs w.drew;have p1:(N:Int)-1=(n:Int):=by omega
   have p2:IntKind.i64.wrap ((N:Int)-1)=(n:Int):=by rw [p1];exact IntWalk.i64_in _ (by omega)
   have p3:IntKind.i64.wrap (3+(x:Int))=(m:Int):=by rw [q1];exact IntWalk.i64_in _ (by omega)
   have nb:(n:Int)≤1000:=by omega
   clear h hi ht hv hab h16 hl hxl hl0 hn hgb hc0 hgw hL eV hm hm3 h1 hs hcap e hN p1 q1 hrs1 hrs2
   go_enter Tryz.func160,Tryz.ntmps160
   go_wp2_with fail
   go_region_with (first
    | (go_at_call 93;refine CB.out.mono ?_;rintro r w1 ⟨rfl,r1,g1⟩;have R1:=hid r1;have G1:=hid (Bit.rgrown_from_drewN (n:=1) g1);have hc1:=hid (G1.out.cell (a:=⟨g,n,none⟩) HL.out.2.1 (fun e=>HL.out.1 (by cases e;rfl)));clear r1 g1)
    | (go_at_call 139;refine (repeat_any (L:Nat) g n (cap-n) m _ hc1.out (Nat.lt_of_lt_of_le HL.out.2.2.1 G1.out.size) HM.out).mono ?_;rintro r w2 ⟨rfl,h2,b2⟩;have R2:=hid (rd_below R1.out b2);have H2:=hid h2;have G2:=hid (rgrown_trans G1.out (below_grown b2));clear h2 b2))
   all_goals (
    go_wp2_with fail
    go_ret;exact ⟨_,_,rfl,fun j hj=>by rw [cell_of_row _ _ _ _ _ _ H2.out,List.getElem?_toArray,fil_get _ _ _ _ hj],G1.out.size,R2.out,G2.out⟩)
  ·have eV:valN l s=0:=by unfold valN;rw [if_neg h1,if_neg h2]
   rw [eV]
   by_cases h3:s=17
   ·subst h3;have CB:=hid (bits_any (k:=3) (by omega) b t i false w h hi ht)
    have e:rV (tb t) i false 3=x:=HX.out;rw [e] at CB;have hx4:x<8:=hxl;obtain ⟨m,hm⟩:∃m,times 17 x=m:=⟨_,rfl⟩;have hm3:m=3+x:=hm.symm;have q1:(3:Int)+(x:Int)=(m:Int):=by omega
    have qm:(m:Int)≤100:=by omega
    rw [hm];have HM:=hid (show m≤1000000 by omega)
    clear h hi ht hv hab h16 hl hxl eV hm hm3 h1 h2 hs e
    go_enter Tryz.func160,Tryz.ntmps160
    go_wp2_with fail
    refine CB.out.mono ?_;rintro r w1 ⟨rfl,r1,g1⟩;have R1:=hid r1;have G1:=hid g1;have hmk:=make_ints m HM.out w1;have bl:Below w1.heap.size w1 (w1.alloc (.cells (rowN m fun _=>0) 3)):=(Below.refl _ _).alloc (Nat.le_refl _) _
    have A1:Hid (AtN (w1.alloc (.cells (rowN m fun _=>0) 3)) w1.heap.size m fun _=>0):=hid (heap_alloc_new _ _)
    have R2:=hid (rd_below R1.out bl);have G2:=hid (rgrown_trans G1.out (below_grown bl));clear r1 g1 bl CB
    go_wp2_with fail
    go_ret;exact ⟨_,_,rfl,fun j hj=>A1.out.cell j hj,G1.out.size,R2.out,G2.out⟩
   ·have hs18:s=18:=by omega
    subst hs18;have CB:=hid (bits_any (k:=7) (by omega) b t i false w h hi ht)
    have e:rV (tb t) i false 7=x:=HX.out;rw [e] at CB;have hx4:x<128:=hxl;obtain ⟨m,hm⟩:∃m,times 18 x=m:=⟨_,rfl⟩;have hm3:m=11+x:=hm.symm;have q1:(11:Int)+(x:Int)=(m:Int):=by omega
    have qm:(m:Int)≤200:=by omega
    rw [hm];have HM:=hid (show m≤1000000 by omega)
    clear h hi ht hv hab h16 hl hxl eV hm hm3 h1 h2 h3 hs e
    go_enter Tryz.func160,Tryz.ntmps160
    go_wp2_with fail
    refine CB.out.mono ?_;rintro r w1 ⟨rfl,r1,g1⟩;have R1:=hid r1;have G1:=hid g1;have hmk:=make_ints m HM.out w1;have bl:Below w1.heap.size w1 (w1.alloc (.cells (rowN m fun _=>0) 3)):=(Below.refl _ _).alloc (Nat.le_refl _) _
    have A1:Hid (AtN (w1.alloc (.cells (rowN m fun _=>0) 3)) w1.heap.size m fun _=>0):=hid (heap_alloc_new _ _)
    have R2:=hid (rd_below R1.out bl);have G2:=hid (rgrown_trans G1.out (below_grown bl));clear r1 g1 bl CB
    go_wp2_with fail
    go_ret;exact ⟨_,_,rfl,fun j hj=>A1.out.cell j hj,G1.out.size,R2.out,G2.out⟩
theorem decoder_any (b p k:Nat) (t:ByteArray) (w:World) (h:RdAt 107 w b t p false) (hp:p≤(tb t).length) (ht:t.size≤1000000) (hk:4≤k∧k≤19) :
  Calls Tryz.prog 134 #[.pointer (some ⟨b,0,none⟩),.int .i64 (k:Nat)] w fun r w'=>
   RdAt 107 w' b t (ownG (tb t) p k).2.1 (ownG (tb t) p k).2.2∧w.grownBy w' (some b) ∧
   (((ownG (tb t) p k).2.2=true∧r=.returned (.tuple #[.pointer none,.int .i64 2])) ∨
    ((ownG (tb t) p k).2.2=false∧fine (ints ((List.range 19).map (ownG (tb t) p k).1))=false∧r=.returned (.tuple #[.pointer none,.int .i64 80])) ∨
    ((ownG (tb t) p k).2.2=false∧fine (ints ((List.range 19).map (ownG (tb t) p k).1))=true∧∃D S,r=.returned (.tuple #[.pointer (some ⟨D,0,none⟩),.int .i64 0])∧w.heap.size≤D ∧
     DecAt w' D S (fst ((List.range 19).map (ownG (tb t) p k).1)) (used ((List.range 19).map (ownG (tb t) p k).1) 15) (symsOf ((List.range 19).map (ownG (tb t) p k).1) 19))):=by
 have H:=hid h;have HP:=hid (And.intro hp ht);have hbw:=rd_lt h;have hkm:(k:Int)≤19:=by omega
 have hk0:(0:Int)≤(k:Int):=by omega
 have HK:=hid hk;clear h hp ht hk
 go_enter Tryz.func134,Tryz.ntmps134
 go_wp2_with fail
 refine (order_any w).mono ?_;rintro r w1 ⟨a,rfl,a1,b1,ha⟩;have A1:=hid a1;have B1:=hid b1;have HA:=hid ha;clear a1 b1 ha;have hmk:(Instr.makeSlice 92 (.int .i64 19) (.int .i64 19)).run Tryz.prog w1=.ok (.slice (some ⟨w1.heap.size,0,none⟩) 19 19) (w1.alloc (.cells (rowN 19 fun _=>0) 3)):=make_ints 19 (by omega) w1
 have b4:Below w1.heap.size w1 (w1.alloc (.cells (rowN 19 fun _=>0) 3)):=(Below.refl _ _).alloc (Nat.le_refl _) _
 have G2:Hid (AtN (w1.alloc (.cells (rowN 19 fun _=>0) 3)) w1.heap.size 19 fun _=>0):=hid (heap_alloc_new _ _)
 have A2:=hid (A1.out.below b4);have R2:=hid (rd_below (rd_below H.out B1.out) b4);have B2:Hid (Below w.heap.size w (w1.alloc (.cells (rowN 19 fun _=>0) 3))):=hid (B1.out.trans (b4.mono B1.out.size))
 have S2:=hid B1.out.size;have AG:=hid (show a<w1.heap.size from A1.out.lt)
 have hrl:=Def.run_low (w1.alloc (.cells (rowN 19 fun _=>0) 3)) a 19 19 k HK.out.2
 clear b4 A1 B1 H
 go_wp2_with fail
 clear hmk hrl;generalize w1.alloc (.cells (rowN 19 fun _=>0) 3)=w2 at *
 generalize w1.heap.size=g at *
 go_loopw [21] (fun i wr=>∃j:Nat,j≤k∧i=.int .i64 j∧AtN wr g 19 (ownG (tb t) p j).1∧AtN wr a 19 ordF∧RdAt 107 wr b t (ownG (tb t) p j).2.1 (ownG (tb t) p j).2.2∧w.grownBy wr (some b)) (fun i _=>k-(intOf i).toNat)
 case atStart=>exact ⟨0,by omega,rfl,G2.out,A2.out,R2.out,below_grown B2.out⟩
 case round=>
  obtain ⟨j,hj,rfl,g1,a1,r1,gw⟩:=hrel;obtain ⟨F,hF⟩:∃F,(ownG (tb t) p j).1=F:=⟨_,rfl⟩;obtain ⟨q,hq⟩:∃q,(ownG (tb t) p j).2.1=q:=⟨_,rfl⟩;obtain ⟨bad,hbad⟩:∃bad,(ownG (tb t) p j).2.2=bad:=⟨_,rfl⟩;have hql:q≤(tb t).length:=by rw [←hq];exact own_le HP.out.1 j
  rw [hF] at g1;rw [hq,hbad] at r1;have GB:=hid gw.size;have G1:=hid g1;have A1:=hid a1;have R1:=hid r1;have GW:=hid gw;have EQ:=hid (And.intro hF (And.intro hq hbad));clear G2 A2 R2 B2 g1 a1 r1 gw
  by_cases hlt:j<k
  ·have hjk:(j:Int)<(k:Int):=by omega
   obtain ⟨X,hX⟩:∃X,ordF j=X:=⟨_,rfl⟩;have hx:X<19:=by rw [←hX];exact ordF_lt j
   have hca:wr.cell? ⟨a,j,none⟩=some (.int .i64 (X:Nat)):=by rw [←hX];exact A1.out.cell j (by have:=HK.out;omega)
   have CB:=hid (bits_any (k:=3) (by omega) b t q bad wr R1.out hql HP.out.2)
   have HJ:=hid (And.intro hlt hX);clear hF hq hbad hj hlt hX
   go_wp2_with fail
   refine CB.out.mono ?_;rintro r w3 ⟨rfl,r3,g3⟩;obtain ⟨V,hV⟩:∃V,rV (tb t) q bad 3=V:=⟨_,rfl⟩;rw [hV];have HV:=hid hV;have hgb:g≠b:=by have:=S2.out;omega
   have hab:a≠b:=by have:=HA.out;omega
   have g3':=atn_call G1.out g3 hgb;have A3:=hid (atn_call A1.out g3 hab);have G3:=hid g3';have R3:=hid r3;have W3:=hid (rgrown_trans GW.out g3);have c3:=g3'.cell X hx;have f3:=g3'.frozen X;obtain ⟨zold,hz⟩:∃z,Value.int .i64 ((F X:Nat):Int)=z:=⟨_,rfl⟩;rw [hz] at c3;clear r3 g3 g3' hV CB hz G1 A1 R1 GW
   go_wp2_with fail
   have hag:a≠g:=by have:=AG.out;omega
   have hbg:g≠b:=hgb;have E:=EQ.out
   have e1:(ownG (tb t) p (j+1)).2.1=rI (tb t) q bad 3:=by
    show rI (tb t) (ownG (tb t) p j).2.1 (ownG (tb t) p j).2.2 3=_;rw [E.2.1,E.2.2]
   have e2:(ownG (tb t) p (j+1)).2.2=!rOk (tb t) q bad 3:=by
    show (!rOk (tb t) (ownG (tb t) p j).2.1 (ownG (tb t) p j).2.2 3)=_;rw [E.2.1,E.2.2]
   have e3:(fun x=>if x=X then V else F x)=(ownG (tb t) p (j+1)).1:=by
    show _=fun x=>if x=ordF j then rV (tb t) (ownG (tb t) p j).2.1 (ownG (tb t) p j).2.2 3 else (ownG (tb t) p j).1 x
    rw [E.1,E.2.1,E.2.2,HJ.out.2,HV.out]
   refine ⟨⟨j+1,by have:=HJ.out.1;omega,by go_num,?_,A3.out.other hag,?_,set_grown W3.out S2.out⟩,?_⟩
   ·rw [←e3];exact G3.out.set X V
   ·rw [e1,e2];exact rd_set R3.out hbg
   ·have:=HJ.out.1;simp [intOf];omega
  ·obtain rfl:j=k:=by omega
   have hjk:¬((j:Int)<(j:Int)):=by omega
   clear hlt hj;have hFi:=G1.out.isInts;have CE:=hid (rerr_any b t q bad wr R1.out)
   cases bad with
   | true=>
    clear hF hq hbad hFi
    go_wp2_with fail
    refine CE.out.mono ?_;rintro r w5 ⟨rfl,rfl⟩;clear CE;rw [show errI true=2 from rfl]
    go_wp2_with fail
    go_ret2;rw [EQ.out.1,EQ.out.2.1,EQ.out.2.2];exact ⟨R1.out,GW.out,.inl ⟨rfl,rfl⟩⟩
   | false=>
    have hl19:(ints ((List.range 19).map F)).length=19:=by rw [ints_length];simp
    have enat:nats (ints ((List.range 19).map F))=(List.range 19).map F:=ints_nats
    cases hf:fine (ints ((List.range 19).map F)) with
    | false=>
     have CN:=hid (new_bad (some ⟨g,0,none⟩) 19 19 _ wr hl19 hFi (by omega) hf)
     clear hF hq hbad hFi enat hl19
     go_wp2_with fail
     refine CE.out.mono ?_;rintro r w5 ⟨rfl,rfl⟩;clear CE;rw [show errI false=0 from rfl]
     go_wp2_with fail
     refine CN.out.mono ?_;rintro r w6 ⟨rfl,b6⟩;have R6:=hid (rd_below R1.out b6);have G6:=hid (rgrown_trans GW.out (below_grown b6));clear b6 CN
     go_wp2_with fail
     refine (told_any 50 w6).mono ?_;rintro r w7 ⟨rfl,rfl⟩;rw [show told 50=80 from by decide]
     go_wp2_with fail
     go_ret2;rw [EQ.out.1,EQ.out.2.1,EQ.out.2.2];exact ⟨R6.out,G6.out,.inr (.inl ⟨rfl,hf,rfl⟩)⟩
    | true=>
     have CN:=hid (new_good (some ⟨g,0,none⟩) 19 19 _ wr hl19 hFi hf);rw [enat] at CN;clear hF hq hbad hFi enat hl19
     go_wp2_with fail
     refine CE.out.mono ?_;rintro r w5 ⟨rfl,rfl⟩;clear CE;rw [show errI false=0 from rfl]
     go_wp2_with fail
     refine CN.out.mono ?_;rintro r w6 ⟨D,S,rfl,b6,hD,d6⟩;have R6:=hid (rd_below R1.out b6);have G6:=hid (rgrown_trans GW.out (below_grown b6));have D6:=hid (And.intro (Nat.le_trans GB.out hD) d6);clear b6 CN hD d6
     go_wp2_with fail
     refine (told_any 0 w6).mono ?_;rintro r w7 ⟨rfl,rfl⟩;rw [show told 0=0 from by decide]
     go_wp2_with fail
     go_ret2;rw [EQ.out.1,EQ.out.2.1,EQ.out.2.2];exact ⟨R6.out,G6.out,.inr (.inr ⟨rfl,hf,D,S,rfl,D6.out.1,D6.out.2⟩)⟩
end Go.Proofs.YthbjllabgpaaaaaGreat.Inf
