/-
  Contracts of inflate's Order and deflate's putOrder.
-/
import Derived.Test.YthbjllabgpaaaaaGreatDflAlike
import Derived.Test.YthbjllabgpaaaaaGreatDefBestA
namespace Go.Proofs.YthbjllabgpaaaaaGreat.Dfl
open Go.Lib (hid)
set_option maxHeartbeats 4000000
open Go.ChangeShapes Go.WideShapes Go.ChangeAt Go.RowKit
open Go.Proofs.YthbjllabgpaaaaaGreat.Bit (WrAt But Near bitsOf bitsOf_length cnt wbits_any)
open Go.Proofs.YthbjllabgpaaaaaGreat.Def
open Go.Proofs.YthbjllabgpaaaaaGreat.Huf (IsInts used codes_good fine nats)
open Go.Proofs.YthbjllabgpaaaaaGreat.Sym (ints ints_length ints_get AtN rowN make_ints CodesAt range_getD wr_below)
set_option linter.unusedVariables false
set_option maxRecDepth 100000
theorem order_any (w:World) :
  Calls Tryz.prog 157 #[] w fun e w'=>∃a,e=.returned (.slice (some ⟨a,0,none⟩) 19 19)∧AtN w' a 19 ordF∧Below w.heap.size w w'∧w.heap.size≤a:=by
 go_enter Tryz.func157,Tryz.ntmps157
 go_wp2
 go_ret;exact ⟨_,rfl,heap_alloc_new w _,(Below.refl w.heap.size w).alloc (Nat.le_refl _) _,Nat.le_refl _⟩
structure NumsAt (w:World) (g n:Nat) (f:Nat→Nat):Prop where
 lt:g<w.heap.size
 cell:∀i,i<n→w.cell? ⟨g,i,none⟩=some (.int .i64 (f i:Nat))
theorem NumsAt.block {w w':World} {g n:Nat} {f:Nat→Nat} (h:NumsAt w g n f) (hs:g<w'.heap.size) (k:w'.heap[g]?=w.heap[g]?):NumsAt w' g n f:=
 ⟨hs,fun i hi=>(World.cell?_of_block (w:=w) (w':=w') (a:=⟨g,i,none⟩) k).trans (h.cell i hi)⟩
theorem NumsAt.below {w w':World} {g n:Nat} {f:Nat→Nat} (h:NumsAt w g n f) (k:Below w.heap.size w w'):NumsAt w' g n f:=h.block (Nat.lt_of_lt_of_le h.lt k.size) (k.block g h.lt)
theorem nums_of {w:World} {g:Nat} {N:List Nat} (h:IsInts w (some ⟨g,0,none⟩) (ints N)) (h0:0<N.length):NumsAt w g N.length fun i=>N.getD i 0:=by
 obtain ⟨b,off,e,hb,hc⟩:=h (by rw [ints_length];exact h0)
 cases e
 refine ⟨hb,fun i hi=>?_⟩
 have:=hc i (by rw [ints_length];exact hi)
 rw [Nat.zero_add,ints_get N i hi] at this;exact this
theorem nums_atN {w:World} {g n:Nat} {f:Nat→Nat} (h:AtN w g n f):NumsAt w g n f:=⟨h.lt,fun i hi=>h.cell i hi⟩
theorem codes_block {w w':World} {g n:Nat} {N:List Nat} (h:CodesAt w g n N) (k:w'.heap[g]?=w.heap[g]?):CodesAt w' g n N:=Sym.rowK h fun j hj=>by cases hj;exact k
structure Own (Y:List (Nat×Nat)) (O:List Nat) (k:Nat):Prop where
 many:4≤k∧k≤19
 own:O.length=19
 most:∀x∈O,x≤7
 rest:∀i,k≤i→i<19→O.getD (ordF i) 0=0
 room:used O 15≤32768
 syms:∀y∈Y,O.getD y.1 0≠0
 none_:∀s,s<19→(O.getD s 0=0↔symC Y s=0)
 last:k=4∨O.getD (ordF (k-1)) 0≠0
 tk:∃P,Huf.Taken ((List.range 19).map (symC Y)) 19 7 P∧O=(List.range 19).map fun i=>Huf.often i P
theorem cost_same {F:List Nat} {n L:Nat} {P Q:List Huf.Tr} (hL:1≤L) (hn:n≤2^L) (h:Huf.Taken F n L P) (k:Huf.Taken F n L Q) :
  Huf.tot (fun i=>F.getD i 0*Huf.often i P) (Huf.comeS F n)=Huf.tot (fun i=>F.getD i 0*Huf.often i Q) (Huf.comeS F n):=by
 rw [h.det k]
theorem own_cost {Y:List (Nat×Nat)} {O:List Nat} {k:Nat} {P:List Huf.Tr} (hs:∀y∈Y,y.1<19) (hO:O=(List.range 19).map fun i=>Huf.often i P) :
  Huf.tot (fun y:Nat×Nat=>O.getD y.1 0) Y=Huf.tot (fun i=>((List.range 19).map (symC Y)).getD i 0*Huf.often i P) (Huf.comeS ((List.range 19).map (symC Y)) 19):=by
 rw [←Huf.tot_map (fun i=>O.getD i 0) (·.1) Y,Huf.tot_count (fun i=>O.getD i 0) (Huf.comeS_nodup _ _) (Y.map (·.1)) (S:=Huf.comeS ((List.range 19).map (symC Y)) 19)]
 ·refine Huf.tot_congr _ _ _ fun i hi=>?_
  have h19:=((Huf.comeS_mem _ _ _).1 hi).1;rw [range_getD 19 _ _ h19,hO,range_getD 19 _ _ h19,Nat.mul_comm];rfl
 ·intro y hy;obtain ⟨z,hz,rfl⟩:=List.mem_map.1 hy;have h19:=hs z hz;rw [Huf.comeS_mem,range_getD 19 _ _ h19];exact ⟨h19,Nat.pos_of_ne_zero (symC_pos hz)⟩
theorem own_k {Y:List (Nat×Nat)} {O Q:List Nat} {k j:Nat} (h:Own Y O k) (g:Own Y Q j):k≤j:=by
 rcases h.last with h1 | h1
 ·have:=g.many;omega
 ·have hk:=h.many;rcases Nat.lt_or_ge j k with h2 | h2
  ·exfalso
   have h3:=g.rest (k-1) (by omega) (by omega)
   rw [g.none_ _ (ordF_lt _),←h.none_ _ (ordF_lt _)] at h3;exact h1 h3
  ·exact h2
theorem own_length {L M:List Nat} {Y:List (Nat×Nat)} {O Q:List Nat} {k j:Nat} (hs:∀y∈Y,y.1<19) (h:Own Y O k) (g:Own Y Q j):(hdrB L M k O Y).length=(hdrB L M j Q Y).length:=by
 have e1:∀(O:List Nat),(∀x∈O,x≤7)→(Y.flatMap (yB O)).length=Huf.tot (fun y:Nat×Nat=>O.getD y.1 0) Y+Huf.tot (fun y:Nat×Nat=>xb y.1) Y:=by
  intro O hO
  induction Y with
  | nil=>rfl
  | cons y Y ih=>
   rw [List.flatMap_cons,List.length_append]
   have h1:(Y.flatMap (yB O)).length=Huf.tot (fun y:Nat×Nat=>O.getD y.1 0) Y+Huf.tot (fun y:Nat×Nat=>xb y.1) Y:=by
    clear ih h g hs
    induction Y with
    | nil=>rfl
    | cons z Y ih => 
     rw [List.flatMap_cons,List.length_append,ih]
     have:(yB O z).length=O.getD z.1 0+xb z.1:=by
      unfold yB;rw [List.length_append,bitsOf_length];unfold Sym.cd;rw [Bit.codeBits_length,Bit.cnt_nat];rcases Nat.lt_or_ge z.1 O.length with h1 | h1
      ·rw [List.getD_eq_getElem?_getD,List.getElem?_eq_getElem h1];exact Nat.le_trans (hO _ (List.getElem_mem h1)) (by decide)
      ·rw [List.getD_eq_getElem?_getD,List.getElem?_eq_none h1];exact Nat.zero_le _
     show _=(O.getD z.1 0+Huf.tot _ Y)+(xb z.1+Huf.tot _ Y);omega
   have:(yB O y).length=O.getD y.1 0+xb y.1:=by
    unfold yB;rw [List.length_append,bitsOf_length];unfold Sym.cd;rw [Bit.codeBits_length,Bit.cnt_nat];rcases Nat.lt_or_ge y.1 O.length with h1 | h1
    ·rw [List.getD_eq_getElem?_getD,List.getElem?_eq_getElem h1];exact Nat.le_trans (hO _ (List.getElem_mem h1)) (by decide)
    ·rw [List.getD_eq_getElem?_getD,List.getElem?_eq_none h1];exact Nat.zero_le _
   rw [h1,this];show _=(O.getD y.1 0+Huf.tot _ Y)+(xb y.1+Huf.tot _ Y);omega
 have e2:k=j:=Nat.le_antisymm (own_k h g) (own_k g h);subst e2;rw [hdrB_length,hdrB_length,e1 O h.most,e1 Q g.most];obtain ⟨P,hP,hO⟩:=h.tk;obtain ⟨R,hR,hQ⟩:=g.tk;rw [own_cost (k:=k) hs hO,own_cost (k:=k) hs hQ,cost_same (by decide) (by decide) hP hR]
theorem putOrder_any (b:Nat) (v:Value) (l:List Bool) (rg m cap:Nat) (Y:List (Nat×Nat)) (w:World) (hw:WrAt w b v l) (hl:l.length≤1000000000) (hm:Y.length=m) (hrg:rg<w.heap.size)
  (hc:∀i (h:i<Y.length),w.cell? ⟨rg,i*3,none⟩=some (.int .i64 (Y[i].1:Nat))∧w.cell? ⟨rg,i*3+1,none⟩=some (.int .i64 (Y[i].2:Nat))∧w.cell? ⟨rg,i*3+2,none⟩=some (.int .i64 (xb Y[i].1:Nat)))
  (hs:∀y∈Y,y.1<19) (hmm:m≤1000) :
  Calls Tryz.prog 149 #[.pointer (some ⟨b,0,none⟩),.slice (some ⟨rg,0,none⟩) m cap] w fun e w'=>∃c O k,e=.returned (.slice (some ⟨c,0,none⟩) 19 19)∧CodesAt w' c 19 O∧Own Y O k ∧
   ∃v',Wt b v w w' v' (l++(bitsOf 4 ((k-4:Nat):Int)++ordB O k))∧Off b v' w' c:=by
 have m1:∀w,(Instr.makeSlice 92 (.int .i64 19) (.int .i64 19)).run Tryz.prog w=.ok (.slice (some ⟨w.heap.size,0,none⟩) 19 19) (w.alloc (.cells (rowN 19 fun _=>0) 3)):=make_ints 19 (by decide)
 have HW:=hid (And.intro hw hl);have HC:=hid (And.intro hrg hc);have HS:=hid (And.intro hm hs);clear hw hrg hc hm hs hl
 go_enter Tryz.func149,Tryz.ntmps149
 go_wp2_with fail
 have A0:AtN (w.alloc (.cells (rowN 19 fun _=>0) 3)) w.heap.size 19 (fun _=>0):=heap_alloc_new _ _
 have B0:Below w.heap.size w (w.alloc (.cells (rowN 19 fun _=>0) 3)):=(Below.refl _ _).alloc (Nat.le_refl _) _
 generalize (w.alloc (.cells (rowN 19 fun _=>0) 3))=w0 at *
 obtain ⟨c0,hc0⟩:∃c0,w.heap.size=c0:=⟨_,rfl⟩;rw [hc0] at A0 ⊢;have HC0:=hid hc0;have HA:=hid (And.intro A0 B0);clear A0 B0 hc0 m1
 go_loopw [18] (fun i wr=>∃k:Nat,k≤m∧i=.int .i64 k∧AtN wr c0 19 (symC (Y.take k))∧Below w.heap.size w wr) (fun i _=>m-(intOf i).toNat)
 case atStart=>exact ⟨0,Nat.zero_le _,rfl,HA.out.1.congr fun j _=>by simp [symC],HA.out.2⟩
 case round=>
  obtain ⟨k,hk,rfl,hA,hb⟩:=hrel;clear HA
  by_cases hlt:k<m
  ·have hlt':(k:Int)<m:=by omega
   have hkl:k<Y.length:=by have:=HS.out.1;omega
   obtain ⟨q1,q2,q3⟩:=HC.out.2 k hkl;have d1:=(hb.cell (p:=⟨rg,k*3,none⟩) HC.out.1).trans q1;have d2:=(hb.cell (p:=⟨rg,k*3+1,none⟩) HC.out.1).trans q2;have d3:=(hb.cell (p:=⟨rg,k*3+2,none⟩) HC.out.1).trans q3;have hs19:=HS.out.2 Y[k] (List.getElem_mem hkl);have NX:Hid (∀s,symC (Y.take (k+1)) s=symC (Y.take k) s+if s=Y[k].1 then 1 else 0):=hid fun s=>by rw [List.take_succ_eq_append_getElem hkl,symC_snoc]
   obtain ⟨⟨s,e⟩,hy⟩:∃y,Y[k]=y:=⟨_,rfl⟩;rw [hy] at d1 d2 d3 hs19 NX;simp only at d1 d2 d3 hs19 NX;obtain ⟨E,hE⟩:∃E,xb s=E:=⟨_,rfl⟩;rw [hE] at d3;have hX:=heap_alloc_new wr (.cells #[.int .i64 s,.int .i64 e,.int .i64 E] 187);have bX:Below wr.heap.size wr (wr.alloc (.cells #[.int .i64 s,.int .i64 e,.int .i64 E] 187)):=(Below.refl _ _).alloc (Nat.le_refl _) _;generalize hW5:wr.alloc (.cells #[.int .i64 s,.int .i64 e,.int .i64 E] 187)=w5 at *;generalize hP:wr.heap.size=P at *;have f0:w5.cell? ⟨P,0,none⟩=some (.int .i64 s):=(cell_of_row _ _ 0 _ _ _ hX).trans rfl;rw [←hP] at bX;have A5:=hA.below bX;have B5:=hb.trans (bX.mono hb.size);have g0:=A5.cell s hs19;have g1:=A5.frozen s;have hs19':(s:Int)<19:=by omega
   have hcount:symC (Y.take k) s≤1000:=Nat.le_trans (symC_le _ _) (by rw [List.length_take];omega)
   have FIN:Hid (AtN (w5.setCell ⟨c0,s,none⟩ (.int .i64 ((symC (Y.take k) s:Nat)+1:Int))) c0 19 (symC (Y.take (k+1)))∧Below w.heap.size w (w5.setCell ⟨c0,s,none⟩ (.int .i64 ((symC (Y.take k) s:Nat)+1:Int)))):=hid (by
    refine ⟨?_,B5.setCell (by rw [←HC0.out];exact Nat.le_refl _) _⟩
    have h1:=A5.set s (symC (Y.take k) s+1);refine (h1.congr (g:=symC (Y.take (k+1))) fun j hj=>?_)
    rw [NX.out j]
    by_cases hjs:j=s
    ·subst hjs;simp
    ·simp [hjs])
   generalize symC (Y.take k) s=cc at *;clear hA hb hX bX hy hE q1 q2 q3 A5 B5
   go_wp2_with fail
   refine ⟨⟨k+1,by omega,by go_num,FIN.out.1,FIN.out.2⟩,?_⟩
   simp [intOf];omega
  ·obtain rfl:k=m:=by omega
   rw [List.take_of_length_le (by have:=HS.out.1;omega)] at hA
   have HA:=hid (And.intro hA hb)
   have CB:=hid (best_most (some ⟨c0,0,none⟩) 19 19 7 ((List.range 19).map (symC Y)) wr (by simp) hA.isInts (by decide) (by decide) (by decide) (by decide) (by
    intro x hx;obtain ⟨s,_,rfl⟩:=List.mem_map.1 hx;exact Nat.le_trans (symC_le _ _) (by have:=HS.out.1;omega)))
   rw [show ((7:Nat):Int)=7 from rfl] at CB
   clear hA hb
   go_wp2_with fail
   refine CB.out.mono ?_;rintro r w1 ⟨bl,O,rfl,hF,hI,b1,hbl,hP⟩;have hO19:O.length=19:=by rw [hF.len];simp
   have HPT:Hid ((∀s,s<19→(O.getD s 0=0↔symC Y s=0))∧∃P,Huf.Taken ((List.range 19).map (symC Y)) 19 7 P∧O=(List.range 19).map fun i=>Huf.often i P):=hid ⟨fun s hs=>by
    have:=hF.some_ s (by simpa using hs)
    rwa [range_getD 19 _ _ hs] at this,hP⟩
   have HO:Hid (O.length=19∧(∀x∈O,x≤7)∧used O 15≤32768∧∀y∈Y,O.getD y.1 0≠0):=hid ⟨hO19,hF.le,hF.room,fun y hy h0=>by
    have h1:=HS.out.2 y hy
    have:=(hF.some_ y.1 (by simpa using h1)).1 h0
    rw [range_getD 19 _ _ h1] at this;exact symC_pos hy this⟩
   have CC:=hid (codes_good (some ⟨bl,0,none⟩) 19 19 (ints O) w1 (by rw [ints_length,hO19]) hI (Def.fine_ints (by omega) (fun x hx=>Nat.le_trans (hF.le x hx) (by decide)) hF.room))
   rw [ints_nats] at CC;have HN1:=hid (hO19 ▸ nums_of hI (by omega))
   have HB1:=hid (HA.out.2.trans (b1.mono HA.out.2.size));have HBL:Hid (w.heap.size≤bl):=hid (Nat.le_trans HA.out.2.size hbl);clear hF hI b1 hbl CB HA hO19 hP
   go_wp2_with fail
   refine CC.out.mono ?_;rintro r w2 ⟨bc,rfl,b2,o2⟩
   have HC2:Hid (CodesAt w2 bc 19 O):=hid (by
    refine ⟨o2.1,?_⟩;rcases o2.2 with h0 | ⟨g',cap,cur,h1,_,h3⟩
    ·exact .inl h0
    ·exact .inr ⟨g',cap,cur,h1,Nat.zero_le _,h3⟩)
   have HBC:Hid (w.heap.size≤bc):=hid (Nat.le_trans HB1.out.size (o2.lt bc rfl).1);have HB2:=hid (HB1.out.trans (b2.mono HB1.out.size));have HN2:=hid (HN1.out.below b2);clear b2 o2 CC HB1 HN1;have CO:=hid (order_any w2)
   go_wp2_with fail
   refine CO.out.mono ?_;rintro r w3 ⟨go,rfl,hgo,b3,hgo2⟩;have HC3:=hid (HC2.out.below b3);have HN3:=hid (HN2.out.below b3);have HG3:=hid (nums_atN hgo);have HGO:Hid (w.heap.size≤go):=hid (Nat.le_trans HB2.out.size hgo2);have HB3:=hid (HB2.out.trans (b3.mono HB2.out.size));clear hgo b3 hgo2 HC2 HN2 HB2 CO
   go_wp2_with fail
   go_loopw [12] (fun s wr=>∃k1:Nat,s=.slice (some ⟨go,0,none⟩) k1 19∧4≤k1∧k1≤19∧(∀i,k1≤i→i<19→O.getD (ordF i) 0=0)∧∃q,wr=w3.drewN q) (fun s _=>match s with | .slice _ n _=>n | _=>0)
   case atStart=>exact ⟨19,rfl,by decide,by decide,fun i h1 h2=>by omega,0,rfl⟩
   case round=>
    obtain ⟨k1,rfl,hk4,hk19,hrest,qq,rfl⟩:=hrel
    by_cases h4:4<k1
    ·obtain ⟨kk,hkk⟩:∃kk,k1-1=kk:=⟨_,rfl⟩;have hkk1:(k1:Int)-1=kk:=by omega
     have hkk2:kk<19:=by omega
     have cg:(w3.drewN qq).cell? ⟨go,kk,none⟩=some (.int .i64 (ordF kk:Nat)):=HG3.out.cell kk hkk2;have hoj:=ordF_lt kk;have HOK:Hid (∀x,O.getD (ordF kk) 0=x→O.getD (ordF kk) 0=x):=hid fun x h=>h
     obtain ⟨oj,hojj⟩:∃oj,ordF kk=oj:=⟨_,rfl⟩;rw [hojj] at cg hoj;have cl:(w3.drewN qq).cell? ⟨bl,oj,none⟩=some (.int .i64 (O.getD oj 0:Nat)):=HN3.out.cell oj hoj;obtain ⟨ox,hox⟩:∃ox,O.getD oj 0=ox:=⟨_,rfl⟩;rw [hox] at cl;have hoj':(oj:Int)<19:=by omega
     have hkk3:kk<k1:=by omega
     have g1:decide ((4:Int)<k1)=true:=by simp;omega
     have g2:decide (4<k1)=true:=by simp;omega
     have HOX:Hid (O.getD (ordF kk) 0=ox):=hid (by rw [hojj];exact hox)
     by_cases hz:ox=0
     ·subst hz
      have HR:Hid (∀i,kk≤i→i<19→O.getD (ordF i) 0=0):=hid fun i h1 h2=>by
       rcases Nat.lt_or_ge i k1 with h | h
       ·rw [show i=kk by omega];exact HOX.out
       ·exact hrest i h h2
      clear hrest hojj hox hkk
      go_wp2_with fail
      refine ⟨⟨kk,rfl,by omega,by omega,HR.out,_,rfl⟩,?_⟩
      show kk<k1;exact hkk3
     ·have z1:((ox:Int)==0)=false:=by simp;omega
      have z2:¬(ox:Int)=0:=by omega
      have HLAST:Hid (k1=4∨O.getD (ordF (k1-1)) 0≠0):=hid (.inr (by rw [hkk,HOX.out];exact hz))
      clear hojj hox hkk;have W4:Below w.heap.size w (w3.drewN qq):=below_draws HB3.out;have C4:CodesAt (w3.drewN qq) bc 19 O:=codes_block HC3.out rfl;have N4:NumsAt (w3.drewN qq) bl 19 fun i=>O.getD i 0:=HN3.out.block HN3.out.lt rfl
      have G4:NumsAt (w3.drewN qq) go 19 ordF:=HG3.out.block HG3.out.lt rfl;generalize hW4:w3.drewN qq=w4 at *;have T4:=(Wt.start HW.out.1).below W4;have S4:=hid (And.intro C4 (And.intro N4 G4));have O4:Off b v w4 bc∧Off b v w4 bl∧Off b v w4 go:=⟨Off.new HW.out.1 HBC.out C4.lt,Off.new HW.out.1 HBL.out N4.lt,Off.new HW.out.1 HGO.out G4.lt⟩;have HT4:=hid (And.intro T4 O4);obtain ⟨kf,hkf⟩:∃kf,k1-4=kf:=⟨_,rfl⟩;have hkf1:(k1:Int)-4=kf:=by omega
      have CB4:=hid (wbits_any b v l 4 kf w4 T4.at_ (by have:=HW.out.2;omega))
      have OWN:Hid (Own Y O k1):=hid ⟨⟨hk4,hk19⟩,HO.out.1,HO.out.2.1,hrest,HO.out.2.2.1,HO.out.2.2.2,HPT.out.1,HLAST.out,HPT.out.2⟩;have HKF:=hid hkf;clear W4 C4 N4 G4 T4 O4 hrest hkf hW4 HB3 HC3 HN3 HG3
      go_wp2_with fail
      refine CB4.out.mono ?_;rintro r w5 ⟨rfl,v5,h5,b5,n5⟩;obtain ⟨o5a,e5a⟩:=HT4.out.2.1.step b5 n5;obtain ⟨o5b,e5b⟩:=HT4.out.2.2.1.step b5 n5;obtain ⟨o5c,e5c⟩:=HT4.out.2.2.2.step b5 n5;have T5:=HT4.out.1.step h5 b5 n5;have HT5:=hid (And.intro T5 (And.intro o5a (And.intro o5b o5c)));have HS5:=hid (And.intro (codes_block S4.out.1 e5a) (And.intro (S4.out.2.1.block o5b.lt e5b) (S4.out.2.2.block o5c.lt e5c)));clear h5 b5 n5 o5a e5a o5b e5b o5c e5c T5 CB4 HT4 S4
      go_wp2_with fail
      go_loopw [68] (fun i wr=>∃(j:Nat) (u:Value),j≤k1∧i=.int .i64 j∧Wt b v w wr u (l++(bitsOf 4 (kf:Int)++ordB O j))∧Off b u wr bc∧Off b u wr bl∧Off b u wr go∧wr.heap[bc]?=w5.heap[bc]?∧wr.heap[bl]?=w5.heap[bl]?∧wr.heap[go]?=w5.heap[go]?) (fun i _=>k1-(intOf i).toNat)
      case atStart=>
       refine ⟨0,v5,Nat.zero_le _,rfl,?_,HT5.out.2.1,HT5.out.2.2.1,HT5.out.2.2.2,rfl,rfl,rfl⟩
       have:=HT5.out.1
       rw [show ordB O 0=[] from rfl,List.append_nil]
       exact this
      case round=>
       obtain ⟨j,u,hj,rfl,hT,oa,ob,oc,ea,eb,ec⟩:=hrel;clear HT5
       by_cases hjlt:j<k1
       ·have hjlt':(j:Int)<k1:=by omega
        have hj19:j<19:=by omega
        have cg:=(HS5.out.2.2.block (w':=wr) oc.lt ec).cell j hj19;have hoj:=ordF_lt j;have NXB:Hid (ordB O (j+1)=ordB O j++bitsOf 3 ((O.getD (ordF j) 0:Nat):Int)):=hid (ordB_succ O j);have hlenB:(ordB O j).length=3*j:=ordB_length O j;generalize ordF j=oj at *;have cl:=(HS5.out.2.1.block (w':=wr) ob.lt eb).cell oj hoj;have hoj':(oj:Int)<19:=by omega
        generalize O.getD oj 0=ox at *;have CB6:=hid (wbits_any b u (l++(bitsOf 4 (kf:Int)++ordB O j)) 3 ox wr hT.at_ (by rw [List.length_append,List.length_append,bitsOf_length,hlenB];have:=HW.out.2;omega))
        have HT6:=hid (And.intro hT (And.intro oa (And.intro ob (And.intro oc (And.intro ea (And.intro eb ec))))));clear hT oa ob oc ea eb ec hlenB
        go_wp2_with fail
        refine CB6.out.mono ?_;rintro r w7 ⟨rfl,v7,h7,b7,n7⟩;obtain ⟨x1,x2,x3,x4,x5,x6,x7⟩:=HT6.out;obtain ⟨o5a,e5a⟩:=x2.step b7 n7;obtain ⟨o5b,e5b⟩:=x3.step b7 n7;obtain ⟨o5c,e5c⟩:=x4.step b7 n7;have T7:=x1.step h7 b7 n7;rw [show cnt 3=3 from rfl,List.append_assoc,List.append_assoc,←NXB.out] at T7
        have HT7:=hid (And.intro T7 (And.intro o5a (And.intro o5b (And.intro o5c (And.intro (e5a.trans x5) (And.intro (e5b.trans x6) (e5c.trans x7)))))));clear x1 x2 x3 x4 x5 x6 x7 o5a e5a o5b e5b o5c e5c T7 h7 b7 n7 CB6 HT6 cg cl
        go_wp2_with fail
        refine ⟨⟨j+1,v7,by omega,by go_num,HT7.out⟩,?_⟩
        simp [intOf];omega
       ·obtain rfl:j=k1:=by omega
        have HT6:=hid (And.intro hT (And.intro oa (codes_block HS5.out.1 ea)));clear hT oa ob oc ea eb ec
        go_wp2_with fail
        go_ret;exact ⟨bc,O,j,rfl,HT6.out.2.2,OWN.out,u,by rw [HKF.out];exact HT6.out.1,HT6.out.2.1⟩
    ·have g1:decide ((4:Int)<k1)=false:=by simp;omega
     have g2:decide (4<k1)=false:=by simp;omega
     have HLAST:Hid (k1=4∨O.getD (ordF (k1-1)) 0≠0):=hid (.inl (by omega))
     have W4:Below w.heap.size w (w3.drewN qq):=below_draws HB3.out;have C4:CodesAt (w3.drewN qq) bc 19 O:=codes_block HC3.out rfl;have N4:NumsAt (w3.drewN qq) bl 19 fun i=>O.getD i 0:=HN3.out.block HN3.out.lt rfl
     have G4:NumsAt (w3.drewN qq) go 19 ordF:=HG3.out.block HG3.out.lt rfl;generalize hW4:w3.drewN qq=w4 at *;have T4:=(Wt.start HW.out.1).below W4;have S4:=hid (And.intro C4 (And.intro N4 G4));have O4:Off b v w4 bc∧Off b v w4 bl∧Off b v w4 go:=⟨Off.new HW.out.1 HBC.out C4.lt,Off.new HW.out.1 HBL.out N4.lt,Off.new HW.out.1 HGO.out G4.lt⟩;have HT4:=hid (And.intro T4 O4);obtain ⟨kf,hkf⟩:∃kf,k1-4=kf:=⟨_,rfl⟩;have hkf1:(k1:Int)-4=kf:=by omega
     have CB4:=hid (wbits_any b v l 4 kf w4 T4.at_ (by have:=HW.out.2;omega))
     have OWN:Hid (Own Y O k1):=hid ⟨⟨hk4,hk19⟩,HO.out.1,HO.out.2.1,hrest,HO.out.2.2.1,HO.out.2.2.2,HPT.out.1,HLAST.out,HPT.out.2⟩;have HKF:=hid hkf;clear W4 C4 N4 G4 T4 O4 hrest hkf hW4 HB3 HC3 HN3 HG3
     go_wp2_with fail
     refine CB4.out.mono ?_;rintro r w5 ⟨rfl,v5,h5,b5,n5⟩;obtain ⟨o5a,e5a⟩:=HT4.out.2.1.step b5 n5;obtain ⟨o5b,e5b⟩:=HT4.out.2.2.1.step b5 n5;obtain ⟨o5c,e5c⟩:=HT4.out.2.2.2.step b5 n5;have T5:=HT4.out.1.step h5 b5 n5;have HT5:=hid (And.intro T5 (And.intro o5a (And.intro o5b o5c)));have HS5:=hid (And.intro (codes_block S4.out.1 e5a) (And.intro (S4.out.2.1.block o5b.lt e5b) (S4.out.2.2.block o5c.lt e5c)));clear h5 b5 n5 o5a e5a o5b e5b o5c e5c T5 CB4 HT4 S4
     go_wp2_with fail
     go_loopw [68] (fun i wr=>∃(j:Nat) (u:Value),j≤k1∧i=.int .i64 j∧Wt b v w wr u (l++(bitsOf 4 (kf:Int)++ordB O j))∧Off b u wr bc∧Off b u wr bl∧Off b u wr go∧wr.heap[bc]?=w5.heap[bc]?∧wr.heap[bl]?=w5.heap[bl]?∧wr.heap[go]?=w5.heap[go]?) (fun i _=>k1-(intOf i).toNat)
     case atStart=>
      refine ⟨0,v5,Nat.zero_le _,rfl,?_,HT5.out.2.1,HT5.out.2.2.1,HT5.out.2.2.2,rfl,rfl,rfl⟩
      have:=HT5.out.1
      rw [show ordB O 0=[] from rfl,List.append_nil]
      exact this
     case round=>
      obtain ⟨j,u,hj,rfl,hT,oa,ob,oc,ea,eb,ec⟩:=hrel;clear HT5
      by_cases hjlt:j<k1
      ·have hjlt':(j:Int)<k1:=by omega
       have hj19:j<19:=by omega
       have cg:=(HS5.out.2.2.block (w':=wr) oc.lt ec).cell j hj19;have hoj:=ordF_lt j;have NXB:Hid (ordB O (j+1)=ordB O j++bitsOf 3 ((O.getD (ordF j) 0:Nat):Int)):=hid (ordB_succ O j);have hlenB:(ordB O j).length=3*j:=ordB_length O j;generalize ordF j=oj at *;have cl:=(HS5.out.2.1.block (w':=wr) ob.lt eb).cell oj hoj;have hoj':(oj:Int)<19:=by omega
       generalize O.getD oj 0=ox at *;have CB6:=hid (wbits_any b u (l++(bitsOf 4 (kf:Int)++ordB O j)) 3 ox wr hT.at_ (by rw [List.length_append,List.length_append,bitsOf_length,hlenB];have:=HW.out.2;omega))
       have HT6:=hid (And.intro hT (And.intro oa (And.intro ob (And.intro oc (And.intro ea (And.intro eb ec))))));clear hT oa ob oc ea eb ec hlenB
       go_wp2_with fail
       refine CB6.out.mono ?_;rintro r w7 ⟨rfl,v7,h7,b7,n7⟩;obtain ⟨x1,x2,x3,x4,x5,x6,x7⟩:=HT6.out;obtain ⟨o5a,e5a⟩:=x2.step b7 n7;obtain ⟨o5b,e5b⟩:=x3.step b7 n7;obtain ⟨o5c,e5c⟩:=x4.step b7 n7;have T7:=x1.step h7 b7 n7;rw [show cnt 3=3 from rfl,List.append_assoc,List.append_assoc,←NXB.out] at T7
       have HT7:=hid (And.intro T7 (And.intro o5a (And.intro o5b (And.intro o5c (And.intro (e5a.trans x5) (And.intro (e5b.trans x6) (e5c.trans x7)))))));clear x1 x2 x3 x4 x5 x6 x7 o5a e5a o5b e5b o5c e5c T7 h7 b7 n7 CB6 HT6 cg cl
       go_wp2_with fail
       refine ⟨⟨j+1,v7,by omega,by go_num,HT7.out⟩,?_⟩
       simp [intOf];omega
      ·obtain rfl:j=k1:=by omega
       have HT6:=hid (And.intro hT (And.intro oa (codes_block HS5.out.1 ea)));clear hT oa ob oc ea eb ec
       go_wp2_with fail
       go_ret;exact ⟨bc,O,j,rfl,HT6.out.2.2,OWN.out,u,by rw [HKF.out];exact HT6.out.1,HT6.out.2.1⟩
end Go.Proofs.YthbjllabgpaaaaaGreat.Dfl
