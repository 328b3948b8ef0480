/-
  What codedBlock hands back writes; contract of deflate's Coded.
-/
import Derived.Test.YthbjllabgpaaaaaGreatDflCodF
import Derived.Test.YthbjllabgpaaaaaGreatDflCodO
namespace Go.Proofs.YthbjllabgpaaaaaGreat.Dfl
open Go.ChangeShapes Go.WideShapes Go.ChangeAt Go.RowKit
open Go.Proofs.YthbjllabgpaaaaaGreat.Bit (WrAt But Near bitsOf bitsOf_length)
open Go.Proofs.YthbjllabgpaaaaaGreat.Lz (Tok okT IsToks tokC valid_any)
open Go.Proofs.YthbjllabgpaaaaaGreat.Def
open Go.Proofs.YthbjllabgpaaaaaGreat.Huf (IsInts used nats)
open Go.Proofs.YthbjllabgpaaaaaGreat.Sym
set_option linter.unusedVariables false
set_option maxRecDepth 100000
theorem codedBlock_any (a:Option Addr) (q c:Nat) (own last:Bool) (l:List Tok) (w:World) (hT:IsToks w a l) (hq:l.length=q) (hq2:q≤6000) (hv:l.all okT=true) :
  Calls Tryz.prog 100 #[.slice a q c,.bool own,.bool last] w fun r w'=>∃v,r=.returned v∧CoB w.heap.size w' a q c l own last v∧Below w.heap.size w w':=by
 cases own with
 | false=>exact coded_fixed a q c last l w hT hq hq2 hv
 | true=>exact coded_own a q c last l w hT hq hq2 hv
def CodY (own last:Bool) (l:List Tok) (X:List Bool):Prop:=
 (own=false∧Fit fxL fxD l∧X=[last,true,false]++wrBits fxL fxD l)∨(own=true∧∃N M k O Y,IsHdr N M k O Y∧Fit N M l∧X=[last,false,true]++(hdrB N M k O Y++wrBits N M l))
def CodZ (own last:Bool) (l:List Tok) (X:List Bool):Prop:=
 (own=false∧X=[last,true,false]++wrBits fxL fxD l)∨(own=true∧∃N M k O Y,HdrOf N M k O Y∧Best (litC l) 286 257 N∧Best (dstC l) 30 1 M∧X=[last,false,true]++(hdrB N M k O Y++wrBits N M l))
theorem Own.det {Y:List (Nat×Nat)} {O Q:List Nat} {k j:Nat} (h:Own Y O k) (g:Own Y Q j):O=Q∧k=j:=by
 obtain ⟨P,h1,rfl⟩:=h.tk;obtain ⟨R,g1,rfl⟩:=g.tk;exact ⟨by rw [h1.det g1],Nat.le_antisymm (own_k h g) (own_k g h)⟩
theorem CodZ.det {own last:Bool} {l:List Tok} {X Z:List Bool} (h:CodZ own last l X) (g:CodZ own last l Z):X=Z:=by
 rcases h with ⟨h1,rfl⟩ | ⟨h1,N,M,k,O,Y,⟨h2,_,h3⟩,h4,h5,rfl⟩
 ·rcases g with ⟨_,rfl⟩ | ⟨g1,_⟩
  ·rfl
  ·rw [h1] at g1;cases g1
 ·rcases g with ⟨g1,_⟩ | ⟨_,N',M',k',O',Y',⟨g2,_,g3⟩,g4,g5,rfl⟩
  ·rw [h1] at g1;cases g1
  ·obtain rfl:=h4.det g4;obtain rfl:=h5.det g5;obtain rfl:=h2.det _ g2;obtain ⟨rfl,rfl⟩:=h3.det g3
   rfl
theorem CodX.pin {own last:Bool} {N M:List Nat} {l:List Tok} {X:List Bool} (h:CodX own last N M l X) (hp:Pinned own l N M):CodZ own last l X:=by
 rcases h with ⟨h1,rfl⟩ | ⟨h1,k,O,Y,_,h3,rfl⟩
 ·obtain ⟨rfl,rfl⟩:=hp.1 h1;exact .inl ⟨h1,rfl⟩
 ·exact .inr ⟨h1,N,M,k,O,Y,h3,(hp.2 h1).1,(hp.2 h1).2,rfl⟩
theorem CoB.puts {B:Nat} {w':World} {a:Option Addr} {q c:Nat} {l:List Tok} {own last:Bool} {v:Value} (h:CoB B w' a q c l own last v) (hq:l.length=q) (hq2:q≤6000) :
  ∃(K p1 p2 p3 p4 p5 p6:Nat),v=.agg #[.int .i64 (K:Nat),.func (.func 127) #[] #[.pointer (some ⟨p1,0,none⟩),.pointer (some ⟨p2,0,none⟩),.pointer (some ⟨p3,0,none⟩),.pointer (some ⟨p4,0,none⟩),.pointer (some ⟨p5,0,none⟩),.pointer (some ⟨p6,0,none⟩)]]∧(own=false→K=3+(wrBits fxL fxD l).length)∧K≤1000000∧(∃X,CodZ own last l X∧X.length=K) ∧
   ∀w2,w'.heap.size≤w2.heap.size→(∀k,B≤k→k<w'.heap.size→w2.heap[k]?=w'.heap[k]?)→(∀x,0<q→a=some x→w2.heap[x.block]?=w'.heap[x.block]?)→∀b v l0,WrAt w2 b v l0→l0.length≤800000→b<B→(∀k,v.ownBlock=some k→k<B)→(∀x,0<q→a=some x→x.block≠b∧v.ownBlock≠some x.block) →
    Calls Tryz.prog 127 #[.pointer (some ⟨b,0,none⟩),.pointer (some ⟨p1,0,none⟩),.pointer (some ⟨p2,0,none⟩),.pointer (some ⟨p3,0,none⟩),.pointer (some ⟨p4,0,none⟩),.pointer (some ⟨p5,0,none⟩),.pointer (some ⟨p6,0,none⟩)] w2 fun r w3=>r=.returned (.tuple #[])∧∃v' X,Wt b v w2 w3 v' (l0++X)∧X.length=K∧CodY own last l X∧CodZ own last l X:=by
 obtain ⟨K,p3,p4,p5,p7,p8,p9,gl,nl,cl,gm,ml,cm,kind,N,M,rfl,hH,hB,hN,hM,hF,hk,hR,hX,hn,hm,X0,hX0,hK⟩:=h.is
 have hlen:∀X,CodX own last N M l X→X.length=K:=by
  intro X hX1;rcases hX1 with ⟨h1,rfl⟩ | ⟨h1,k,O,Y,h2,h3,rfl⟩
  ·rcases hX0 with ⟨_,rfl⟩ | ⟨g1,_⟩
   ·exact hK.symm
   ·rw [h1] at g1;cases g1
  ·rcases hX0 with ⟨g1,_⟩ | ⟨_,j,Q,Z,g2,g3,rfl⟩
   ·rw [h1] at g1;cases g1
   ·rw [hK]
    have:=hdr_same h3 g3
    simp only [List.length_append];omega
 have hw90:(wrBits N M l).length≤600000:=by
  unfold wrBits;rw [List.length_append]
  have:=toksW_length N M l
  have:=cd_length N 256
  omega
 refine ⟨K,p5,p7,p4,p8,p9,p3,rfl,fun ho=>?_,?_,⟨X0,hX0.pin hX,hK.symm⟩,fun w2 hz hk2 hkt b v l0 hw hl hbB hvB hap=>?_⟩
 ·obtain ⟨rfl,rfl⟩:=hX.1 ho;rcases hX0 with ⟨_,rfl⟩ | ⟨g1,_⟩
  ·rw [hK];simp;omega
  ·rw [ho] at g1;cases g1
 ·rcases hX0 with ⟨_,rfl⟩ | ⟨_,j,Q,Z,g2,g3,rfl⟩
  ·rw [hK];simp;omega
  ·have h1:=hdrB_length N M j Q Z;have h2:=g2.rows.length;rw [List.length_nil,List.length_append] at h2;have h3:=g2.lits;have h4:=g2.dists;have h5:=g2.many
   have h6:∀(Z:List (Nat×Nat)),(Z.flatMap (yB Q)).length≤Z.length*64:=by
    intro Z
    induction Z with
    | nil=>simp
    | cons z Z ih=>
     rw [List.flatMap_cons,List.length_append,List.length_cons]
     have:(yB Q z).length≤64:=by
      unfold yB;rw [List.length_append,bitsOf_length]
      have:(cd Q z.1).length≤32:=cd_length Q _
      have:xb z.1≤7:=by unfold xb;split <;> (try split) <;> (try split) <;> omega
      omega
     omega
   have h7:=h6 Z;rw [hK];simp only [List.length_append,List.length_cons,List.length_nil];omega
 ·have hof:∀p,B≤p∧p<w'.heap.size→Off b v w2 p:=fun p hp=>⟨Nat.lt_of_lt_of_le hp.2 hz,by omega,fun e=>by have:=hvB _ e;omega⟩
  have hA:Away b v w2 p5 p7 p4 p8 p9 p3 gl gm a q:=⟨hof _ (hB _ (by simp)),hof _ (hB _ (by simp)),hof _ (hB _ (by simp)),hof _ (hB _ (by simp)),hof _ (hB _ (by simp)),hof _ (hB _ (by simp)),hof _ (hB _ (by simp)),hof _ (hB _ (by simp)),fun x h0 hx=>by
   obtain ⟨h1,h2⟩:=hap x h0 hx;obtain ⟨b',off,e,hb',_⟩:=hH.iT (by omega)
   rw [e] at hx
   cases hx
   exact ⟨Nat.lt_of_lt_of_le hb' hz,h1,h2⟩⟩
  have hH2:Held w2 p5 p7 p4 p8 p9 p3 gl nl cl gm ml cm a q c last own kind N M l:=by
   have hc:∀p x,B≤p∧p<w'.heap.size→w'.cell? ⟨p,0,none⟩=some x→w2.cell? ⟨p,0,none⟩=some x:=fun p x hp hx=>(World.cell?_of_block (a:=⟨p,0,none⟩) (hk2 p hp.1 hp.2)).trans hx
   exact ⟨hc _ _ (hB _ (by simp)) hH.c1,hc _ _ (hB _ (by simp)) hH.c2,hc _ _ (hB _ (by simp)) hH.c3,hc _ _ (hB _ (by simp)) hH.c4,hc _ _ (hB _ (by simp)) hH.c5,hc _ _ (hB _ (by simp)) hH.c6,ints_block hH.iN (Nat.lt_of_lt_of_le (hB gl (by simp)).2 hz) (hk2 gl (hB gl (by simp)).1 (hB gl (by simp)).2),ints_block hH.iM (Nat.lt_of_lt_of_le (hB gm (by simp)).2 hz) (hk2 gm (hB gm (by simp)).1 (hB gm (by simp)).2),toks_block hH.iT (fun x h0 hx=>⟨by
    obtain ⟨b',off,e,hb',_⟩:=hH.iT h0;rw [e] at hx
    cases hx
    exact Nat.lt_of_lt_of_le hb' hz,hkt x (by omega) hx⟩)⟩
  refine (clo_any b v l0 p5 p7 p4 p8 p9 p3 gl nl cl gm ml cm a q c last own kind N M l w2 hw hl hH2 hA hN hM hq hq2 hF hk hR hn hm).mono ?_;rintro r w3 ⟨rfl,v',X,hW,hC⟩;refine ⟨rfl,v',X,hW,hlen X hC,?_,hC.pin hX⟩;rcases hC with ⟨h1,h2⟩ | ⟨h1,k,O,Y,h2,h3,h4⟩
  ·obtain ⟨rfl,rfl⟩:=hX.1 h1;exact .inl ⟨h1,hF,h2⟩
  ·exact .inr ⟨h1,N,M,k,O,Y,h2,hF,h4⟩
end Go.Proofs.YthbjllabgpaaaaaGreat.Dfl
