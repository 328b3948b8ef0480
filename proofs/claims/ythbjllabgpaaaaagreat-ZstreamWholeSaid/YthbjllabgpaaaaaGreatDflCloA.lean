/-
  Texts in one: DflClo, DflCodH.
-/
import Derived.Test.YthbjllabgpaaaaaGreatDflLengths
import Derived.Test.YthbjllabgpaaaaaGreatDflCost
import Derived.Test.YthbjllabgpaaaaaGreatDflStored
import Derived.Test.YthbjllabgpaaaaaGreatAllBit
namespace Go.Proofs.YthbjllabgpaaaaaGreat.Dfl
open Go.Lib (hid)
set_option maxHeartbeats 4000000
open Go.ChangeShapes Go.WideShapes Go.ChangeAt Go.RowKit
open Go.Proofs.YthbjllabgpaaaaaGreat.Bit (WrAt But Near bitsOf bitsOf_length)
open Go.Proofs.YthbjllabgpaaaaaGreat.Lz (Tok okT IsToks)
open Go.Proofs.YthbjllabgpaaaaaGreat.Def
open Go.Proofs.YthbjllabgpaaaaaGreat.Huf (IsInts used nats)
open Go.Proofs.YthbjllabgpaaaaaGreat.Sym
set_option linter.unusedVariables false
set_option maxRecDepth 100000
theorem ints_block {w w':World} {g:Nat} {L:List Int} (h:IsInts w (some ⟨g,0,none⟩) L) (hs:g<w'.heap.size) (k:w'.heap[g]?=w.heap[g]?):IsInts w' (some ⟨g,0,none⟩) L:=by
 intro h0;obtain ⟨b,off,e,hb,hc⟩:=h h0
 cases e
 exact ⟨g,0,rfl,hs,fun i hi=>(World.cell?_of_block (w:=w) (w':=w') (a:=⟨g,0+i,none⟩) k).trans (hc i hi)⟩
theorem toks_block {w w':World} {a:Option Addr} {l:List Tok} (h:IsToks w a l) (hk:∀x,0<l.length→a=some x→x.block<w'.heap.size∧w'.heap[x.block]?=w.heap[x.block]?):IsToks w' a l:=by
 intro h0;obtain ⟨b,off,rfl,hb,hc⟩:=h h0;obtain ⟨h1,h2⟩:=hk _ h0 rfl;refine ⟨b,off,rfl,h1,fun i hi=>?_⟩
 obtain ⟨c1,c2,c3⟩:=hc i hi;exact ⟨(World.cell?_of_block (w:=w) (w':=w') (a:=⟨b,off+i*3,none⟩) h2).trans c1,(World.cell?_of_block (w:=w) (w':=w') (a:=⟨b,off+i*3+1,none⟩) h2).trans c2,(World.cell?_of_block (w:=w) (w':=w') (a:=⟨b,off+i*3+2,none⟩) h2).trans c3⟩
structure Held (w:World) (pl pk po pn pm pt gl nl cl gm ml cm:Nat) (a:Option Addr) (q c:Nat) (last own:Bool) (kind:Nat) (N M:List Nat) (l:List Tok):Prop where
 c1:w.cell? ⟨pl,0,none⟩=some (.bool last)
 c2:w.cell? ⟨pk,0,none⟩=some (.int .i64 kind)
 c3:w.cell? ⟨po,0,none⟩=some (.bool own)
 c4:w.cell? ⟨pn,0,none⟩=some (.slice (some ⟨gl,0,none⟩) nl cl)
 c5:w.cell? ⟨pm,0,none⟩=some (.slice (some ⟨gm,0,none⟩) ml cm)
 c6:w.cell? ⟨pt,0,none⟩=some (.slice a q c)
 iN:IsInts w (some ⟨gl,0,none⟩) (ints N)
 iM:IsInts w (some ⟨gm,0,none⟩) (ints M)
 iT:IsToks w a l
structure Away (b:Nat) (v:Value) (w:World) (pl pk po pn pm pt gl gm:Nat) (a:Option Addr) (q:Nat):Prop where
 o1:Off b v w pl
 o2:Off b v w pk
 o3:Off b v w po
 o4:Off b v w pn
 o5:Off b v w pm
 o6:Off b v w pt
 o7:Off b v w gl
 o8:Off b v w gm
 o9:∀x,0<q→a=some x→Off b v w x.block
theorem Away.step {b:Nat} {v v':Value} {w w':World} {pl pk po pn pm pt gl nl cl gm ml cm:Nat} {a:Option Addr} {q c:Nat} {last own:Bool} {kind:Nat} {N M:List Nat} {l:List Tok} (h:Away b v w pl pk po pn pm pt gl gm a q) (hl:l.length=q)
  (g:Held w pl pk po pn pm pt gl nl cl gm ml cm a q c last own kind N M l) (k:But b v w w') (n:Near w v v'):Away b v' w' pl pk po pn pm pt gl gm a q∧Held w' pl pk po pn pm pt gl nl cl gm ml cm a q c last own kind N M l:=by
 have hc:∀P x,Off b v w P→w.cell? ⟨P,0,none⟩=some x→w'.cell? ⟨P,0,none⟩=some x:=fun P x hP hx=>(World.cell?_of_block (w:=w) (w':=w') (a:=⟨P,0,none⟩) (hP.step k n).2).trans hx
 refine ⟨⟨(h.o1.step k n).1,(h.o2.step k n).1,(h.o3.step k n).1,(h.o4.step k n).1,(h.o5.step k n).1,(h.o6.step k n).1,(h.o7.step k n).1,(h.o8.step k n).1,fun x h0 hx=>((h.o9 x h0 hx).step k n).1⟩,?_⟩
 exact ⟨hc _ _ h.o1 g.c1,hc _ _ h.o2 g.c2,hc _ _ h.o3 g.c3,hc _ _ h.o4 g.c4,hc _ _ h.o5 g.c5,hc _ _ h.o6 g.c6,ints_block g.iN (h.o7.step k n).1.lt (h.o7.step k n).2,ints_block g.iM (h.o8.step k n).1.lt (h.o8.step k n).2,
  toks_block g.iT fun x h0 hx=>⟨((h.o9 x (by omega) hx).step k n).1.lt,((h.o9 x (by omega) hx).step k n).2⟩⟩
def Rng (N M:List Nat):Prop:=(257≤N.length∧N.length≤286)∧(1≤M.length∧M.length≤30)∧(∀x∈N,x≤15)∧∀x∈M,x≤15
theorem Rng.odd {N M:List Nat} (h:Rng N M):oddH (ints N) (ints M)=false:=by
 obtain ⟨h1,h2,h3,h4⟩:=h
 have hi:∀(N:List Nat),(∀x∈N,x≤15)→Huf.allIn 15 (ints N)=true:=fun N h=>by
  rw [Huf.allIn_iff];intro x hx;obtain ⟨y,hy,rfl⟩:=List.mem_map.1 hx
  have:=h y hy
  omega
 unfold oddH;rw [ints_length,ints_length,hi N h3,hi M h4,decide_eq_false (by omega),decide_eq_false (by omega),decide_eq_false (by omega),decide_eq_false (by omega)]
 rfl
def CodX (own last:Bool) (N M:List Nat) (l:List Tok) (X:List Bool):Prop:=
 (own=false∧X=[last,true,false]++wrBits N M l)∨(own=true∧∃k O Y,IsHdr N M k O Y∧HdrOf N M k O Y∧X=[last,false,true]++(hdrB N M k O Y++wrBits N M l))
theorem clo_any (b:Nat) (v:Value) (l0:List Bool) (pl pk po pn pm pt gl nl cl gm ml cm:Nat) (a:Option Addr) (q c:Nat) (last own:Bool) (kind:Nat) (N M:List Nat) (l:List Tok) (w:World) (hw:WrAt w b v l0) (hl0:l0.length≤800000)
  (hH:Held w pl pk po pn pm pt gl nl cl gm ml cm a q c last own kind N M l) (hA:Away b v w pl pk po pn pm pt gl gm a q) (hN:N.length=nl) (hM:M.length=ml) (hq:l.length=q) (hq2:q≤6000) (hF:Fit N M l) (hk:kind=if own then 2 else 1) (hR:own=true→Rng N M) (hn:nl≤1000) (hm:ml≤1000) :
  Calls Tryz.prog 127 #[.pointer (some ⟨b,0,none⟩),.pointer (some ⟨pl,0,none⟩),.pointer (some ⟨pk,0,none⟩),.pointer (some ⟨po,0,none⟩),.pointer (some ⟨pn,0,none⟩),.pointer (some ⟨pm,0,none⟩),.pointer (some ⟨pt,0,none⟩)] w fun r w'=>r=.returned (.tuple #[])∧∃v' X,Wt b v w w' v' (l0++X)∧CodX own last N M l X:=by
 have HS:=hid (And.intro (Wt.start hw) (And.intro hA hH));have CB:=hid (begin_any b v v l0 last kind w w (Wt.start hw) (by omega))
 obtain ⟨c1,c2,c3,c4,c5,c6,_,_,_⟩:=hH
 have hE:wrE (ints N) (ints M) l=0:=by
  unfold wrE;rw [if_pos hF.1,if_pos ⟨hF.2.1,hF.2.2⟩]
 have WR:Hid (∀w1 v1 l1,Away b v1 w1 pl pk po pn pm pt gl gm a q→Held w1 pl pk po pn pm pt gl nl cl gm ml cm a q c last own kind N M l→WrAt w1 b v1 l1→l1.length≤1000000 →
   Calls Tryz.prog 128 #[.pointer (some ⟨b,0,none⟩),.slice (some ⟨gl,0,none⟩) nl cl,.slice (some ⟨gm,0,none⟩) ml cm,.slice a q c] w1 fun r w'=>r=.returned (.int .i64 0)∧∃v',WrAt w' b v' (l1++wrBits N M l)∧But b v1 w1 w'∧Near w1 v1 v'):=hid fun w1 v1 l1 h1 h2 h3 h4=>by
  have:=write_any b v1 l1 (some ⟨gl,0,none⟩) (some ⟨gm,0,none⟩) a nl cl ml cm q c (ints N) (ints M) l w1 h3 (by rw [ints_length,hN]) (by rw [ints_length,hM]) hq h2.iN h2.iM h2.iT (fun h0 x hx=>⟨(h1.o9 x h0 hx).ne,(h1.o9 x h0 hx).own⟩) (by omega) (by omega) (by omega) (by omega)
  rw [hE,if_pos rfl,ints_nats,ints_nats] at this;exact this
 have LN:Hid (own=true→∀w1 v1 l1,Held w1 pl pk po pn pm pt gl nl cl gm ml cm a q c last own kind N M l→WrAt w1 b v1 l1→l1.length≤1000000 →
   Calls Tryz.prog 123 #[.pointer (some ⟨b,0,none⟩),.slice (some ⟨gl,0,none⟩) nl cl,.slice (some ⟨gm,0,none⟩) ml cm] w1 fun r w'=>r=.returned (.int .i64 0)∧∃k O Y,IsHdr N M k O Y∧HdrOf N M k O Y∧(hdrB N M k O Y).length≤100000∧∃v',Wt b v1 w1 w' v' (l1++hdrB N M k O Y)):=hid fun ho w1 v1 l1 h2 h3 h4=>by
  refine (lengths_any b v1 l1 (some ⟨gl,0,none⟩) (some ⟨gm,0,none⟩) nl cl ml cm (ints N) (ints M) w1 h3 h4 (by rw [ints_length,hN]) (by rw [ints_length,hM]) h2.iN h2.iM).mono ?_
  rintro r w' ⟨e,l1',rfl,hX,hlen,v',hv⟩;rcases hX with ⟨h5,_⟩ | ⟨_,rfl,k,O,Y,h6,h7,rfl⟩
  ·rw [(hR ho).odd] at h5;cases h5
  ·rw [ints_nats,ints_nats] at h6 h7 hlen hv;exact ⟨rfl,k,O,Y,h6,h7,hlen,v',hv⟩
 have HQ:=hid (And.intro hq hl0);have HK:=hid hk;clear hw hl0 hA hN hM hq hF hk hR hE
 go_enter Tryz.func127,Tryz.ntmps127
 go_wp2_with fail
 refine CB.out.mono ?_;rintro r w1 ⟨rfl,v1,T1⟩;obtain ⟨A1,H1⟩:=HS.out.2.1.step HQ.out.1 HS.out.2.2 T1.but T1.near;have HT1:=hid (HS.out.1.step T1.at_ T1.but T1.near);have HA1:=hid (And.intro A1 H1);have d3:=H1.c3;have d4:=H1.c4;have d5:=H1.c5;have d6:=H1.c6;clear T1 A1 H1 CB c1 c2 c3 c4 c5 c6 HS
 cases own with
 | false=>
  have hk1:kind=1:=HK.out;subst hk1;have CW:=hid (WR.out w1 v1 _ HA1.out.1 HA1.out.2 HT1.out.at_ (by rw [List.length_append,List.length_cons,bitsOf_length];have:=HQ.out.2;omega))
  clear LN
  go_wp2_with fail
  refine CW.out.mono ?_;rintro r w2 ⟨rfl,v2,h2,b2,n2⟩;have T2:=hid (HT1.out.step h2 b2 n2);clear h2 b2 n2 CW
  go_wp2_with fail
  go_end0;refine ⟨rfl,v2,_,?_,.inl ⟨rfl,rfl⟩⟩
  have:=T2.out
  rw [List.append_assoc] at this;exact this
 | true=>
  have hk1:kind=2:=HK.out;subst hk1;have CL:=hid (LN.out rfl w1 v1 _ HA1.out.2 HT1.out.at_ (by rw [List.length_append,List.length_cons,bitsOf_length];have:=HQ.out.2;omega))
  clear LN
  go_wp2_with fail
  refine CL.out.mono ?_;rintro r w2 ⟨rfl,k,O,Y,g1,g2,g3,v2,T2⟩;obtain ⟨A2,H2⟩:=HA1.out.1.step HQ.out.1 HA1.out.2 T2.but T2.near;have HT2:=hid (HT1.out.step T2.at_ T2.but T2.near);have e4:=H2.c4;have e5:=H2.c5;have e6:=H2.c6;have CW:=hid (WR.out w2 v2 _ A2 H2 HT2.out.at_ (by rw [List.length_append,List.length_append,List.length_cons,bitsOf_length];have:=HQ.out.2;omega))
  have HG:=hid (And.intro g1 g2);clear g1 g2 g3 T2 A2 H2 d3 d4 d5 d6 CL HT1 HA1 WR
  go_wp2_with fail
  refine CW.out.mono ?_;rintro r w3 ⟨rfl,v3,h3,b3,n3⟩;have T3:=hid (HT2.out.step h3 b3 n3);clear h3 b3 n3 CW
  go_wp2_with fail
  go_end0;refine ⟨rfl,v3,_,?_,.inr ⟨rfl,k,O,Y,HG.out.1,HG.out.2,rfl⟩⟩
  have:=T3.out
  rw [List.append_assoc,List.append_assoc] at this;exact this
end Go.Proofs.YthbjllabgpaaaaaGreat.Dfl
namespace Go.Proofs.YthbjllabgpaaaaaGreat.Dfl
open Go.Lib (hid)
set_option maxHeartbeats 4000000
open Go.ChangeShapes Go.WideShapes Go.ChangeAt Go.RowKit
open Go.Proofs.YthbjllabgpaaaaaGreat.Bit (WrAt But Near bitsOf bitsOf_length wlen_any)
open Go.Proofs.YthbjllabgpaaaaaGreat.Lz (Tok okT IsToks)
open Go.Proofs.YthbjllabgpaaaaaGreat.Def
open Go.Proofs.YthbjllabgpaaaaaGreat.Huf (IsInts used nats eval_tmp needed_ne lead_ne)
open Go.Proofs.YthbjllabgpaaaaaGreat.Sym
open Go.Proofs.YthbjllabgpaaaaaGreat.RegTwo
set_option linter.unusedVariables false
set_option maxRecDepth 100000
theorem five (w:World) (A B C D E:Obj):((((((w.alloc A).alloc B).alloc C).alloc D).alloc E).heap[w.heap.size]?=some A∧(((((w.alloc A).alloc B).alloc C).alloc D).alloc E).heap[w.heap.size+1]?=some B∧(((((w.alloc A).alloc B).alloc C).alloc D).alloc E).heap[w.heap.size+1+1]?=some C ∧
  (((((w.alloc A).alloc B).alloc C).alloc D).alloc E).heap[w.heap.size+1+1+1]?=some D∧(((((w.alloc A).alloc B).alloc C).alloc D).alloc E).heap[w.heap.size+1+1+1+1]?=some E)∧Below w.heap.size w (((((w.alloc A).alloc B).alloc C).alloc D).alloc E):=by
 have s1:(w.alloc A).heap.size=w.heap.size+1:=by simp
 have s2:((w.alloc A).alloc B).heap.size=w.heap.size+1+1:=by simp
 have s3:(((w.alloc A).alloc B).alloc C).heap.size=w.heap.size+1+1+1:=by simp
 have s4:((((w.alloc A).alloc B).alloc C).alloc D).heap.size=w.heap.size+1+1+1+1:=by simp
 refine ⟨⟨?_,?_,?_,?_,?_⟩,((((((Below.refl _ _).alloc (Nat.le_refl _) A).alloc (by omega) B).alloc (by omega) C).alloc (by omega) D).alloc (by omega) E)⟩
 ·rw [Below.heap_alloc _ _ _ (by omega),Below.heap_alloc _ _ _ (by omega),Below.heap_alloc _ _ _ (by omega),Below.heap_alloc _ _ _ (by omega)];exact heap_alloc_new _ _
 ·rw [Below.heap_alloc _ _ _ (by omega),Below.heap_alloc _ _ _ (by omega),Below.heap_alloc _ _ _ (by omega),←s1];exact heap_alloc_new _ _
 ·rw [Below.heap_alloc _ _ _ (by omega),Below.heap_alloc _ _ _ (by omega),←s2];exact heap_alloc_new _ _
 ·rw [Below.heap_alloc _ _ _ (by omega),←s3];exact heap_alloc_new _ _
 ·rw [←s4];exact heap_alloc_new _ _
theorem two_new (w:World) (A B:Obj):((w.alloc A).alloc B).heap[w.heap.size]?=some A∧((w.alloc A).alloc B).heap[w.heap.size+1]?=some B∧Below w.heap.size w ((w.alloc A).alloc B):=by
 have s1:(w.alloc A).heap.size=w.heap.size+1:=by simp
 refine ⟨?_,?_,(((Below.refl _ _).alloc (Nat.le_refl _) A).alloc (by omega) B)⟩
 ·rw [Below.heap_alloc _ _ _ (by omega)];exact heap_alloc_new _ _
 ·rw [←s1];exact heap_alloc_new _ _
def Bx (w:World) (p:Nat) (v:Value) (T:TypeId):Prop:=w.heap[p]?=some (.cells #[v] T (0,0))
theorem Bx.cell {w:World} {p:Nat} {v:Value} {T:TypeId} (h:Bx w p v T):w.cell? ⟨p,0,none⟩=some v:=(cell_of_row _ _ 0 _ _ _ h).trans rfl
theorem Bx.frozen {w:World} {p:Nat} {v:Value} {T:TypeId} (h:Bx w p v T):w.frozen? ⟨p,0,none⟩=false:=frozen_of_row w p 0 _ _ h
theorem Bx.lt {w:World} {p:Nat} {v:Value} {T:TypeId} (h:Bx w p v T):p<w.heap.size:=(Array.getElem?_eq_some_iff.1 h).1
theorem Bx.below {w w':World} {p:Nat} {v:Value} {T:TypeId} (h:Bx w p v T) (k:Below w.heap.size w w'):Bx w' p v T:=by unfold Bx;rw [k.block p h.lt];exact h
theorem Bx.set {w:World} {p:Nat} {v:Value} {T:TypeId} (h:Bx w p v T) (u:Value):Bx (w.setCell ⟨p,0,none⟩ u) p u T:=by
 unfold Bx;rw [heap_setCell_same w p 0 _ _ _ h];rfl
theorem Bx.other {w:World} {p r:Nat} {v u:Value} {T:TypeId} (h:Bx w p v T) (hr:p≠r):Bx (w.setCell ⟨r,0,none⟩ u) p v T:=by
 unfold Bx;rw [heap_setCell_other w ⟨r,0,none⟩ p u (fun e=>hr e)];exact h
theorem Bx.block {w w':World} {p:Nat} {v:Value} {T:TypeId} (h:Bx w p v T) (k:w'.heap[p]?=w.heap[p]?):Bx w' p v T:=by unfold Bx;rw [k];exact h
theorem at_ne {w:World} {g p n:Nat} {f:Nat→Nat} {v:Value} {T:TypeId} (h:AtN w g n f) (k:Bx w p v T) (hn:n≠1):g≠p:=by
 rintro rfl;unfold AtN at h;unfold Bx at k;rw [h] at k;simp only [Option.some.injEq,Obj.cells.injEq] at k
 have:=congrArg Array.size k.1
 simp [rowN] at this;exact hn this
def codF (W0:World) (p6 K:Nat) (f:Value) (v:Value) (w':World):Prop:=w'.heap[p6]?=some (.cells #[.int .i64 (K:Nat),f] 119 (0,0))∧W0.grownBy w' (some p6)
theorem store_at {W:World} {a:Addr} {f u:Value} (hc:W.cell? a=some u) (hf:W.frozen? a=false) (h1:f.oneCell'=true):(store a f).run Tryz.prog W=.ok () (W.setCell a f):=by
 rw [run_store _ _ _ _ _ h1,hc];simp [hf]
theorem codF_one {W:World} {p6 K:Nat} {u1 u2:Value} (h:W.heap[p6]?=some (.cells #[u1,u2] 119 (0,0))):(W.setCell ⟨p6,0,none⟩ (.int .i64 (K:Nat))).heap[p6]?=some (.cells #[.int .i64 (K:Nat),u2] 119 (0,0)):=by
 rw [heap_setCell_same W p6 0 _ _ _ h];rfl
theorem codF_store {W0 W:World} {p6 K:Nat} {f v u1 u2:Value} (h:W.heap[p6]?=some (.cells #[u1,u2] 119 (0,0))) (hb:Below W0.heap.size W0 W):codF W0 p6 K f v ((W.setCell ⟨p6,0,none⟩ (.int .i64 (K:Nat))).setCell ⟨p6,1,none⟩ f):=by
 have h1:(W.setCell ⟨p6,0,none⟩ (.int .i64 (K:Nat))).heap[p6]?=some (.cells #[.int .i64 (K:Nat),u2] 119 (0,0)):=by rw [heap_setCell_same W p6 0 _ _ _ h];rfl
 have h2:((W.setCell ⟨p6,0,none⟩ (.int .i64 (K:Nat))).setCell ⟨p6,1,none⟩ f).heap[p6]?=some (.cells #[.int .i64 (K:Nat),f] 119 (0,0)):=by rw [heap_setCell_same _ p6 1 _ _ _ h1];rfl
 refine ⟨h2,⟨hb.os,hb.tape,hb.output,by have:=hb.size;simpa using this,fun k hk hne=>?_⟩⟩
 have hk6:k≠p6:=fun e=>hne (by rw [e])
 rw [heap_setCell_other _ ⟨p6,1,none⟩ k f (fun e=>hk6 e),heap_setCell_other _ ⟨p6,0,none⟩ k _ (fun e=>hk6 e)]
 exact hb.block k hk
def codU (h h3 g1 k1 s1 g2 k2 K gl nl cl gm ml cm p3 p4 p5 p7 p8 p9:Nat) (j:Nat) (v:Value) (_:World):Prop:=match j with
 | 0=>v=.int .i64 (h:Nat)
 | 1=>v=.int .i64 (h3:Nat)
 | 2=>v=.slice (some ⟨g1,0,none⟩) 286 286
 | 3=>v=.slice (some ⟨gl,0,none⟩) nl cl
 | 4=>v=.int .i64 (k1:Nat)
 | 5=>v=.int .i64 (s1:Nat)
 | 6=>v=.slice (some ⟨g2,0,none⟩) 30 30
 | 7=>v=.slice (some ⟨gm,0,none⟩) ml cm
 | 8=>v=.int .i64 (k2:Nat)
 | 9=>v=.int .i64 (K:Nat)
 | 10=>v=.func (.func 127) #[] #[.pointer (some ⟨p5,0,none⟩),.pointer (some ⟨p7,0,none⟩),.pointer (some ⟨p4,0,none⟩),.pointer (some ⟨p8,0,none⟩),.pointer (some ⟨p9,0,none⟩),.pointer (some ⟨p3,0,none⟩)]
 | 11=>v=.agg #[.int .i64 (K:Nat),.func (.func 127) #[] #[.pointer (some ⟨p5,0,none⟩),.pointer (some ⟨p7,0,none⟩),.pointer (some ⟨p4,0,none⟩),.pointer (some ⟨p8,0,none⟩),.pointer (some ⟨p9,0,none⟩),.pointer (some ⟨p3,0,none⟩)]]
 | 12=>v=undef
 | _=>True
def codFin (W0:World) (p6 K p3 p4 p5 p7 p8 p9:Nat) (j:Nat) (v:Value) (w:World):Prop:=match j with
 | 12=>codF W0 p6 K (.func (.func 127) #[] #[.pointer (some ⟨p5,0,none⟩),.pointer (some ⟨p7,0,none⟩),.pointer (some ⟨p4,0,none⟩),.pointer (some ⟨p8,0,none⟩),.pointer (some ⟨p9,0,none⟩),.pointer (some ⟨p3,0,none⟩)]) v w
 | _=>True
theorem codFin_keep {W0 W W':World} {p6 K p3 p4 p5 p7 p8 p9:Nat} (j:Nat) (u0:Value) (h12:j=12→False) (h:codFin W0 p6 K p3 p4 p5 p7 p8 p9 j u0 W):codFin W0 p6 K p3 p4 p5 p7 p8 p9 j u0 W':=by
 unfold codFin at *
 split
 ·exact (h12 rfl).elim
 ·trivial
theorem ret_blk (tmps:Array Value) (w:World) (R:Nat) (K:Nat) (f:Value) (hp:tmps.getD 6 undef=.pointer (some ⟨R,0,none⟩)) (hg:w.heap[R]?=some (.cells #[.int .i64 (K:Nat),f] 119 (0,0))) :
  (results Tryz.f100 tmps).run Tryz.prog w=.ok (.agg #[.int .i64 (K:Nat),f]) w:=
 results_cell_row rfl tmps w R 119 #[.int .i64 (K:Nat),f] (0,0) _ hp hg Tryz.underlying119 rfl (by kernel_rfl)
def Pinned (own:Bool) (l:List Tok) (N M:List Nat):Prop:=(own=false→N=fxL∧M=fxD)∧(own=true→Best (litC l) 286 257 N∧Best (dstC l) 30 1 M)
structure CoB (B:Nat) (w':World) (a:Option Addr) (q c:Nat) (l:List Tok) (own last:Bool) (r:Value):Prop where
 is:∃(K p3 p4 p5 p7 p8 p9 gl nl cl gm ml cm kind:Nat) (N M:List Nat),r=.agg #[.int .i64 (K:Nat),.func (.func 127) #[] #[.pointer (some ⟨p5,0,none⟩),.pointer (some ⟨p7,0,none⟩),.pointer (some ⟨p4,0,none⟩),.pointer (some ⟨p8,0,none⟩),.pointer (some ⟨p9,0,none⟩),.pointer (some ⟨p3,0,none⟩)]] ∧
  Held w' p5 p7 p4 p8 p9 p3 gl nl cl gm ml cm a q c last own kind N M l∧(∀p∈[p3,p4,p5,p7,p8,p9,gl,gm],B≤p∧p<w'.heap.size)∧N.length=nl∧M.length=ml∧Fit N M l∧kind=(if own then 2 else 1)∧(own=true→Rng N M)∧Pinned own l N M∧nl≤1000∧ml≤1000 ∧
  ∃X,CodX own last N M l X∧K=X.length
structure St9 (w W0:World) (a:Option Addr) (q c:Nat) (l:List Tok) (own last:Bool) (kind p3 p4 p5 p6 p7 p8 p9 p12 gl nl cl gm ml cm g1 g2:Nat) (vh:Value) (hdr:List Bool) (N M:List Nat):Prop where
 b:Below w.heap.size w W0
 x3:Bx W0 p3 (.slice a q c) 97
 x4:Bx W0 p4 (.bool own) 4
 x5:Bx W0 p5 (.bool last) 4
 x6:W0.heap[p6]?=some (.cells #[.int .i64 0,.nilFunc] 119 (0,0))
 x7:Bx W0 p7 (.int .i64 kind) 3
 x8:Bx W0 p8 (.slice (some ⟨gl,0,none⟩) nl cl) 92
 x9:Bx W0 p9 (.slice (some ⟨gm,0,none⟩) ml cm) 92
 wh:WrAt W0 p12 vh hdr
 n1:AtN W0 g1 286 (litC l)
 n2:AtN W0 g2 30 (dstC l)
 iN:IsInts W0 (some ⟨gl,0,none⟩) (ints N)
 iM:IsInts W0 (some ⟨gm,0,none⟩) (ints M)
 iT:IsToks w a l
 hq:l.length=q
 q6:q≤6000
 ge:∀p∈[p3,p4,p5,p7,p8,p9,gl,gm],w.heap.size≤p∧p≠p6
 g6:w.heap.size≤p6
 hN:N.length=nl
 hM:M.length=ml
 fit:Fit N M l
 f15:(∀x∈N,x≤15)∧∀x∈M,x≤15
 kd:kind=if own then 2 else 1
 rng:own=true→Rng N M
 fix:Pinned own l N M
 small:nl≤1000∧ml≤1000
 hdr_:(own=false∧hdr=[])∨(own=true∧∃k O Y,IsHdr N M k O Y∧HdrOf N M k O Y∧hdr=hdrB N M k O Y)
 hl:hdr.length≤100000
theorem St9.done {w W0 w':World} {a:Option Addr} {q c:Nat} {l:List Tok} {own last:Bool} {kind p3 p4 p5 p6 p7 p8 p9 p12 gl nl cl gm ml cm g1 g2 K:Nat} {vh v:Value} {hdr:List Bool} {N M:List Nat} (h:St9 w W0 a q c l own last kind p3 p4 p5 p6 p7 p8 p9 p12 gl nl cl gm ml cm g1 g2 vh hdr N M)
  (g:codF W0 p6 K (.func (.func 127) #[] #[.pointer (some ⟨p5,0,none⟩),.pointer (some ⟨p7,0,none⟩),.pointer (some ⟨p4,0,none⟩),.pointer (some ⟨p8,0,none⟩),.pointer (some ⟨p9,0,none⟩),.pointer (some ⟨p3,0,none⟩)]) v w') (hK:K=3+hdr.length+(wrBits N M l).length) :
  CoB w.heap.size w' a q c l own last (.agg #[.int .i64 (K:Nat),.func (.func 127) #[] #[.pointer (some ⟨p5,0,none⟩),.pointer (some ⟨p7,0,none⟩),.pointer (some ⟨p4,0,none⟩),.pointer (some ⟨p8,0,none⟩),.pointer (some ⟨p9,0,none⟩),.pointer (some ⟨p3,0,none⟩)]])∧Below w.heap.size w w':=by
 obtain ⟨_,g2⟩:=g;have hB:Below w.heap.size w w':=h.b.grown g2 h.b.size (fun j hj=>by cases hj;exact h.g6)
 have blk:∀p,p<W0.heap.size→p≠p6→w'.heap[p]?=W0.heap[p]?:=fun p hp hne=>g2.block p hp (fun e=>hne (by cases e;rfl))
 have m:∀p,p∈[p3,p4,p5,p7,p8,p9,gl,gm]→w.heap.size≤p∧p≠p6:=h.ge
 have gll:gl<W0.heap.size∧gm<W0.heap.size:=by
  have hn:=h.fit.2.1;have hm:=h.fit.2.2
  constructor
  ·obtain ⟨b',_,e,hb',_⟩:=h.iN (by
    rw [ints_length];rcases Nat.eq_zero_or_pos N.length with h0 | h0
    ·exfalso
     unfold cvB at hn;rw [Bool.and_eq_true,ints_nats] at hn
     have:=(covB_iff _ _ _).1 hn.2 256 (by decide) (end_needs l)
     rw [List.getD_eq_getElem?_getD,List.getElem?_eq_none (by omega)] at this
     exact this rfl
    ·exact h0)
   cases e;exact hb'
  ·rcases Nat.eq_zero_or_pos M.length with h0 | h0
   ·rcases Bool.eq_false_or_eq_true own with ho | ho
    ·have:=(h.rng ho).2.1;omega
    ·have:=(h.fix.1 ho).2
     rw [this] at h0;exact absurd h0 (by decide)
   ·obtain ⟨b',_,e,hb',_⟩:=h.iM (by rw [ints_length];exact h0)
    cases e;exact hb'
 have lt:∀p∈[p3,p4,p5,p7,p8,p9,gl,gm],p<W0.heap.size:=by
  intro p hp;simp only [List.mem_cons,List.not_mem_nil,or_false] at hp;rcases hp with rfl | rfl | rfl | rfl | rfl | rfl | rfl | rfl
  ·exact h.x3.lt
  ·exact h.x4.lt
  ·exact h.x5.lt
  ·exact h.x7.lt
  ·exact h.x8.lt
  ·exact h.x9.lt
  ·exact gll.1
  ·exact gll.2
 refine ⟨⟨K,p3,p4,p5,p7,p8,p9,gl,nl,cl,gm,ml,cm,kind,N,M,rfl,?_,fun p hp=>⟨(m p hp).1,Nat.lt_of_lt_of_le (lt p hp) g2.size⟩,h.hN,h.hM,h.fit,h.kd,h.rng,h.fix,h.small.1,h.small.2,?_⟩,hB⟩
 ·have kb:∀p,p∈[p3,p4,p5,p7,p8,p9,gl,gm]→w'.heap[p]?=W0.heap[p]?:=fun p hp=>blk p (lt p hp) (m p hp).2
  exact ⟨(h.x5.block (kb _ (by simp))).cell,(h.x7.block (kb _ (by simp))).cell,(h.x4.block (kb _ (by simp))).cell,(h.x8.block (kb _ (by simp))).cell,(h.x9.block (kb _ (by simp))).cell,(h.x3.block (kb _ (by simp))).cell,
   ints_block h.iN (Nat.lt_of_lt_of_le gll.1 g2.size) (kb _ (by simp)),ints_block h.iM (Nat.lt_of_lt_of_le gll.2 g2.size) (kb _ (by simp)),h.iT.below hB (Nat.le_refl _)⟩
 ·rcases h.hdr_ with ⟨h1,h2⟩ | ⟨h1,k,O,Y,h2,h3,h4⟩
  ·refine ⟨_,.inl ⟨h1,rfl⟩,?_⟩;rw [hK,h2];simp;omega
  ·refine ⟨_,.inr ⟨h1,k,O,Y,h2,h3,rfl⟩,?_⟩;rw [hK,h4];simp only [List.length_append,List.length_cons,List.length_nil];omega
end Go.Proofs.YthbjllabgpaaaaaGreat.Dfl
