/-
  Contract of a chain's next block.
-/
import Derived.Test.YthbjllabgpaaaaaGreatInfChA
namespace Go.Proofs.YthbjllabgpaaaaaGreat.Inf
open Go.Lib (hid)
set_option maxHeartbeats 8000000
open Go.ChangeShapes Go.WideShapes Go.ChangeAt Go.RowKit
open Go.Proofs.YthbjllabgpaaaaaGreat.Bit (RdAt tb tb_length rnew_any rgrown_trans)
open Go.Proofs.YthbjllabgpaaaaaGreat.Sym
open Go.Proofs.YthbjllabgpaaaaaGreat.Def
open Go.Proofs.YthbjllabgpaaaaaGreat.RegAct
set_option linter.unusedVariables false
set_option maxRecDepth 100000
theorem ret_next (tmps:Array Value) (w:World) (R k:Nat) (last:Bool) (s:ByteArray) (e:Int) (hp:tmps.getD 2 undef=.pointer (some ⟨R,0,none⟩)) (he:tmps.getD 3 undef=.int .i64 e) (hg:w.heap[R]?=some (.cells (blkCells k last s) 75 (0,0))) :
  (results Tryz.f35 tmps).run Tryz.prog w=.ok (.tuple #[.agg (blkCells k last s),.int .i64 e]) w:=by
 rw [ret_cell_tmp rfl tmps w R 75 (blkCells k last s) (0,0) _ hp hg Tryz.underlying75 rfl (by kernel_rfl),he]
theorem next_any (B c R p A:Nat) (m:Int) (v:Value) (l:List UInt8) (t:ByteArray) (w:World) (h:ChB w B c R (A:Nat) (us c) v l m t p false) (hBw:B≤w.heap.size) (hp:p≤(tb t).length) (ht:t.size≤1000000) (hl:l.length≤500000) (hA:A≤l.length) (hm : -1000000≤m∧m≤1000000) :
  Calls Tryz.prog 35 #[.pointer (some ⟨c,0,none⟩)] w fun r w'=>
   r=.returned (.tuple #[.agg (blkCells (blkG t l p (m-((l.length-A:Nat):Int))).1 (blkG t l p (m-((l.length-A:Nat):Int))).2.1 (blkG t l p (m-((l.length-A:Nat):Int))).2.2.1),.int .i64 (blkG t l p (m-((l.length-A:Nat):Int))).2.2.2.1]) ∧
   (∃v',ChB w' B c R (A:Nat) (us c) v' (l++(blkG t l p (m-((l.length-A:Nat):Int))).2.2.1.data.toList) m t (blkG t l p (m-((l.length-A:Nat):Int))).2.2.2.2.1 (blkG t l p (m-((l.length-A:Nat):Int))).2.2.2.2.2)∧Below B w w':=by
 obtain ⟨S,hS⟩:∃S:ByteArray,S=⟨l.toArray⟩:=⟨_,rfl⟩;obtain ⟨M,hM⟩:∃M:ByteArray,M=⟨(l.drop A).toArray⟩:=⟨_,rfl⟩;have hSz:S.size=l.length:=by rw [hS];show l.toArray.size=_;simp
 have hSl:S.data.toList=l:=by rw [hS]
 obtain ⟨N,hN⟩:∃N,l.length-A=N:=⟨_,rfl⟩;have hMz:M.size=N:=by rw [hM];show (l.drop A).toArray.size=_;simp [hN]
 obtain ⟨mo,hmo⟩:∃mo,m-(N:Int)=mo:=⟨_,rfl⟩;rw [hN,hmo];have CS:=fun W i b (hW:ChB W B c R (A:Nat) (us c) v l m t i b)=>string_any B c R i (A:Nat) m (us c) v l t b W hW (by omega)
 have CM:=fun W i b (hW:ChB W B c R (A:Nat) (us c) v l m t i b)=>made_any B c R i A m v l t b W hW (by omega) hA
 have CR:=fun W (hW:RdAt 107 W R t p false)=>iread_any R p t S mo W hW hp ht (by unfold maxLen;omega) (by omega)
 rw [hSl] at CR;rw [←hS] at CS;rw [←hM] at CM
 have hsz:(blkG t l p mo).2.2.1.size≤1000000:=by
  by_cases h0:(blkG t l p mo).2.2.2.1=0
  ·have:=(blk_ok hp h0).1
   omega
  ·rw [blk_err h0];show (0:Nat)≤_;omega
 obtain ⟨⟨k,last,s,e,q,bad⟩,hx⟩:∃x,blkG t l p mo=x:=⟨_,rfl⟩;rw [hx] at CR hsz;unfold blkCells at CR;simp only at CR hsz;rw [hx];have CS':=hid CS;have CM':=hid CM;have CR':=hid CR;have HL:=hid (And.intro hl (And.intro hsz hBw));have bl:Below w.heap.size w (w.alloc (.cells #[.int .i64 0,.bool false,.string ⟨#[]⟩] 75)):=(Below.refl _ _).alloc (Nat.le_refl _) _;have HX:=hid (heap_alloc_new w (.cells #[.int .i64 0,.bool false,.string ⟨#[]⟩] 75));have H:=hid (h.below bl);have HB:=hid (bl.mono hBw);have hms:M.size≤500000:=by omega
 have hwr:IntKind.i64.wrap (m-(M.size:Int))=mo:=by rw [hMz,hmo];exact IntWalk.i64_in _ (by omega)
 clear CS CM CR hx hS hM hSz hSl hN hMz hmo hl hA hp ht hsz h bl;simp only
 go_enter Tryz.func35,Tryz.ntmps35
 go_upto_region 1 with fail
 generalize w.alloc (.cells #[.int .i64 0,.bool false,.string ⟨#[]⟩] 75)=w1 at *;generalize hR0:w.heap.size=R0 at *;have HR0:=hid hR0;obtain ⟨c0,_,_,_,c4,_,_⟩:=H.out.cells;have hw1:B≤w1.heap.size:=by have h1:=HB.out.size;have h2:=HL.out.2.2;omega
 have HB1:=hid hw1;clear hw1 c0 c4;refine region_ops (n:=34) (by kernel_rfl) (nxU c R S M s m mo e k last) (nxF e) (NxS w1 B c R A v l m t p q bad R0 #[.int .i64 (k:Nat),.bool last,.string s]) (by kernel_rfl) (by kernel_rfl) (by rfl) (by kernel_rfl) ⟨H.out.drew,(Below.refl _ _).drew,HX.out,fun h=>by cases h⟩ ⟨?_,?_,?_,?_,?_,?_,?_,?_,?_,?_,?_,?_,?_,?_,?_,?_,?_,?_,?_,?_,?_,?_,?_,trivial⟩ ?_
 ·intro ℓ act W hl hr hd hz hS hsame hdeps;have e0:act.tmps[0]?=some (.pointer (some ⟨c,0,none⟩)):=hsame 0 (by kernel_rfl)
  have HZ:=hid hz;clear hsame hdeps hz;refine ⟨wanted_none (by rfl),fun K hK=>?_⟩
  go_simp;exact hK _ _ (by rfl) trivial (hS.still 0 (by decide) (by decide) (by decide) (some 7) (by decide) _) (fun _ _ _ h=>h) (fun _ _ _ h=>h)
 ·intro ℓ act W hl hr hd hz hS hsame hdeps;obtain ⟨x7,e7,y7⟩:=hdeps ⟨0,.data⟩ (by simp) (by rfl) (by rfl) 7 (by rfl)
  replace y7:x7=.pointer (some ⟨c,0,none⟩):=y7
  subst y7;have HZ:=hid hz;clear hsame hdeps hz;refine ⟨wanted_none (by rfl),fun K hK=>?_⟩
  go_simp;exact hK _ _ (by rfl) trivial (hS.still 1 (by decide) (by decide) (by decide) (some 8) (by decide) _) (fun _ _ _ h=>h) (fun _ _ _ h=>h)
 ·intro ℓ act W hl hr hd hz hS hsame hdeps;obtain ⟨x8,e8,y8⟩:=hdeps ⟨1,.data⟩ (by simp) (by rfl) (by rfl) 8 (by rfl)
  replace y8:x8=.pointer (some ⟨c,0,none⟩):=y8
  subst y8;have HZ:=hid hz;clear hsame hdeps hz;refine ⟨wanted_none (by rfl),fun K hK=>?_⟩
  go_simp;exact hK _ _ (by rfl) trivial (hS.still 2 (by decide) (by decide) (by decide) (some 9) (by decide) _) (fun _ _ _ h=>h) (fun _ _ _ h=>h)
 ·intro ℓ act W hl hr hd hz hS hsame hdeps;obtain ⟨x9,e9,y9⟩:=hdeps ⟨2,.data⟩ (by simp) (by rfl) (by rfl) 9 (by rfl)
  replace y9:x9=.pointer (some ⟨c,0,none⟩):=y9
  subst y9;have HZ:=hid hz;clear hsame hdeps hz;refine ⟨wanted_none (by rfl),fun K hK=>?_⟩
  have d0:=hS.ch.cells.1;go_simp;exact hK _ _ (by rfl) trivial (hS.still 3 (by decide) (by decide) (by decide) (some 10) (by decide) _) (fun _ _ _ h=>h) (fun _ _ _ h=>h)
 ·intro ℓ act W hl hr hd hz hS hsame hdeps;have e0:act.tmps[0]?=some (.pointer (some ⟨c,0,none⟩)):=hsame 0 (by kernel_rfl)
  have HZ:=hid hz;clear hsame hdeps hz;refine ⟨wanted_none (by rfl),fun K hK=>?_⟩
  go_simp;exact hK _ _ (by rfl) trivial (hS.still 4 (by decide) (by decide) (by decide) (some 11) (by decide) _) (fun _ _ _ h=>h) (fun _ _ _ h=>h)
 ·intro ℓ act W hl hr hd hz hS hsame hdeps;obtain ⟨x11,e11,y11⟩:=hdeps ⟨4,.data⟩ (by simp) (by rfl) (by rfl) 11 (by rfl)
  replace y11:x11=.pointer (some ⟨c,0,none⟩):=y11
  subst y11;have HZ:=hid hz;clear hsame hdeps hz;refine ⟨wanted_none (by rfl),fun K hK=>?_⟩
  go_simp;exact hK _ _ (by rfl) trivial (hS.still 5 (by decide) (by decide) (by decide) (some 12) (by decide) _) (fun _ _ _ h=>h) (fun _ _ _ h=>h)
 ·intro ℓ act W hl hr hd hz hS hsame hdeps;obtain ⟨x12,e12,y12⟩:=hdeps ⟨5,.data⟩ (by simp) (by rfl) (by rfl) 12 (by rfl)
  replace y12:x12=.pointer (some ⟨c,0,none⟩):=y12
  subst y12;have HZ:=hid hz;clear hsame hdeps hz;refine ⟨wanted_none (by rfl),fun K hK=>?_⟩
  go_simp;exact hK _ _ (by rfl) trivial (hS.still 6 (by decide) (by decide) (by decide) (some 13) (by decide) _) (fun _ _ _ h=>h) (fun _ _ _ h=>h)
 ·intro ℓ act W hl hr hd hz hS hsame hdeps;obtain ⟨x13,e13,y13⟩:=hdeps ⟨6,.data⟩ (by simp) (by rfl) (by rfl) 13 (by rfl)
  replace y13:x13=.pointer (some ⟨c,2,none⟩):=y13
  subst y13;have HZ:=hid hz;clear hsame hdeps hz;refine ⟨wanted_none (by rfl),fun K hK=>?_⟩
  go_simp;refine (CS'.out W _ _ hS.ch).mono ?_;rintro r w' ⟨rfl,h',b',o'⟩;exact hK _ _ (by rfl) trivial (hS.keep 7 (by decide) (by decide) (by decide) (some 14) (by decide) _ (fun j b hj=>by have:=(ChB.same hj hS.ch).1;have h2:=(ChB.same hj hS.ch).2;rw [this,h2];exact h') b' o') (fun _ _ _ h=>h) (fun _ _ _ h=>h)
 ·intro ℓ act W hl hr hd hz hS hsame hdeps;have e0:act.tmps[0]?=some (.pointer (some ⟨c,0,none⟩)):=hsame 0 (by kernel_rfl)
  have HZ:=hid hz;clear hsame hdeps hz;refine ⟨wanted_none (by rfl),fun K hK=>?_⟩
  go_simp;exact hK _ _ (by rfl) trivial (hS.still 8 (by decide) (by decide) (by decide) (some 15) (by decide) _) (fun _ _ _ h=>h) (fun _ _ _ h=>h)
 ·intro ℓ act W hl hr hd hz hS hsame hdeps;obtain ⟨x15,e15,y15⟩:=hdeps ⟨8,.data⟩ (by simp) (by rfl) (by rfl) 15 (by rfl)
  replace y15:x15=.pointer (some ⟨c,0,none⟩):=y15
  subst y15;have HZ:=hid hz;clear hsame hdeps hz;refine ⟨wanted_none (by rfl),fun K hK=>?_⟩
  go_simp;exact hK _ _ (by rfl) trivial (hS.still 9 (by decide) (by decide) (by decide) (some 16) (by decide) _) (fun _ _ _ h=>h) (fun _ _ _ h=>h)
 ·intro ℓ act W hl hr hd hz hS hsame hdeps;obtain ⟨x16,e16,y16⟩:=hdeps ⟨9,.data⟩ (by simp) (by rfl) (by rfl) 16 (by rfl)
  replace y16:x16=.pointer (some ⟨c,0,none⟩):=y16
  subst y16;have HZ:=hid hz;clear hsame hdeps hz;refine ⟨wanted_none (by rfl),fun K hK=>?_⟩
  go_simp;exact hK _ _ (by rfl) trivial (hS.still 10 (by decide) (by decide) (by decide) (some 17) (by decide) _) (fun _ _ _ h=>h) (fun _ _ _ h=>h)
 ·intro ℓ act W hl hr hd hz hS hsame hdeps;obtain ⟨x17,e17,y17⟩:=hdeps ⟨10,.data⟩ (by simp) (by rfl) (by rfl) 17 (by rfl)
  replace y17:x17=.pointer (some ⟨c,4,none⟩):=y17
  subst y17;have HZ:=hid hz;clear hsame hdeps hz;refine ⟨wanted_none (by rfl),fun K hK=>?_⟩
  have d4:=hS.ch.cells.2.2.2.2.1;go_simp;exact hK _ _ (by rfl) trivial (hS.still 11 (by decide) (by decide) (by decide) (some 18) (by decide) _) (fun _ _ _ h=>h) (fun _ _ _ h=>h)
 ·intro ℓ act W hl hr hd hz hS hsame hdeps;have e0:act.tmps[0]?=some (.pointer (some ⟨c,0,none⟩)):=hsame 0 (by kernel_rfl)
  have HZ:=hid hz;clear hsame hdeps hz;refine ⟨wanted_none (by rfl),fun K hK=>?_⟩
  go_simp;exact hK _ _ (by rfl) trivial (hS.still 12 (by decide) (by decide) (by decide) (some 19) (by decide) _) (fun _ _ _ h=>h) (fun _ _ _ h=>h)
 ·intro ℓ act W hl hr hd hz hS hsame hdeps;obtain ⟨x19,e19,y19⟩:=hdeps ⟨12,.data⟩ (by simp) (by rfl) (by rfl) 19 (by rfl)
  replace y19:x19=.pointer (some ⟨c,0,none⟩):=y19
  subst y19;have HZ:=hid hz;clear hsame hdeps hz;refine ⟨wanted_none (by rfl),fun K hK=>?_⟩
  go_simp;refine (CM'.out W _ _ hS.ch).mono ?_;rintro r w' ⟨rfl,h',b',o'⟩;exact hK _ _ (by rfl) trivial (hS.keep 13 (by decide) (by decide) (by decide) (some 20) (by decide) _ (fun j b hj=>by have:=(ChB.same hj hS.ch).1;have h2:=(ChB.same hj hS.ch).2;rw [this,h2];exact h') b' o') (fun _ _ _ h=>h) (fun _ _ _ h=>h)
 ·intro ℓ act W hl hr hd hz hS hsame hdeps;obtain ⟨x20,e20,y20⟩:=hdeps ⟨13,.data⟩ (by simp) (by rfl) (by rfl) 20 (by rfl)
  replace y20:x20=.string M:=y20
  subst y20;have HZ:=hid hz;clear hsame hdeps hz;refine ⟨wanted_none (by rfl),fun K hK=>?_⟩
  go_simp;exact hK _ _ (by rfl) trivial (hS.still 14 (by decide) (by decide) (by decide) (some 21) (by decide) _) (fun _ _ _ h=>h) (fun _ _ _ h=>h)
 ·intro ℓ act W hl hr hd hz hS hsame hdeps;obtain ⟨x18,e18,y18⟩:=hdeps ⟨11,.data⟩ (by simp) (by rfl) (by rfl) 18 (by rfl)
  replace y18:x18=.int .i64 m:=y18
  subst y18;obtain ⟨x21,e21,y21⟩:=hdeps ⟨14,.data⟩ (by simp) (by rfl) (by rfl) 21 (by rfl)
  replace y21:x21=.int .i64 (M.size:Nat):=y21
  subst y21;have HZ:=hid hz;clear hsame hdeps hz;refine ⟨wanted_none (by rfl),fun K hK=>?_⟩
  go_simp;exact hK _ _ (by rfl) trivial (hS.still 15 (by decide) (by decide) (by decide) (some 22) (by decide) _) (fun _ _ _ h=>h) (fun _ _ _ h=>h)
 ·intro ℓ act W hl hr hd hz hS hsame hdeps;obtain ⟨x10,e10,y10⟩:=hdeps ⟨3,.data⟩ (by simp) (by rfl) (by rfl) 10 (by rfl)
  replace y10:x10=.pointer (some ⟨R,0,none⟩):=y10
  subst y10;obtain ⟨x14,e14,y14⟩:=hdeps ⟨7,.data⟩ (by simp) (by rfl) (by rfl) 14 (by rfl)
  replace y14:x14=.string S:=y14
  subst y14;obtain ⟨x22,e22,y22⟩:=hdeps ⟨15,.data⟩ (by simp) (by rfl) (by rfl) 22 (by rfl)
  replace y22:x22=.int .i64 mo:=y22
  subst y22;have HZ:=hid hz;clear hsame hdeps hz;refine ⟨wanted_none (by rfl),fun K hK=>?_⟩
  have hrd:=hS.ch.rd;rw [hl] at hrd;go_simp;refine (CR'.out W hrd).mono ?_;rintro r w' ⟨rfl,r4,g4⟩;exact hK _ _ (by rfl) trivial (hS.read hl (some 23) (by decide) _ HB1.out r4 g4) (fun _ _ _ h=>h) (fun _ _ _ h=>h)
 ·intro ℓ act W hl hr hd hz hS hsame hdeps;obtain ⟨x23,e23,y23⟩:=hdeps ⟨16,.data⟩ (by simp) (by rfl) (by rfl) 23 (by rfl)
  replace y23:x23=.tuple #[.agg #[.int .i64 (k:Nat),.bool last,.string s],.int .i64 e]:=y23
  subst y23;have HZ:=hid hz;clear hsame hdeps hz;refine ⟨wanted_none (by rfl),fun K hK=>?_⟩
  go_simp;exact hK _ _ (by rfl) trivial (hS.still 17 (by decide) (by decide) (by decide) (some 6) (by decide) _) (fun _ _ _ h=>h) (fun _ _ _ h=>h)
 ·intro ℓ act W hl hr hd hz hS hsame hdeps;obtain ⟨x6,e6,y6⟩:=hdeps ⟨17,.data⟩ (by simp) (by rfl) (by rfl) 6 (by rfl)
  replace y6:x6=.tuple #[.agg #[.int .i64 (k:Nat),.bool last,.string s],.int .i64 e]:=y6
  subst y6;have HZ:=hid hz;clear hsame hdeps hz;refine ⟨wanted_none (by rfl),fun K hK=>?_⟩
  go_simp;exact hK _ _ (by rfl) trivial (hS.still 18 (by decide) (by decide) (by decide) (some 24) (by decide) _) (fun _ _ _ h=>h) (fun _ _ _ h=>h)
 ·intro ℓ act W hl hr hd hz hS hsame hdeps;obtain ⟨x6,e6,y6⟩:=hdeps ⟨17,.data⟩ (by simp) (by rfl) (by rfl) 6 (by rfl)
  replace y6:x6=.tuple #[.agg #[.int .i64 (k:Nat),.bool last,.string s],.int .i64 e]:=y6
  subst y6;have HZ:=hid hz;clear hsame hdeps hz;refine ⟨wanted_none (by rfl),fun K hK=>?_⟩
  go_simp;exact hK _ _ (by rfl) trivial (hS.still 19 (by decide) (by decide) (by decide) (some 25) (by decide) _) (fun _ _ _ h=>h) (fun _ _ _ h=>h)
 ·intro ℓ act W hl hr hd hz hS hsame hdeps;have HZ:=hid hz;clear hsame hdeps hz;refine ⟨wanted_none (by rfl),fun K hK=>?_⟩
  go_simp;exact hK _ _ ⟨_,rfl⟩ trivial (hS.var (hr 21 (by kernel_rfl)) (by have h34:act.tmps.size=34:=HZ.out;omega) HB1.out) (fun _ _ _ h=>h) (fun _ _ _ h=>h)
 ·intro ℓ act W hl hr hd hz hS hsame hdeps;obtain ⟨x4,e4,y4⟩:=hdeps ⟨20,.data⟩ (by simp) (by rfl) (by rfl) 4 (by rfl)
  obtain ⟨P4,rfl⟩:=(y4:PtrV x4 W);obtain ⟨x24,e24,y24⟩:=hdeps ⟨18,.data⟩ (by simp) (by rfl) (by rfl) 24 (by rfl)
  replace y24:x24=.agg #[.int .i64 (k:Nat),.bool last,.string s]:=y24
  subst y24;have HZ:=hid hz;clear hsame hdeps hz;refine ⟨wanted_none (by rfl),fun K hK=>?_⟩
  obtain ⟨P,hPB,g4,hP0,hPc⟩:=hS.pt (hd 20 (by kernel_rfl))
  rw [hl] at hPc;have e44:=e4.symm.trans g4;simp only [Option.some.injEq] at e44;obtain ⟨d0,d1,d2,f0,f1,f2⟩:=blk_block hPc;simp only [Value.pointer.injEq,Option.some.injEq,Addr.mk.injEq,and_true] at e44;obtain rfl:=e44;go_simp;exact hK .nilIface _ trivial trivial (hS.put hl P4 g4 hP0 hPc hPB _) (fun _ _ _ h=>h) (fun _ _ _ h=>h)
 ·intro ℓ act W hl hr hd hz hS hsame hdeps;obtain ⟨x25,e25,y25⟩:=hdeps ⟨19,.data⟩ (by simp) (by rfl) (by rfl) 25 (by rfl)
  replace y25:x25=.int .i64 e:=y25
  subst y25;have HZ:=hid hz;clear hsame hdeps hz;refine ⟨wanted_none (by rfl),fun K hK=>?_⟩
  go_simp;exact hK _ _ (by rfl) rfl (hS.still 22 (by decide) (by decide) (by decide) (some 5) (by decide) _) (fun _ _ _ h=>h) (fun _ _ _ h=>h)
 ·intro act W hd hz hsame hdone hs;obtain ⟨tm,df⟩:=act;obtain rfl:df=[]:=hd;obtain ⟨ℓ,hall,hS⟩:=hs;obtain ⟨P,hPB,h4,hP0,hPc⟩:=hS.pt (hall 20 (by decide))
  have hch:=hS.ch;rw [hall 16 (by decide),if_pos rfl,if_pos rfl] at hch
  rw [hall 21 (by decide),if_pos rfl] at hPc
  obtain ⟨v5,h5,hv5⟩:=hdone 22 (by decide)
  have h5':=h5 5 (by rfl)
  have hv5':v5=.int .i64 e:=hv5;subst hv5';have q4:tm.getD 4 undef=.pointer (some ⟨P,0,none⟩):=getD_same h4;have q5:tm.getD 5 undef=.int .i64 e:=getD_same h5';have H5:=hid hch;have X5:=hid hPc;have R5:=hid hS.r0;have B5:=hid (HB.out.trans hS.be);have HP0:=hid (And.intro hP0 hPB);clear hdone hall hS hch hPc h5 hv5 h4 h5' hP0 hPB;have q0:=getD_same (hsame 0 (by kernel_rfl))
  have q1:=getD_same (hsame 1 (by kernel_rfl))
  have q2:=getD_same (hsame 2 (by kernel_rfl))
  have q3:=getD_same (hsame 3 (by kernel_rfl))
  have q26:=getD_same (hsame 26 (by kernel_rfl))
  have q27:=getD_same (hsame 27 (by kernel_rfl))
  have q28:=getD_same (hsame 28 (by kernel_rfl))
  have q29:=getD_same (hsame 29 (by kernel_rfl))
  have q30:=getD_same (hsame 30 (by kernel_rfl))
  have q31:=getD_same (hsame 31 (by kernel_rfl))
  have q32:=getD_same (hsame 32 (by kernel_rfl))
  have q33:=getD_same (hsame 33 (by kernel_rfl))
  clear hsame;rw [arr_all tm 34 hz,show List.range 34=[0,1,2,3,4,5,6,7,8,9,10,11,12,13,14,15,16,17,18,19,20,21,22,23,24,25,26,27,28,29,30,31,32,33] from rfl]
  simp only [List.map_cons,List.map_nil,List.getElem_toArray,List.getElem_cons_zero,List.getElem_cons_succ,q0,q1,q2,q3,q4,q5,q26,q27,q28,q29,q30,q31,q32,q33];clear q0 q1 q2 q3 q26 q27 q28 q29 q30 q31 q32 q33 hz;generalize tm.getD 6 undef=z6;generalize tm.getD 7 undef=z7;generalize tm.getD 8 undef=z8;generalize tm.getD 9 undef=z9;generalize tm.getD 10 undef=z10;generalize tm.getD 11 undef=z11;generalize tm.getD 12 undef=z12;generalize tm.getD 13 undef=z13;generalize tm.getD 14 undef=z14;generalize tm.getD 15 undef=z15;generalize tm.getD 16 undef=z16;generalize tm.getD 17 undef=z17;generalize tm.getD 18 undef=z18;generalize tm.getD 19 undef=z19;generalize tm.getD 20 undef=z20;generalize tm.getD 21 undef=z21;generalize tm.getD 22 undef=z22;generalize tm.getD 23 undef=z23;generalize tm.getD 24 undef=z24;generalize tm.getD 25 undef=z25;clear q4 q5;have hBW:Hid (B≤W.drew.heap.size):=hid (Nat.le_trans HL.out.2.2 (by have:=B5.out.size;have e:W.drew.heap.size=W.heap.size:=rfl;omega))
  have y2:W.drew.cell? ⟨P,2,none⟩=some (.string s):=(blk_block X5.out).2.2.1
  go_wp2_with fail
  go_region_with (go_at_call 59;refine (write_any B c R q (A:Nat) m (us c) v l s t bad W.drew H5.out.drew (.inr rfl) hBW.out (by have:=HL.out;omega)).mono ?_;rintro r w6 ⟨rfl,v',h6,b6,o6⟩;have H6:=hid h6;have B6:=hid (B5.out.drew.trans b6);have X6:=hid (H5.out.drew.stays o6 X5.out (by decide) (by decide));have R6:=hid (H5.out.drew.stays o6 R5.out (by decide) (by decide));clear h6 b6 o6)
  all_goals (
   obtain ⟨a0,a1,a2,_,_,_⟩:=blk_block X6.out;obtain ⟨r0,r1,r2,f0,f1,f2⟩:=blk_block R6.out;clear y2
   go_wp2_with fail
   (try simp only [Exit.inBlock,Exit.then])
   have hs:=store3 R6.out (.int .i64 (k:Nat)) (.bool last) (.string s);refine bodyPost_ret (v:=.tuple #[.agg (blkCells k last s),.int .i64 e]) (ret_next _ _ R0 k last s e rfl rfl hs) rfl ?_;have hR:=HR0.out
   exact ⟨rfl,⟨_,((H6.out.aside R6.out 0 _).aside (heap_setCell_same _ _ 0 _ _ _ R6.out) 1 _).aside (heap_setCell_same _ _ 1 _ _ _ (heap_setCell_same _ _ 0 _ _ _ R6.out)) 2 _⟩,
    ((B6.out.setCell (p:=⟨R0,0,none⟩) (by have:=HL.out.2.2;omega) _).setCell (p:=⟨R0,1,none⟩) (by have:=HL.out.2.2;omega) _).setCell (p:=⟨R0,2,none⟩) (by have:=HL.out.2.2;omega) _⟩)
end Go.Proofs.YthbjllabgpaaaaaGreat.Inf
