/-
  Contracts of inflate's blocks.
-/
import Derived.Test.YthbjllabgpaaaaaGreatInfBlkM
import Derived.Test.YthbjllabgpaaaaaGreatInfHead
import Derived.Test.YthbjllabgpaaaaaGreatAllPack
import Derived.Test.YthbjllabgpaaaaaGreatDefWhole
namespace Go.Proofs.YthbjllabgpaaaaaGreat.Inf
open Go.Lib (hid)
set_option maxHeartbeats 4000000
open Go.ChangeShapes Go.WideShapes Go.ChangeAt Go.RowKit
open Go.Proofs.YthbjllabgpaaaaaGreat.Huf (IsInts)
open Go.Proofs.YthbjllabgpaaaaaGreat.Bit (RdAt tb tb_length rV rI rOk yOk yS yI gap rerr_any ralign_any rbytes_any errI rgrown_trans)
open Go.Proofs.YthbjllabgpaaaaaGreat.Lz (Tok expL expE IsToks toks_of_row cellsT expand_any exp_cases)
open Go.Proofs.YthbjllabgpaaaaaGreat.Sym
open Go.Proofs.YthbjllabgpaaaaaGreat.Def
set_option linter.unusedVariables false
set_option maxRecDepth 100000
theorem plain_any (b p:Nat) (t:ByteArray) (most:Int) (w:World) (h:RdAt 107 w b t p false) (hp:p≤(tb t).length) (ht:t.size≤1000000) :
  Calls Tryz.prog 115 #[.pointer (some ⟨b,0,none⟩),.int .i64 most] w fun r w'=>r=.returned (.tuple #[.string (plG t p most).1,.int .i64 (plG t p most).2.1]) ∧
   RdAt 107 w' b t (plG t p most).2.2.1 (plG t p most).2.2.2∧w.grownBy w' (some b):=by
 have C0:=ralign_any b t p false w h hp (by omega)
 have l1:rI (tb t) p false (gap p)≤(tb t).length:=Bit.rI_le hp;obtain ⟨i1,hi1⟩:∃i1,rI (tb t) p false (gap p)=i1:=⟨_,rfl⟩;obtain ⟨b1,hb1⟩:∃b1,(!rOk (tb t) p false (gap p))=b1:=⟨_,rfl⟩;rw [hi1,hb1] at C0;rw [hi1] at l1;have C1:=fun w1 h1=>bits_any (k:=16) (by omega) b t i1 b1 w1 h1 l1 ht
 have k1:rV (tb t) i1 b1 16<65536:=rV_lt (tb t) i1 b1 16;have l2:rI (tb t) i1 b1 16≤(tb t).length:=Bit.rI_le l1;obtain ⟨n,hn⟩:∃n,rV (tb t) i1 b1 16=n:=⟨_,rfl⟩;obtain ⟨i2,hi2⟩:∃i2,rI (tb t) i1 b1 16=i2:=⟨_,rfl⟩;obtain ⟨b2,hb2⟩:∃b2,(!rOk (tb t) i1 b1 16)=b2:=⟨_,rfl⟩;rw [hn,hi2,hb2] at C1;rw [hn] at k1;rw [hi2] at l2;have C2:=fun w1 h1=>bits_any (k:=16) (by omega) b t i2 b2 w1 h1 l2 ht
 have k2:rV (tb t) i2 b2 16<65536:=rV_lt (tb t) i2 b2 16;have l3:rI (tb t) i2 b2 16≤(tb t).length:=Bit.rI_le l2;obtain ⟨m,hm⟩:∃m,rV (tb t) i2 b2 16=m:=⟨_,rfl⟩;obtain ⟨i3,hi3⟩:∃i3,rI (tb t) i2 b2 16=i3:=⟨_,rfl⟩;obtain ⟨b3,hb3⟩:∃b3,(!rOk (tb t) i2 b2 16)=b3:=⟨_,rfl⟩;rw [hm,hi3,hb3] at C2;rw [hm] at k2;rw [hi3] at l3
 have EP:plG t p most=if b3=true then (⟨#[]⟩,2,i3,true) else plC t i3 n m most:=by
  simp only [plG,hi1,hb1,hi2,hb2,hi3,hb3,hn,hm]
 have EP':=hid EP;have C0':=hid C0;have C1':=hid C1;have C2':=hid C2;have HT:=hid (And.intro ht l3);have n1:(n:Int)≤65535:=by omega
 have n2:(m:Int)≤65535:=by omega
 clear C0 C1 C2 EP l1 l2 l3 hi1 hb1 hn hi2 hb2 hm hi3 hb3 h hp ht k1 k2
 go_enter Tryz.func115,Tryz.ntmps115
 go_wp2_with fail
 refine C0'.out.mono ?_;rintro r w1 ⟨rfl,r1,g1⟩;have C1w:=hid (C1'.out w1 r1);have G1:=hid g1;clear r1 g1 C0' C1'
 go_wp2_with fail
 refine C1w.out.mono ?_;rintro r w2 ⟨rfl,r2,g2⟩;have C2w:=hid (C2'.out w2 r2);have G2:=hid (rgrown_trans G1.out g2);clear r2 g2 C1w C2' G1
 go_wp2_with fail
 refine C2w.out.mono ?_;rintro r w3 ⟨rfl,r3,g3⟩;have R3:=hid r3;have G3:=hid (rgrown_trans G2.out g3);have CE:=hid (rerr_any b t i3 b3 w3 r3);clear r3 g3 C2w G2
 go_wp2_with fail
 refine CE.out.mono ?_;rintro r w4 ⟨rfl,rfl⟩;clear CE
 cases b3 with
 | true=>
  have e:plG t p most=(⟨#[]⟩,2,i3,true):=EP'.out;have E:=hid e;rw [show errI true=2 from rfl]
  clear e EP'
  go_wp2_with fail
  go_ret2;rw [E.out];exact ⟨rfl,R3.out,G3.out⟩
 | false=>
  have e:plG t p most=plC t i3 n m most:=EP'.out;have E:=hid e;rw [show errI false=0 from rfl]
  clear e EP';obtain ⟨X,hX⟩:∃X,bits .xor .i64 (n:Int) (m:Int)=X:=⟨_,rfl⟩
  by_cases h1:X=65535
  ·subst h1
   by_cases h2:most<(n:Int)
   ·have E2:Hid (plC t i3 n m most=(⟨#[]⟩,4,i3,false)):=hid (by unfold plC;rw [if_neg (by rw [hX];simp),if_pos h2])
    go_wp2_with fail
    go_ret2;rw [E.out,E2.out];exact ⟨rfl,R3.out,G3.out⟩
   ·have E2:Hid (plC t i3 n m most=(yS t i3 false n,errI (!yOk (tb t) i3 false n),yI (tb t) i3 false n,!yOk (tb t) i3 false n)):=hid (by unfold plC;rw [if_neg (by rw [hX];simp),if_neg h2])
    have CY:=hid (rbytes_any b t i3 false (n:Int) w3 R3.out HT.out.2 (by have:=HT.out.1;omega))
    go_wp2_with fail
    refine CY.out.mono ?_;rintro r w5 ⟨rfl,r5,g5⟩;have R5:=hid r5;have G5:=hid (rgrown_trans G3.out g5);have CE:=hid (rerr_any b t _ _ w5 r5);clear r5 g5 CY
    go_wp2_with fail
    refine CE.out.mono ?_;rintro r w6 ⟨rfl,rfl⟩;clear CE
    go_wp2_with fail
    go_ret2;rw [E.out,E2.out];exact ⟨rfl,R5.out,G5.out⟩
  ·have E2:Hid (plC t i3 n m most=(⟨#[]⟩,80,i3,false)):=hid (by unfold plC;rw [if_pos (by rw [hX];exact h1)])
   have hne:(X != 65535)=true:=by simpa using h1
   clear h1
   go_wp2_with fail
   go_ret2;rw [E.out,E2.out];exact ⟨rfl,R3.out,G3.out⟩
theorem coded_any (b p:Nat) (t win:ByteArray) (a1 a2:Option Addr) (n c1 m c2:Nat) (L M:List Int) (most:Int) (w:World) (h:RdAt 107 w b t p false) (hp:p≤(tb t).length) (ht:t.size≤1000000)
  (hL:L.length=n) (hM:M.length=m) (iL:IsInts w a1 L) (iM:IsInts w a2 M) (hn:n≤1000000) (hm:m≤1000000) (hw:win.size≤maxLen) (hmo:most≤1000000) :
  Calls Tryz.prog 117 #[.pointer (some ⟨b,0,none⟩),.slice a1 n c1,.slice a2 m c2,.string win,.int .i64 most] w fun r w'=>
   r=.returned (.tuple #[.string (codG (tb t) win.data.toList L M p most).1,.int .i64 (codG (tb t) win.data.toList L M p most).2.1]) ∧
   RdAt 107 w' b t (codG (tb t) win.data.toList L M p most).2.2.1 (codG (tb t) win.data.toList L M p most).2.2.2∧w.grownBy w' (some b):=by
 have CR:=read_any b t p a1 a2 n c1 m c2 L M most w h hp ht hL hM iL iM hn hm;have OK:=rd_ok (L:=L) (M:=M) (most:=most) hp
 have EC:codG (tb t) win.data.toList L M p most=if (rdG L M (tb t) p most).2.1≠0 then (⟨#[]⟩,told (rdG L M (tb t) p most).2.1,(rdG L M (tb t) p most).2.2.1,(rdG L M (tb t) p most).2.2.2)
  else if most<0 then (⟨#[]⟩,4,(rdG L M (tb t) p most).2.2.1,(rdG L M (tb t) p most).2.2.2)
  else (⟨(expL win.data.toList (rdG L M (tb t) p most).1).toArray⟩,expE win.data.toList (rdG L M (tb t) p most).1,(rdG L M (tb t) p most).2.2.1,(rdG L M (tb t) p most).2.2.2):=rfl
 generalize rdG L M (tb t) p most=x at *;obtain ⟨l,e,q,bad⟩:=x;simp only at CR OK EC;have CR':=hid CR;have OK':=hid OK;have EC':=hid EC;have HW:=hid (And.intro hw hmo);clear CR OK EC h hp ht hL hM iL iM hn hm hw hmo
 go_enter Tryz.func117,Tryz.ntmps117
 go_wp2_with fail
 refine CR'.out.mono ?_;rintro r w1 ⟨v,rfl,o1,r1,g1⟩;have O1:=hid o1;have R1:=hid r1;have G1:=hid g1;clear o1 r1 g1 CR'
 by_cases h0:e=0
 ·subst h0
  by_cases h1:most<0
  ·have E2:=EC'.out;rw [if_neg (by simp),if_pos h1] at E2
   have E3:=hid E2;clear E2 EC'
   go_wp2_with fail
   go_ret2;rw [E3.out];exact ⟨rfl,R1.out,G1.out⟩
  ·have E2:=EC'.out;rw [if_neg (by simp),if_neg h1] at E2
   have E3:=hid E2;have hsum:=(OK'.out rfl).2.2.2 (by omega)
   have hlen:=sum_long l;have hl:=HW.out.2
   obtain ⟨a,cap,rfl⟩:∃a cap,v=.slice a l.length cap:=by
    rcases O1.out.2 with ⟨h1,h2⟩ | ⟨g,cap,cur,h1,_⟩
    ·exact ⟨Option.none,0,by rw [h1,h2]⟩
    ·exact ⟨_,_,h1⟩
   have hT:=toks_of_row rfl O1.out;have CX:=hid (expand_any win a l l.length cap w1 rfl hT HW.out.1 (by omega))
   clear E2 EC' OK' hsum hlen hl hT
   go_wp2_with fail
   refine CX.out.mono ?_;rintro r w2 ⟨rfl,b2⟩;have R2:=hid (rd_below R1.out b2);have G2:=hid (rgrown_trans G1.out (below_grown b2));clear b2 CX
   go_wp2_with fail
   go_ret2;rw [E3.out];exact ⟨rfl,R2.out,G2.out⟩
 ·have E2:=EC'.out;rw [if_pos h0] at E2;have E3:=hid E2;have hne:(e != 0)=true:=by simpa using h0
  clear E2 EC' OK' h0
  go_wp2_with fail
  refine (told_any e w1).mono ?_;rintro r w2 ⟨rfl,rfl⟩
  go_wp2_with fail
  go_ret2;rw [E3.out];exact ⟨rfl,R1.out,G1.out⟩
theorem fx_lengths:(ints fxL).length=288∧(ints fxD).length=30:=by rw [ints_length,ints_length];decide +kernel
theorem text_any (b k p:Nat) (t win:ByteArray) (most:Int) (w:World) (h:RdAt 107 w b t p false) (hp:p≤(tb t).length) (ht:t.size≤1000000) (hw:win.size≤maxLen) (hmo:most≤1000000) :
  Calls Tryz.prog 95 #[.pointer (some ⟨b,0,none⟩),.int .i64 (k:Nat),.string win,.int .i64 most] w fun r w'=>
   r=.returned (.tuple #[.string (textG t win.data.toList k p most).1,.int .i64 (textG t win.data.toList k p most).2.1]) ∧
   RdAt 107 w' b t (textG t win.data.toList k p most).2.2.1 (textG t win.data.toList k p most).2.2.2∧w.grownBy w' (some b):=by
 have H:=hid h;have HT:=hid (And.intro hp (And.intro ht (And.intro hw hmo)));clear h hp ht hw hmo
 go_enter Tryz.func95,Tryz.ntmps95
 go_wp2_with fail
 refine (fixed_any w).mono ?_;rintro r w1 ⟨a,ca,c,cb,rfl,i1,i2,b1⟩;have R1:=hid (rd_below H.out b1);have G1:Hid (w.grownBy w1 (some b)):=hid (below_grown b1);have I:=hid (And.intro i1 i2);clear i1 i2 b1 H
 by_cases h0:k=0
 ·subst h0;have CP:=hid (plain_any b p t most w1 R1.out HT.out.1 HT.out.2.1);rw [←text_zero t win.data.toList p most] at CP;obtain ⟨⟨x1,x2,x3,x4⟩,hx⟩:∃x,textG t win.data.toList 0 p most=x:=⟨_,rfl⟩;rw [hx] at CP;have HX:=hid hx;clear hx;rw [show ((0:Nat):Int)=0 from rfl]
  go_wp2_with fail
  refine CP.out.mono ?_;rintro r w2 ⟨rfl,r2,g2⟩;have R2:=hid r2;have G2:=hid (rgrown_trans G1.out g2);clear r2 g2 CP
  go_wp2_with fail
  go_ret2;rw [HX.out];exact ⟨rfl,R2.out,G2.out⟩
 ·by_cases h2:k=2
  ·subst h2;have CH:=hid (header_any b p t w1 R1.out HT.out.1 HT.out.2.1);have HO:=hdr_ok (T:=tb t) HT.out.1;have ET:=text_two t win.data.toList p most;generalize hdrG (tb t) p=x at *;obtain ⟨L,M,e,q,bad⟩:=x;simp only at HO ET;have HO':=hid HO;have ET':=hid ET;rw [show ((2:Nat):Int)=2 from rfl]
   clear h0 HO ET
   go_wp2_with fail
   refine CH.out.mono ?_;rintro r w2 hx;obtain ⟨a1,c1,a2,c2,rfl,j1,j2,r2,g2⟩:=hx;have J:=hid (And.intro j1 j2);have R2:=hid r2;have G2:=hid (rgrown_trans G1.out g2);clear j1 j2 r2 g2 CH;simp only
   by_cases he:e=0
   ·subst he;obtain ⟨hq,hok⟩:=HO'.out;obtain ⟨hl1,hl2,rfl⟩:=hok rfl;obtain ⟨n,hn⟩:∃n,L.length=n:=⟨_,rfl⟩;obtain ⟨m,hm⟩:∃m,M.length=m:=⟨_,rfl⟩;have hL:(ints L).length=n:=by rw [ints_length];exact hn
    have hM:(ints M).length=m:=by rw [ints_length];exact hm
    have CC:=hid (coded_any b q t win a1 a2 n c1 m c2 (ints L) (ints M) most w2 R2.out hq HT.out.2.1 hL hM J.out.1 J.out.2 (by omega) (by omega) HT.out.2.2.1 HT.out.2.2.2)
    have E2:=ET'.out;rw [if_neg (by simp)] at E2
    have E3:=hid E2;rw [hn,hm];clear E2 ET' HO' hl1 hl2 hn hm hL hM hq hok
    go_wp2_with fail
    refine CC.out.mono ?_;rintro r w3 ⟨rfl,r3,g3⟩;have R3:=hid r3;have G3:=hid (rgrown_trans G2.out g3);clear r3 g3 CC
    go_wp2_with fail
    go_ret2;rw [E3.out];exact ⟨rfl,R3.out,G3.out⟩
   ·have E2:=ET'.out;rw [if_pos he] at E2;have E3:=hid E2;have hne:(e != 0)=true:=by simpa using he
    clear E2 ET' HO' he;generalize L.length=n at *;generalize M.length=m at *
    go_wp2_with fail
    go_ret2;rw [E3.out];exact ⟨rfl,R2.out,G2.out⟩
  ·by_cases h1:k=1
   ·subst h1;have CC:=hid (coded_any b p t win _ _ 288 ca 30 cb (ints fxL) (ints fxD) most w1 R1.out HT.out.1 HT.out.2.1 fx_lengths.1 fx_lengths.2 I.out.1 I.out.2 (by omega) (by omega) HT.out.2.2.1 HT.out.2.2.2)
    rw [←text_one t win.data.toList p most] at CC;obtain ⟨⟨x1,x2,x3,x4⟩,hx⟩:∃x,textG t win.data.toList 1 p most=x:=⟨_,rfl⟩;rw [hx] at CC;have HX:=hid hx;clear hx;rw [show ((1:Nat):Int)=1 from rfl]
    clear h0 h2
    go_wp2_with fail
    refine CC.out.mono ?_;rintro r w2 ⟨rfl,r2,g2⟩;have R2:=hid r2;have G2:=hid (rgrown_trans G1.out g2);clear r2 g2 CC
    go_wp2_with fail
    go_ret2;rw [HX.out];exact ⟨rfl,R2.out,G2.out⟩
   ·have e:textG t win.data.toList k p most=(⟨#[]⟩,80,p,false):=by unfold textG;rw [if_neg h0,if_neg h2,if_neg h1]
    have E:=hid e;have d0:((k:Int)==0)=false:=by simp;omega
    have d1:((k:Int)==1)=false:=by simp;omega
    have d2:((k:Int)==2)=false:=by simp;omega
    clear e h0 h1 h2
    go_wp2_with fail
    go_ret2;rw [E.out];exact ⟨rfl,R1.out,G1.out⟩
def blkCells (k:Nat) (last:Bool) (s:ByteArray):Array Value:=#[.int .i64 (k:Nat),.bool last,.string s]
theorem ret_block (tmps:Array Value) (w:World) (R k:Nat) (last:Bool) (s:ByteArray) (e:Int) (hp:tmps.getD 6 undef=.pointer (some ⟨R,0,none⟩)) (he:tmps.getD 7 undef=.int .i64 e) (hg:w.heap[R]?=some (.cells (blkCells k last s) 75 (0,0))) :
  (results Tryz.f60 tmps).run Tryz.prog w=.ok (.tuple #[.agg (blkCells k last s),.int .i64 e]) w:=by
 rw [ret_cell_tmp rfl tmps w R 75 (blkCells k last s) (0,0) _ hp hg Tryz.underlying75 rfl (by kernel_rfl),he]
theorem blk_block {w:World} {R:Nat} {x0 x1 x2:Value} {T:TypeId} (h:w.heap[R]?=some (.cells #[x0,x1,x2] T (0,0))):w.cell? ⟨R,0,none⟩=some x0∧w.cell? ⟨R,1,none⟩=some x1∧w.cell? ⟨R,2,none⟩=some x2∧w.frozen? ⟨R,0,none⟩=false∧w.frozen? ⟨R,1,none⟩=false∧w.frozen? ⟨R,2,none⟩=false:=by
 refine ⟨?_,?_,?_,frozen_of_row w R 0 _ _ h,frozen_of_row w R 1 _ _ h,frozen_of_row w R 2 _ _ h⟩
 ·rw [cell_of_row w R 0 _ _ _ h];rfl
 ·rw [cell_of_row w R 1 _ _ _ h];rfl
 ·rw [cell_of_row w R 2 _ _ _ h];rfl
theorem iread_any (b p:Nat) (t win:ByteArray) (most:Int) (w:World) (h:RdAt 107 w b t p false) (hp:p≤(tb t).length) (ht:t.size≤1000000) (hw:win.size≤maxLen) (hmo:most≤1000000) :
  Calls Tryz.prog 60 #[.pointer (some ⟨b,0,none⟩),.string win,.int .i64 most] w fun r w'=>
   r=.returned (.tuple #[.agg (blkCells (blkG t win.data.toList p most).1 (blkG t win.data.toList p most).2.1 (blkG t win.data.toList p most).2.2.1),.int .i64 (blkG t win.data.toList p most).2.2.2.1]) ∧
   RdAt 107 w' b t (blkG t win.data.toList p most).2.2.2.2.1 (blkG t win.data.toList p most).2.2.2.2.2∧w.grownBy w' (some b):=by
 have hbw:=rd_lt h;have l1:rI (tb t) p false 1≤(tb t).length:=Bit.rI_le hp;have C0:=fun w1 h1=>bits_any (k:=1) (by omega) b t p false w1 h1 hp ht
 have k1:rV (tb t) p false 1<2:=rV_lt (tb t) p false 1;obtain ⟨A,hA⟩:∃A,rV (tb t) p false 1=A:=⟨_,rfl⟩;obtain ⟨i1,hi1⟩:∃i1,rI (tb t) p false 1=i1:=⟨_,rfl⟩;obtain ⟨b1,hb1⟩:∃b1,(!rOk (tb t) p false 1)=b1:=⟨_,rfl⟩;rw [hA,hi1,hb1] at C0;rw [hi1] at l1;rw [hA] at k1;have C1:=fun w1 h1=>bits_any (k:=2) (by omega) b t i1 b1 w1 h1 l1 ht
 have k2:rV (tb t) i1 b1 2<4:=rV_lt (tb t) i1 b1 2;have l2:rI (tb t) i1 b1 2≤(tb t).length:=Bit.rI_le l1;obtain ⟨k,hk⟩:∃n,rV (tb t) i1 b1 2=n:=⟨_,rfl⟩;obtain ⟨i2,hi2⟩:∃i2,rI (tb t) i1 b1 2=i2:=⟨_,rfl⟩;obtain ⟨b2,hb2⟩:∃b2,(!rOk (tb t) i1 b1 2)=b2:=⟨_,rfl⟩;rw [hk,hi2,hb2] at C1;rw [hk] at k2;rw [hi2] at l2
 have EP:blkG t win.data.toList p most=if b2=true then (0,false,⟨#[]⟩,2,i2,true) else blkC t win.data.toList A k i2 most:=by
  simp only [blkG,hi1,hb1,hi2,hb2,hA,hk]
 have EP':=hid EP;have C0':=hid C0;have C1':=hid C1;have HT:=hid (And.intro ht (And.intro l2 (And.intro hw hmo)));have n1:(A:Int)<2:=by omega
 have n2:(k:Int)<4:=by omega
 have hX:=heap_alloc_new w (.cells #[.int .i64 0,.bool false,.string ⟨#[]⟩] 75);have bX:Below w.heap.size w (w.alloc (.cells #[.int .i64 0,.bool false,.string ⟨#[]⟩] 75)):=(Below.refl _ _).alloc (Nat.le_refl _) _;have HB:=hid bX;have HR:=hid (rd_below h bX);have HX:=hid hX;clear C0 C1 EP l1 l2 hA hi1 hb1 hk hi2 hb2 h hp ht k1 k2 bX hX hw hmo
 go_enter Tryz.func60,Tryz.ntmps60
 go_wp2_with fail
 generalize w.alloc (.cells #[.int .i64 0,.bool false,.string ⟨#[]⟩] 75)=w0 at *;obtain ⟨R,hR⟩:∃R,w.heap.size=R:=⟨_,rfl⟩;rw [hR] at HX HB hbw ⊢;have HRs:=hid hR;clear hR;refine (C0'.out w0 HR.out).mono ?_;rintro r w1 ⟨rfl,r1,g1⟩;have C1w:=hid (C1'.out w1 r1);have G1:=hid g1;clear r1 g1 C0' C1'
 go_wp2_with fail
 refine C1w.out.mono ?_;rintro r w2 ⟨rfl,r2,g2⟩;have R2:=hid r2;have G2:=hid (rgrown_trans G1.out g2);have CE:=hid (rerr_any b t i2 b2 w2 r2);clear r2 g2 C1w G1
 go_wp2_with fail
 refine CE.out.mono ?_;rintro r w3 ⟨rfl,rfl⟩;clear CE;have hRb:R≠b:=by omega
 have hlt0:R<w0.heap.size:=(Array.getElem?_eq_some_iff.1 HX.out).1;have hx2:=(G2.out.block R hlt0 (fun e=>hRb (by cases e;rfl))).trans HX.out
 have HX2:=hid hx2;have GW:Hid (w.grownBy w2 (some b)):=hid (rgrown_trans (below_grown (by rw [HRs.out];exact HB.out)) G2.out)
 have hR2:R<w2.heap.size:=Nat.lt_of_lt_of_le hlt0 G2.out.size
 have STORE:Hid (∀(wk:World) (x0 x1 x2:Value) (j:Nat) (e:Bool),wk.heap[R]?=some (.cells #[.int .i64 0,.bool false,.string ⟨#[]⟩] 75 (0,0))→RdAt 107 wk b t j e→w.grownBy wk (some b) →
   (((wk.setCell ⟨R,0,none⟩ x0).setCell ⟨R,1,none⟩ x1).setCell ⟨R,2,none⟩ x2).heap[R]?=some (.cells #[x0,x1,x2] 75 (0,0)) ∧
   RdAt 107 (((wk.setCell ⟨R,0,none⟩ x0).setCell ⟨R,1,none⟩ x1).setCell ⟨R,2,none⟩ x2) b t j e∧w.grownBy (((wk.setCell ⟨R,0,none⟩ x0).setCell ⟨R,1,none⟩ x1).setCell ⟨R,2,none⟩ x2) (some b)):=hid fun wk x0 x1 x2 j e k1 k2 k3=>
  ⟨store3 k1 x0 x1 x2,rd_set (rd_set (rd_set k2 hRb) hRb) hRb,grown_set (grown_set (grown_set k3 (by rw [HRs.out];exact Nat.le_refl _) _ _) (by rw [HRs.out];exact Nat.le_refl _) _ _) (by rw [HRs.out];exact Nat.le_refl _) _ _⟩
 clear HB HX G2 hlt0 hx2 HR
 cases b2 with
 | true=>
  have e:blkG t win.data.toList p most=(0,false,⟨#[]⟩,2,i2,true):=EP'.out;have E:=hid e;obtain ⟨c0,c1,c2,f0,f1,f2⟩:=blk_block HX2.out;rw [show errI true=2 from rfl]
  clear e EP'
  go_wp2_with fail
  (try simp only [Exit.inBlock,Exit.then])
  have hs:=STORE.out w2 (.int .i64 0) (.bool false) (.string ⟨#[]⟩) i2 true HX2.out R2.out GW.out;refine bodyPost_ret (v:=.tuple #[.agg (blkCells 0 false ⟨#[]⟩),.int .i64 2]) (ret_block _ _ R 0 false ⟨#[]⟩ 2 rfl rfl hs.1) rfl ?_;rw [E.out];exact ⟨rfl,hs.2⟩
 | false=>
  have e:blkG t win.data.toList p most=blkC t win.data.toList A k i2 most:=EP'.out;have E:=hid e;rw [show errI false=0 from rfl]
  clear e EP';have CT:=hid (text_any b k i2 t win most w2 R2.out HT.out.2.1 HT.out.1 HT.out.2.2.1 HT.out.2.2.2)
  have EB:blkC t win.data.toList A k i2 most=if (textG t win.data.toList k i2 most).2.1≠0 then (0,false,⟨#[]⟩,(textG t win.data.toList k i2 most).2.1,(textG t win.data.toList k i2 most).2.2.1,(textG t win.data.toList k i2 most).2.2.2)
   else (k,decide (A=1),(textG t win.data.toList k i2 most).1,0,(textG t win.data.toList k i2 most).2.2.1,(textG t win.data.toList k i2 most).2.2.2):=rfl
  generalize textG t win.data.toList k i2 most=x at *;obtain ⟨s,e,q,bad⟩:=x;simp only at EB CT;have EB':=hid EB;clear EB
  go_wp2_with fail
  refine CT.out.mono ?_;rintro r w4 ⟨rfl,r4,g4⟩;have R4:=hid r4;have G4:=hid (rgrown_trans GW.out g4);have hx4:=(g4.block R hR2 (fun e=>hRb (by cases e;rfl))).trans HX2.out
  have HX4:=hid hx4;obtain ⟨c0,c1,c2,f0,f1,f2⟩:=blk_block hx4;clear r4 g4 hx4 CT HX2
  by_cases he:e=0
  ·subst he;have E2:=EB'.out;rw [if_neg (by simp)] at E2
   have E3:=hid E2;obtain ⟨la,hla⟩:∃la,decide (A=1)=la:=⟨_,rfl⟩
   have hla2:((A:Int)==1)=la:=by
    rw [←hla]
    by_cases h:A=1
    ·subst h;rfl
    ·rw [decide_eq_false h];simp;omega
   have HL:=hid hla;clear E2 EB' hla
   go_wp2_with fail
   (try simp only [Exit.inBlock,Exit.then])
   have hs:=STORE.out w4 (.int .i64 (k:Nat)) (.bool la) (.string s) q bad HX4.out R4.out G4.out;refine bodyPost_ret (v:=.tuple #[.agg (blkCells k la s),.int .i64 0]) (ret_block _ _ R k la s 0 rfl rfl hs.1) rfl ?_;rw [E.out,E3.out,HL.out];exact ⟨rfl,hs.2⟩
  ·have E2:=EB'.out;rw [if_pos he] at E2;have E3:=hid E2;have hne:(e != 0)=true:=by simpa using he
   clear E2 EB' he
   go_wp2_with fail
   (try simp only [Exit.inBlock,Exit.then])
   have hs:=STORE.out w4 (.int .i64 0) (.bool false) (.string ⟨#[]⟩) q bad HX4.out R4.out G4.out;refine bodyPost_ret (v:=.tuple #[.agg (blkCells 0 false ⟨#[]⟩),.int .i64 e]) (ret_block _ _ R 0 false ⟨#[]⟩ e rfl rfl hs.1) rfl ?_;rw [E.out,E3.out];exact ⟨rfl,hs.2⟩
end Go.Proofs.YthbjllabgpaaaaaGreat.Inf
