/-
  Texts in one: BitAll, HufBackS, HufViewS, BitRefS, BitRfS, BitRfR, BitRfB.
-/
import Derived.Test.YthbjllabgpaaaaaGreatAllBit
import Derived.Laws.AppendOwnNone
import Derived.Test.YthbjllabgpaaaaaGreatAllHuf
import Derived.ProofKit
import Derived.Lib.SmallJoins
import Derived.Deep.Slices
namespace Go.Proofs.YthbjllabgpaaaaaGreat.Bit
open Go.Lib (hid)
set_option maxHeartbeats 4000000
open Go.ChangeShapes Go.WideShapes Go.ChangeAt Go.RowKit
set_option linter.unusedVariables false
def From (B:Nat) (v:Value):Prop:=∀k,v.ownBlock=some k→B≤k
theorem From.nil (B:Nat):From B (.slice none 0 0):=by intro k hk;simp [Value.ownBlock] at hk
theorem From.near {B:Nat} {w:World} {v v':Value} (h:From B v) (n:Near w v v') (hB:B≤w.heap.size):From B v':=by
 intro k hk;rcases n k hk with h1 | h1
 ·exact h k h1
 ·omega
theorem below_more {B:Nat} {w0 w w':World} (h:Below B w0 w) (hB:B≤w0.heap.size) (k:Below w.heap.size w w'):Below B w0 w':=h.trans (k.mono (by have:=h.size;omega))
theorem info_bool:(Tryz.prog.info? 4).map (fun i=>(i.zero,i.size,i.bytes))=some (some (.bool false),1,1):=by kernel_rfl
def cellsB (l:List Bool):List Value:=l.map Value.bool
theorem cellsB_append (a b:List Bool):cellsB (a++b)=cellsB a++cellsB b:=by simp [cellsB]
theorem cellsB_length (a:List Bool):(cellsB a).length=a.length:=by simp [cellsB]
def BlAt (w:World) (v:Value) (l:List Bool):Prop:=w.ownsRow 0 4 1 v l.length (cellsB l)
theorem BlAt.nil (w:World):BlAt w (.slice none 0 0) []:=World.ownsRow_nil _ _ _ _
theorem BlAt.shape {w:World} {v:Value} {l:List Bool} (h:BlAt w v l):∃a cap,v=.slice a l.length cap∧(0<l.length→∃g,a=some ⟨g,0,none⟩∧g<w.heap.size∧∀j,j<l.length→w.cell? ⟨g,j,none⟩=(cellsB l)[j]?):=by
 rcases h.2 with ⟨rfl,h0⟩ | ⟨g,cap,cur,rfl,_,hg,_⟩
 ·exact ⟨none,0,by rw [h0],fun h=>by omega⟩
 ·refine ⟨_,cap,rfl,fun _=>⟨g,rfl,(Array.getElem?_eq_some_iff.1 hg).1,fun j hj=>?_⟩⟩
  exact World.ownsRow.cellAt h j (by omega)
theorem BlAt.alloc {w:World} {v:Value} {l:List Bool} (h:BlAt w v l) (o:Obj):BlAt (w.alloc o) v l:=World.ownsRow.alloc h o
theorem BlAt.block {w w':World} {v:Value} {l:List Bool} (h:BlAt w v l) (hk:∀k,v.ownBlock=some k→w'.heap[k]?=w.heap[k]?):BlAt w' v l:=ownsRow_block h hk
theorem BlAt.below {w w':World} {v:Value} {l:List Bool} (h:BlAt w v l) (hk:Below w.heap.size w w'):BlAt w' v l:=h.block fun k e=>hk.block k (World.ownsRow.lt h k e).2
theorem row_ne {w:World} {e e2:TypeId} {v:Value} {n k:Nat} {xs:List Value} {cur:Array Value} {fz:Nat×Nat} (h:w.ownsRow 0 e 1 v n xs) (hk:w.heap[k]?=some (.cells cur e2 fz)) (hne:e≠e2):v.ownBlock≠some k:=by
 intro he;rcases h.2 with ⟨rfl,_⟩ | ⟨g,cap,c2,rfl,_,hg,_⟩
 ·simp [Value.ownBlock] at he
 ·simp only [Value.ownBlock,Option.some.injEq] at he;subst he;rw [hk] at hg;simp at hg;exact hne hg.2.1.symm
theorem grow_trans {v v1:Value} {w w1 w2:World} (h:w.grownBy w1 v.ownBlock) (n:Near w v v1) (k:w1.grownBy w2 v1.ownBlock):w.grownBy w2 v.ownBlock:=by
 refine ⟨k.os.trans h.os,k.tape.trans h.tape,k.output.trans h.output,Nat.le_trans h.size k.size,fun i hi hv=>?_⟩
 have hs:=h.size;refine (k.block i (by omega) fun e=>?_).trans (h.block i hi hv)
 rcases n i e.symm with h1 | h1
 ·exact hv h1.symm
 ·omega
theorem grow_alloc {v:Value} {w w1:World} {o:Obj} (h:(w.alloc o).grownBy w1 v.ownBlock):w.grownBy w1 v.ownBlock:=by
 have hs:(w.alloc o).heap.size=w.heap.size+1:=by simp
 have h2:=h.size;exact ⟨h.os,h.tape,h.output,by omega,fun i hi hv=>(h.block i (by omega) hv).trans (Below.heap_alloc w o i hi)⟩
theorem below_row {B:Nat} {v:Value} {w0 w w':World} (h:Below B w0 w) (hB:B≤w0.heap.size) (k:w.grownBy w' v.ownBlock) (hv:From B v):Below B w0 w':=
 h.trans ⟨k.os,k.tape,k.output,k.size,fun i hi=>k.block i (by have:=h.size;omega) (fun e=>by have:=hv i e.symm;omega)⟩
theorem cell_bits {w:World} {ad:Addr} {l:List Bool} (h:∀j,j<l.length→w.cell? (ad.add j)=(cellsB l)[j]?):∀j u,(cellsB l)[j]?=some u→w.cell? (ad.add j)=some u:=by
 intro j u hj
 have:j<(cellsB l).length:=(List.getElem?_eq_some_iff.1 hj).1
 rw [cellsB_length] at this;rw [h j this,hj]
theorem cellsB_one (l:List Bool):∀u∈cellsB l,u.oneCell'=true:=by
 intro u hu;simp only [cellsB,List.mem_map] at hu;obtain ⟨b,_,rfl⟩:=hu
 rfl
theorem of_any (n x:Int) (w:World) :
  Calls Tryz.prog 51 #[.int .i64 n,.int .i64 x] w fun r w'=>∃u,r=.returned u∧BlAt w' u (bitsOf (cnt n) x)∧Below w.heap.size w w'∧From w.heap.size u:=by
 have hB:=Nat.le_refl w.heap.size;obtain ⟨t0,hi,hz0,hz1,hz2⟩:=info_parts info_bool;have hle:=cnt_le n;generalize hn:cnt n=m at *;have HN:=hid hn;clear hn
 go_enter Tryz.func51,Tryz.ntmps51
 go_wp2_with fail
 go_loopw [1,5,6] (fun y v i wr=>∃k:Nat,k≤m∧i=.int .i64 k∧y=.int .i64 (x/2^k)∧BlAt wr v (bitsOf k x)∧Below w.heap.size w wr∧From w.heap.size v) (fun _ _ i _=>m-(intOf i).toNat)
 case atStart=>exact ⟨0,Nat.zero_le _,rfl,by simp,BlAt.nil _,Below.refl _ _,From.nil _⟩
 case round=>
  obtain ⟨k,hk,rfl,rfl,h1,bl1,f1⟩:=hrel
  by_cases hlt:k<m
  ·have hbt:(bits .and .i64 (x/2^k) 1==1)=ibit x k:=by rw [i64_and1];rfl
   have hdv:x/2^k/2=x/2^(k+1):=div_pow x k 1;have HD:=hid hdv;have H1:=hid h1;have hl1:(bitsOf k x).length=k:=bitsOf_length k x;have HL:=hid hl1;clear hdv hl1
   go_wp2_with fail
   refine (count_any _ _).mono ?_;rintro r w' ⟨rfl,rfl⟩;rw [HN.out]
   go_wp2_with (at_builtin;refine wpList_append_near _ rfl _ _ 58 rfl 4 t0 (.bool false) 1 1 Tryz.underlying58 hi hz0 hz1 hz2 rfl (by decide) u5 (bitsOf k x).length (cellsB (bitsOf k x)) rfl (H1.out.alloc _) ⟨wr.heap.size,0,none⟩ 1 1 [.bool (ibit x k)] rfl rfl (cell_one_new _ _ _) (by intro u hu;simp at hu;subst hu;rfl) (by rw [HL.out];unfold maxLen;omega) (by rw [HL.out];omega) ?_;intro v' w1 ho hg hn)
   have ho':BlAt w1 v' (bitsOf (k+1) x):=by
    rw [bitsOf_succ];unfold BlAt;rw [List.length_append,cellsB_append];exact ho
   have hg':=grow_alloc hg;have HH:=hid (And.intro ho' (And.intro (below_row bl1 hB hg' f1) (f1.near hn.alloc bl1.size)));clear ho hg hn ho' hg' h1 bl1 f1 H1 hbt hi hz0 hz1 hz2
   go_wp2
   refine ⟨⟨k+1,by omega,by go_num,?_,HH.out.1,HH.out.2.1,HH.out.2.2⟩,?_⟩
   ·rw [←HD.out]
   ·simp [intOf];omega
  ·obtain rfl:k=m:=by omega
   have HH:=hid (And.intro h1 (And.intro bl1 f1));clear h1 bl1 f1
   go_wp2_with fail
   refine (count_any _ _).mono ?_;rintro r w' ⟨rfl,rfl⟩;rw [HN.out]
   go_wp2_with fail
   go_ret;exact ⟨_,rfl,HH.out.1,HH.out.2.1,HH.out.2.2⟩
theorem tbits_snoc (s:List UInt8) (b:UInt8):tbits (s++[b])=tbits s++bitsOf 8 (b.toNat:Int):=by simp [tbits]
theorem BlAt.joined {w1:World} {v':Value} {l m:List Bool} (ho:w1.ownsRow 0 4 1 v' (l.length+m.length) (cellsB l++cellsB m)):BlAt w1 v' (l++m):=by
 unfold BlAt;rw [List.length_append,cellsB_append];exact ho
theorem all_any (s:ByteArray) (w:World) (hs:s.size≤1000000) :
  Calls Tryz.prog 31 #[.string s] w fun r w'=>∃u,r=.returned u∧BlAt w' u (tb s)∧Below w.heap.size w w'∧From w.heap.size u:=by
 have hB:=Nat.le_refl w.heap.size;obtain ⟨t0,hi,hz0,hz1,hz2⟩:=info_parts info_bool
 go_enter Tryz.func31,Tryz.ntmps31
 go_wp2_with fail
 go_loopw [3,4] (fun v i wr=>∃k:Nat,k≤s.size∧i=.int .i64 k∧BlAt wr v (tbits (s.data.toList.take k))∧Below w.heap.size w wr∧From w.heap.size v) (fun _ i _=>s.size-(intOf i).toNat)
 case atStart=>exact ⟨0,Nat.zero_le _,rfl,BlAt.nil _,Below.refl _ _,From.nil _⟩
 case round=>
  obtain ⟨k,hk,rfl,h1,bl1,f1⟩:=hrel;have hl1:(tbits (s.data.toList.take k)).length=8*k:=by rw [tbits_length,List.length_take];simp;omega
  by_cases hlt:k<s.size
  ·have hsn:tbits (s.data.toList.take (k+1))=tbits (s.data.toList.take k)++bitsOf 8 (s[k].toNat:Int):=by
    rw [List.take_succ_eq_append_getElem (by simpa using hlt),tbits_snoc];rfl
   have hb:=s[k].toNat_lt;have SN:=hid hsn;have HL:=hid hl1;clear hsn hl1
   go_wp2_with fail
   refine (of_any _ _ _).mono ?_;rintro r w1 ⟨u,rfl,h2,b2,f2⟩;have c8:cnt 8=8:=rfl;rw [c8] at h2;obtain ⟨a2,cap2,rfl,hs2⟩:=h2.shape;obtain ⟨g2,rfl,hg2,hc2⟩:=hs2 (by rw [bitsOf_length];decide)
   have h3:=h1.below b2;have bl3:=below_more bl1 hB b2;have hl2:(bitsOf 8 (s[k].toNat:Int)).length=8:=bitsOf_length _ _;have L2:=hid hl2;have hx2:∀j u,(cellsB (bitsOf 8 (s[k].toNat:Int)))[j]?=some u→w1.cell? ((⟨g2,0,none⟩:Addr).add j)=some u:=cell_bits (fun j hj=>by rw [Oct.addr_add];exact hc2 j hj)
   have H3:=hid h3;have X2:=hid hx2;rw [hl2];clear h1 b2 f2 h2 hs2 hc2 c8 hl2 hx2 h3 bl1;generalize bitsOf 8 (s[k].toNat:Int)=y at *
   go_wp2_with (at_builtin;refine wpList_append_near _ rfl _ _ 58 rfl 4 t0 (.bool false) 1 1 Tryz.underlying58 hi hz0 hz1 hz2 rfl (by decide) u3 (tbits (s.data.toList.take k)).length (cellsB (tbits (s.data.toList.take k))) rfl H3.out ⟨g2,0,none⟩ 8 cap2 (cellsB y) rfl (by rw [cellsB_length,L2.out]) X2.out (cellsB_one _) (by rw [HL.out];unfold maxLen;omega) (by rw [HL.out];omega) ?_;intro v' w3 ho hg3 hn3)
   have ho':BlAt w3 v' (tbits (s.data.toList.take (k+1))):=by
    rw [SN.out];exact BlAt.joined (by rw [L2.out];exact ho)
   have HH:=hid (And.intro ho' (And.intro (below_row bl3 hB hg3 f1) (f1.near hn3 bl3.size)));clear ho hg3 hn3 ho' bl3 f1 H3 X2 hi hz0 hz1 hz2
   go_wp2
   refine ⟨⟨k+1,by omega,by go_num,HH.out.1,HH.out.2.1,HH.out.2.2⟩,by simp [intOf];omega⟩
  ·obtain rfl:k=s.size:=by omega
   rw [List.take_of_length_le (by simp)] at h1
   have HH:=hid (And.intro h1 (And.intro bl1 f1));clear h1 bl1 f1 hl1
   go_wp2
   go_ret;exact ⟨_,rfl,HH.out.1,HH.out.2.1,HH.out.2.2⟩
end Go.Proofs.YthbjllabgpaaaaaGreat.Bit
namespace Go.Proofs.YthbjllabgpaaaaaGreat.Huf
open Go.Lib (hid)
set_option maxHeartbeats 4000000
open Go.ChangeShapes Go.WideShapes Go.ChangeAt Go.RowKit
open Go.Proofs.YthbjllabgpaaaaaGreat.Bit (tat)
set_option linter.unusedVariables false
theorem nextB_div (T:List Bool) (p m:Nat):∀d,p+(m+d)≤T.length→bigN (nextB T p (m+d))/2^d=bigN (nextB T p m)
 | 0,_=>by simp
 | d+1,h=>by
  have ih:=nextB_div T p m d (by omega)
  rw [show m+(d+1)=(m+d)+1 by omega,nextB_succ T p (m+d) (by omega),Nat.pow_succ',←Nat.div_div_eq_div_mul]
  have hb:(tat T (p+(m+d))).toNat≤1:=by cases tat T (p+(m+d)) <;> simp
  rw [show (2*bigN (nextB T p (m+d))+(tat T (p+(m+d))).toNat)/2=bigN (nextB T p (m+d)) by omega,ih]
theorem nx_code (N:List Nat) (T:List Bool) (p i l:Nat) (h15:∀x∈N,x≤15) (hi:i<N.length) (hl:N[i]=l) (h1:1≤l) (hp:p+l≤T.length) (hc:bigN (nextB T p l)=codeV N i) :
  nxG N T p false 15 0 0=(i,0,p+l,false):=by
 have hl15:l≤15:=by rw [←hl];exact h15 _ (List.getElem_mem _)
 have hcode:=findV_code N h15 i l (bigN (nextB T p l)) hi h1 hl hc.symm;obtain ⟨m,_,hm2,hm3,hm4,hst⟩:=nx_spec N T p h15 15 0 0 rfl rfl (by omega) (by simp [top,fst,cn])
 rcases Nat.lt_trichotomy m l with h | h | h
 ·exfalso
  obtain ⟨d,rfl⟩:∃d,l=m+d:=⟨l-m,by omega⟩
  have hv:=nextB_div T p m d hp;rw [hc] at hv
  have hno:m=0∨¬(fst N m≤bigN (nextB T p m)∧bigN (nextB T p m)<top N m):=by
   by_cases h0:m=0
   ·exact .inl h0
   ·refine .inr fun hh=>?_
    obtain ⟨j,hj,ej,cj⟩:=(is_code N m (bigN (nextB T p m)) (by omega)).2 hh
    have:=code_apart N j i hj hi (by omega) (by omega) (by omega)
    rw [hl,ej,cj,show m+d-m=d by omega] at this
    exact this hv
  have hn:=findV_none N h15 m (bigN (nextB T p m)) (by omega) hno
  have hb:=(begins_code N m (bigN (nextB T p m)) (by omega) h15).1 ⟨i,hi,by omega,by rw [hl,show m+d-m=d by omega];exact hv⟩
  rw [if_pos hb] at hn;rcases hst with ⟨_,s2,_⟩ | ⟨s1,_⟩ | ⟨s,s1,_⟩
  ·omega
  ·rw [hn] at s1;omega
  ·rw [hn] at s1;omega
 ·subst h;rcases hst with ⟨s1,_⟩ | ⟨s1,_⟩ | ⟨s,s1,s2⟩
  ·rw [hcode] at s1;omega
  ·rw [hcode] at s1;omega
  ·rw [hcode] at s1;rw [s2,show s=i by omega]
 ·exfalso
  have:=(hm4 l (Nat.zero_le _) h).1
  rw [hcode] at this;omega
open Go.Proofs.YthbjllabgpaaaaaGreat.Bit (codeBits bitsOf num num_bitsOf pack pad tb tbits_packed cnt)
theorem bigN_rev:∀(l:List Bool),bigN l.reverse=num l
 | []=>rfl
 | b::l=>by
  rw [List.reverse_cons,bigN_snoc,bigN_rev l];simp only [num];omega
theorem bigN_code (c l:Nat) (hl:l≤15) (hc:c<2^l):bigN (codeBits c l)=c∧(codeBits c l).length=l:=by
 have hcn:cnt (l:Int)=l:=by unfold cnt;omega
 constructor
 ·unfold codeBits;rw [hcn,bigN_rev];have h:=num_bitsOf l (c:Int);have e:(c:Int)%2^l=((c%2^l:Nat):Int):=by simp
  rw [e,Nat.mod_eq_of_lt hc] at h;exact Int.ofNat.inj h
 ·rw [Bit.codeBits_length,hcn]
end Go.Proofs.YthbjllabgpaaaaaGreat.Huf
namespace Go.Proofs.YthbjllabgpaaaaaGreat.Huf
open Go.Lib (hid)
set_option maxHeartbeats 4000000
open Go.ChangeShapes Go.WideShapes Go.ChangeAt Go.RowKit
set_option linter.unusedVariables false

end Go.Proofs.YthbjllabgpaaaaaGreat.Huf
namespace Go.Proofs.YthbjllabgpaaaaaGreat.Bit
open Go.Lib (hid)
set_option maxHeartbeats 4000000
open Go.ChangeShapes Go.WideShapes Go.ChangeAt Go.RowKit
set_option linter.unusedVariables false
set_option maxRecDepth 100000
theorem quiet_w {P:Program} {f:FuncId} {args:Array Value} {w:World} {n:Nat} {v:Value}
  (h:Calls P f args (w.drewN n) fun e w'=>e=.returned v∧w.drewN n=w'):Calls P f args (w.drewN n) fun e w''=>e=.returned v∧∃m,w''=w.drewN m:=
 h.mono fun _ _ ⟨he,hm⟩=>⟨he,n,hm.symm⟩
def Sees (w:World) (a:Option Addr) (l:List Bool):Prop:=0<l.length→∃g off,a=some ⟨g,off,none⟩∧g<w.heap.size∧∀j,j<l.length→w.cell? ⟨g,off+j,none⟩=(cellsB l)[j]?
theorem cellsB_at {l:List Bool} {j:Nat} (h:j<l.length):(cellsB l)[j]?=some (.bool l[j]):=by simp [cellsB,h]
theorem drop_num (l:List Bool) (k:Nat) (h:k<l.length):num (l.drop k)=num (l.drop (k+1))*2+l[k].toNat:=by
 rw [List.drop_eq_getElem_cons h];simp only [num];omega
theorem number_any (a:Option Addr) (cap:Nat) (l:List Bool) (w:World) (h:Sees w a l) (hl:l.length≤32) :
  Calls Tryz.prog 80 #[.slice a l.length cap] w fun r w'=>r=.returned (.int .i64 (num l))∧w=w':=by
 obtain ⟨n,hn⟩:∃n,l.length=n:=⟨_,rfl⟩;have HN:=hid hn;have H:=hid h;rw [hn] at hl ⊢;clear hn h
 go_enter Tryz.func80,Tryz.ntmps80
 go_wp2
 go_loop [3,4] (fun v i=>∃k:Nat,k≤n∧i=.int .i64 ((k:Int)-1)∧v=.int .i64 (num (l.drop k):Nat)) (fun _ i=>(intOf i+1).toNat)
 case atStart=>exact ⟨n,Nat.le_refl _,rfl,by rw [List.drop_of_length_le (by rw [HN.out];exact Nat.le_refl _)];rfl⟩
 case round=>
  obtain ⟨k,hk,rfl,rfl⟩:=hrel;have hb:=num_lt (l.drop k);rw [List.length_drop,HN.out] at hb;have hb2:(2:Nat)^(n-k)≤2^32:=Nat.pow_le_pow_right (by decide) (by omega)
  by_cases h0:0<k
  ·obtain ⟨g,off,rfl,hg,hc⟩:=H.out (by rw [HN.out];omega)
   have hkl:k-1<l.length:=by rw [HN.out];omega
   have hcell:=hc (k-1) hkl;rw [cellsB_at hkl] at hcell;have hd:=drop_num l (k-1) hkl;rw [show k-1+1=k by omega] at hd
   generalize l[k-1]=bb at *;have HD:=hid hd;have e1:((k:Int)-1)=((k-1:Nat):Int):=by omega
   have e2:(0:Int)≤((k-1:Nat):Int):=by omega
   have e3:((k-1:Nat):Int)<n:=by omega
   rw [e1];generalize hk1:k-1=k1 at *;have K1:=hid hk1;clear hc hd e1 hk1;generalize num (l.drop k)=x at *
   cases bb with
   | true=>
    go_wp2
    refine ⟨⟨k1,by have:=K1.out;omega,by go_num,?_⟩,by have:=K1.out;simp [intOf]⟩
    rw [HD.out];go_num
   | false=>
    go_wp2
    refine ⟨⟨k1,by have:=K1.out;omega,by go_num,?_⟩,by have:=K1.out;simp [intOf]⟩
    rw [HD.out];go_num
  ·obtain rfl:k=0:=by omega
   go_wp2
   go_ret;exact ⟨rfl,rfl⟩
def lenOf:Value→Nat | .slice _ n _=>n | _=>0
def padK (l:List Bool) (k:Nat):List Bool:=l++List.replicate k false
theorem padK_length (l:List Bool) (k:Nat):(padK l k).length=l.length+k:=by simp [padK]
theorem padK_succ (l:List Bool) (k:Nat):padK l (k+1)=padK l k++[false]:=by
 unfold padK;rw [List.replicate_succ',List.append_assoc]
theorem refAlign_any (v:Value) (l:List Bool) (w:World) (h:BlAt w v l) (hl:l.length≤1099511627776) :
  Calls Tryz.prog 130 #[v] w fun r w'=>∃u,r=.returned u∧BlAt w' u (pad l)∧w.grownBy w' v.ownBlock∧Near w v u:=by
 obtain ⟨t0,hi,hz0,hz1,hz2⟩:=info_parts info_bool
 go_enter Tryz.func130,Tryz.ntmps130
 go_wp2_with fail
 go_loopw [0] (fun u wr=>∃k:Nat,k≤fre l∧BlAt wr u (padK l k)∧w.grownBy wr v.ownBlock∧Near w v u) (fun u _=>fre l-(lenOf u-l.length))
 case atStart=>exact ⟨0,Nat.zero_le _,by simpa [padK] using h,World.grownBy.refl _ _,Near.refl _ _⟩
 case round=>
  obtain ⟨k,hk,h1,g1,n1⟩:=hrel;have hpl:=padK_length l k;obtain ⟨a,cap,rfl,hs⟩:=h1.shape;obtain ⟨m,hm⟩:∃m,(padK l k).length=m:=⟨_,rfl⟩;have hfr:fre l=(8-l.length%8)%8:=rfl;rw [hm] at hpl;rw [hm] at n1 ⊢;have HM:=hid hm;have h1':BlAt wr (.slice a m cap) (padK l k):=by rw [←hm];exact h1
  have H1:=hid h1';have PL:=hid hpl;have m1:m≤1099511627783:=by omega
  clear hs hm h1 h1' 
  by_cases hlt:k<fre l
  ·have T1:((m:Int)%8 != 0)=true:=by simp;omega
   have T2:((m:Int).tmod 8 != 0)=true:=by rw [Int.tmod_eq_emod_of_nonneg (by omega)];exact T1
   clear hfr hpl
   go_wp2_with (at_builtin;refine wpList_append_near _ rfl _ _ 58 rfl 4 t0 (.bool false) 1 1 Tryz.underlying58 hi hz0 hz1 hz2 rfl (by decide) (.slice a m cap) (padK l k).length (cellsB (padK l k)) rfl (H1.out.alloc _) ⟨wr.heap.size,0,none⟩ 1 1 [.bool false] rfl rfl (cell_one_new _ _ _) (by intro u hu;simp at hu;subst hu;rfl) (by rw [HM.out];unfold maxLen;omega) (by rw [HM.out];omega) ?_;intro v' w3 ho hg3 hn3)
   have ho':BlAt w3 v' (padK l (k+1)):=by
    rw [padK_succ];unfold BlAt;rw [List.length_append,cellsB_append];exact ho
   have hg':=grow_alloc hg3;have hn':Near w v v':=n1.trans hn3.alloc g1.size;have hgg:=grow_trans g1 n1 hg';obtain ⟨a2,cap2,e2,_⟩:=ho'.shape;rw [padK_length] at e2;have HH:=hid (And.intro ho' (And.intro hgg (And.intro hn' e2)));clear ho hg3 hn3 ho' hg' hn' hgg g1 n1 H1 hi hz0 hz1 hz2 T1 T2 e2
   go_wp2
   refine ⟨⟨k+1,by omega,HH.out.1,HH.out.2.1,HH.out.2.2.1⟩,?_⟩
   have e2:=HH.out.2.2.2;have e3:=PL.out;rw [e2];simp only [lenOf];omega
  ·obtain rfl:k=fre l:=by omega
   have T1:((m:Int)%8 != 0)=false:=by simp;omega
   have T2:((m:Int).tmod 8 != 0)=false:=by rw [Int.tmod_eq_emod_of_nonneg (by omega)];exact T1
   have HH:=hid (And.intro H1.out (And.intro g1 n1));clear hfr hpl g1 n1
   go_wp2
   go_ret;exact ⟨_,rfl,HH.out.1,HH.out.2.1,HH.out.2.2⟩
def SeesV (w:World) (v:Value) (l:List Bool):Prop:=(v=.slice none 0 0∧l=[])∨∃g off cap,v=.slice (some ⟨g,off,none⟩) l.length cap∧∀j,j<l.length→w.cell? ⟨g,off+j,none⟩=(cellsB l)[j]?
theorem BlAt.row {w:World} {v:Value} {l:List Bool} (h:BlAt w v l) (h0:0<l.length):∃g cap,v=.slice (some ⟨g,0,none⟩) l.length cap∧g<w.heap.size∧l.length≤cap∧cap≤maxLen∧∀j,j<l.length→w.cell? ⟨g,j,none⟩=(cellsB l)[j]?:=by
 rcases h.2 with ⟨rfl,h1⟩ | ⟨g,cap,cur,rfl,_,hg,hc,hm,_⟩
 ·omega
 ·exact ⟨g,cap,rfl,(Array.getElem?_eq_some_iff.1 hg).1,hc,hm,fun j hj=>World.ownsRow.cellAt h j (by omega)⟩
theorem pack_take_succ (l:List Bool) (k:Nat) (h:k<(pack l).length):(pack l).take (k+1)=(pack l).take k++[UInt8.ofNat (num (((pad l).drop (8*k)).take 8))]:=by
 rw [List.take_succ_eq_append_getElem h]
 congr 2
 have h1:(pack l)[k]?=some (UInt8.ofNat (num (((pad l).drop (8*k)).take 8))):=by
  rw [←pack_pad l];exact pack_get _ _ (by rw [←pack_length,pack_pad];exact h)
 rw [List.getElem?_eq_getElem h] at h1;exact Option.some.inj h1
theorem snoc_arr (a:List UInt8) (b:UInt8):(⟨a.toArray⟩:ByteArray)++⟨#[b]⟩=⟨(a++[b]).toArray⟩:=by
 rw [ByteArray.mk_append_mk]
theorem text_any (v:Value) (l:List Bool) (w:World) (hl:l.length≤1000000) (h:SeesV w v l) :
  Calls Tryz.prog 108 #[v] w fun r w'=>r=.returned (.string ⟨(pack l).toArray⟩)∧Below w.heap.size w w':=by
 have hB:=Nat.le_refl w.heap.size;obtain ⟨t0,hi,hz0,hz1,hz2⟩:=info_parts info_bool;rcases h with ⟨rfl,rfl⟩ | ⟨g,off,cap,rfl,hc⟩
 ·go_enter Tryz.func108,Tryz.ntmps108
  go_wp2_with (at_builtin;refine wpList_append_own_none rfl _ _ 58 rfl 0 4 t0 1 Tryz.underlying58 hi (.slice none 0 0) 0 [] rfl (World.ownsRow_nil _ _ _ _) rfl ?_)
  refine (refAlign_any _ [] _ (BlAt.nil _) (by decide)).mono ?_
  rintro r w1 ⟨u,rfl,h1,g1,n1⟩;have h1':BlAt w1 u []:=h1;obtain ⟨a,cap,rfl,_⟩:=h1'.shape;have BL:=hid (below_row (Below.refl w.heap.size w) hB g1 (From.nil _));clear h1 h1' g1 n1 hi hz0 hz1 hz2
  go_wp2_with fail
  refine wp_loop_rounds 1 ?_;rw [rounds_succ]
  go_wp2_with fail
  go_ret;exact ⟨rfl,BL.out⟩
 ·obtain ⟨nn,hnn⟩:∃nn,l.length=nn:=⟨_,rfl⟩;have NN:=hid hnn;have hx2:∀j u,(cellsB l)[j]?=some u→w.cell? ((⟨g,off,none⟩:Addr).add j)=some u:=cell_bits (fun j hj=>by rw [Go.WideShapes.add_plain];exact hc j hj)
  have X2:=hid hx2;rw [hnn] at hl ⊢;clear hx2 hc hnn
  go_enter Tryz.func108,Tryz.ntmps108
  go_wp2_with (at_builtin;refine wpList_append_near _ rfl _ _ 58 rfl 4 t0 (.bool false) 1 1 Tryz.underlying58 hi hz0 hz1 hz2 rfl (by decide) (.slice none 0 0) 0 [] rfl (World.ownsRow_nil _ _ _ _) ⟨g,off,none⟩ nn cap (cellsB l) rfl (by rw [cellsB_length,NN.out];omega) X2.out (cellsB_one _) (by unfold maxLen;omega) (by omega) ?_;intro v' w1 ho hg hn)
  have h1:BlAt w1 v' l:=by
   unfold BlAt;rw [NN.out];simpa using ho
  have bl1:=below_row (Below.refl w.heap.size w) hB hg (From.nil _);have f1:=(From.nil w.heap.size).near hn hB;clear ho hg hn X2 hi hz0 hz1 hz2;refine (refAlign_any _ l _ h1 (by rw [NN.out];omega)).mono ?_
  rintro r w2 ⟨u,rfl,h2,g2,n2⟩;have bl2:=below_row bl1 hB g2 f1;clear h1 bl1 f1 g2 n2;have hpm:=pad_mod l;have hpl:(pad l).length=8*(pack l).length:=by rw [pad_length,pack_length];unfold fre;omega
  obtain ⟨M,hM⟩:∃M,(pack l).length=M:=⟨_,rfl⟩;rw [hM] at hpl;have hM2:M≤1000000:=by rw [←hM,pack_length,NN.out];omega
  have HM:=hid hM;have PL:=hid hpl;obtain ⟨a,cap2,hu,_⟩:=h2.shape;rw [hpl] at hu;subst hu;have H2:=hid h2;clear hpm hM hpl h2
  go_wp2_with fail
  go_loopw [4,5] (fun sv i wr=>∃k:Nat,k≤M∧i=.int .i64 ((8*k:Nat):Int)∧sv=.string ⟨((pack l).take k).toArray⟩∧Below w2.heap.size w2 wr) (fun _ i _=>8*M-(intOf i).toNat)
  case atStart=>exact ⟨0,Nat.zero_le _,rfl,rfl,Below.refl _ _⟩
  case round=>
   obtain ⟨k,hk,rfl,rfl,bl3⟩:=hrel
   by_cases hlt:k<M
   ·obtain ⟨g2,cap3,e3,hg2,hcap,hcm,hc2⟩:=H2.out.row (by rw [PL.out];omega)
    rw [PL.out] at e3 hcap hc2;simp only [Value.slice.injEq] at e3;obtain ⟨rfl,_,rfl⟩:=e3;obtain ⟨y,hy⟩:∃y,((pad l).drop (8*k)).take 8=y:=⟨_,rfl⟩;have hyl:y.length=8:=by rw [←hy,List.length_take,List.length_drop,PL.out];omega
    have hyn:num y≤255:=by have:=num_lt y;rw [hyl] at this;omega
    have hts:=pack_take_succ l k (by rw [HM.out];exact hlt)
    rw [hy] at hts;have hadd:=snoc_arr ((pack l).take k) (UInt8.ofNat (num y));rw [←hts] at hadd;have hof:((UInt8.ofNat (num y)).toNat:Int)=(num y:Int):=by rw [UInt8.toNat_ofNat'];omega
    have hsz:(⟨((pack l).take k).toArray⟩:ByteArray).size≤1000000:=by
     show ((pack l).take k).toArray.size≤_;rw [List.size_toArray,List.length_take];omega
    obtain ⟨p,hp⟩:∃p,8*k=p:=⟨_,rfl⟩;obtain ⟨q,hq⟩:∃q,8*M=q:=⟨_,rfl⟩
    have hsee:Sees wr (some ⟨g2,p,none⟩) y:=by
     intro _;refine ⟨g2,p,rfl,Nat.lt_of_lt_of_le hg2 bl3.size,fun j hj=>?_⟩
     rw [bl3.cell (p:=⟨g2,p+j,none⟩) hg2];rw [hc2 (p+j) (by omega)]
     rw [←hy,←hp];unfold cellsB;rw [List.getElem?_map,List.getElem?_map,List.getElem?_take_of_lt (by omega),List.getElem?_drop]
    rw [hp,hq];have SEE:=hid hsee;have HADD:=hid hadd;have HYL:=hid hyl;have q1:p+8≤q:=by omega
    have q2:q≤cap2:=by omega
    have q3:q≤8000000:=by omega
    have HP:=hid (And.intro hp hq);unfold maxLen at hcm
    have hconv:(convert 68 9 (.slice (some ⟨wr.heap.size,0,none⟩) 1 1)).run Tryz.prog (wr.alloc (.cells #[.int .u8 (num y:Nat)] 5))=.ok (.string ⟨#[UInt8.ofNat (num y)]⟩) (wr.alloc (.cells #[.int .u8 (num y:Nat)] 5)):=
     Oct.run_string_of _ 68 9 5 ⟨wr.heap.size,0,none⟩ 1 [UInt8.ofNat (num y)] 1 rfl Tryz.underlying68 Tryz.underlying5 Tryz.underlying9 (by
      intro j hj;obtain rfl:j=0:=by omega
      rw [Oct.addr_add,List.map_cons,hof]
      simp)
    obtain ⟨s1,hs1⟩:∃s1:ByteArray,(⟨((pack l).take (k+1)).toArray⟩:ByteArray)=s1:=⟨_,rfl⟩;rw [hs1] at hadd;have S1:=hid hs1;generalize hs0:(⟨((pack l).take k).toArray⟩:ByteArray)=s0 at *
    have hadd2:∀W:World,(Op.stringOp .add s0 ⟨#[UInt8.ofNat (num y)]⟩).run Tryz.prog W=.ok (.string s1) W:=fun W=>by
     rw [run_string_add_sum W _ _ (by
      have h1:(ByteArray.mk #[UInt8.ofNat (num y)]).size=1:=rfl;rw [h1];omega),hadd]
    have nc:=number_any (some ⟨g2,p,none⟩) (cap2-p) y wr SEE.out (by omega)
    rw [hyl] at nc;have NC:=hid nc;clear hs0 hs1 hts hy hp hq hof hsee hadd hyl hc2 nc HADD;generalize num y=z at *
    go_wp2_with fail
    refine NC.out.mono ?_;rintro r w5 ⟨rfl,rfl⟩
    go_wp2
    refine ⟨⟨k+1,by omega,?_,by rw [S1.out],bl3.alloc (by have:=bl3.size;omega) _⟩,?_⟩
    ·have:=HP.out.1;go_num
    ·have:=HP.out;simp [intOf];omega
   ·obtain rfl:k=M:=by omega
    have hfull:(pack l).take k=pack l:=List.take_of_length_le (by rw [HM.out];exact Nat.le_refl _)
    rw [hfull];have BL:=hid (below_more bl2 hB bl3);clear bl2 bl3 hfull
    go_wp2
    go_ret;exact ⟨rfl,BL.out⟩
end Go.Proofs.YthbjllabgpaaaaaGreat.Bit
namespace Go.Proofs.YthbjllabgpaaaaaGreat.Bit
open Go.Lib (hid)
set_option maxHeartbeats 4000000
open Go.ChangeShapes Go.WideShapes Go.ChangeAt Go.RowKit
set_option linter.unusedVariables false
set_option maxRecDepth 100000
structure RfAt (w:World) (b:Nat) (v:Value) (T:List Bool) (i:Nat) (bad:Bool):Prop where
 blk:w.heap[b]?=some (.cells #[v,.int .i64 i,.int .i64 (errI bad)] 61 (0,0))
 row:BlAt w v T
theorem RfAt.lt {w:World} {b:Nat} {v:Value} {T:List Bool} {i:Nat} {e:Bool} (h:RfAt w b v T i e):b<w.heap.size:=(Array.getElem?_eq_some_iff.1 h.blk).1
theorem RfAt.cells {w:World} {b:Nat} {v:Value} {T:List Bool} {i:Nat} {e:Bool} (h:RfAt w b v T i e) :
  w.cell? ⟨b,0,none⟩=some v∧w.cell? ⟨b,1,none⟩=some (.int .i64 i)∧w.cell? ⟨b,2,none⟩=some (.int .i64 (errI e))∧w.frozen? ⟨b,1,none⟩=false∧w.frozen? ⟨b,2,none⟩=false:=by
 refine ⟨?_,?_,?_,?_,?_⟩
 ·rw [cell_of_row w b 0 _ _ _ h.blk];rfl
 ·rw [cell_of_row w b 1 _ _ _ h.blk];rfl
 ·rw [cell_of_row w b 2 _ _ _ h.blk];rfl
 ·exact frozen_of_row w b 1 _ _ h.blk
 ·exact frozen_of_row w b 2 _ _ h.blk
theorem RfAt.ne {w:World} {b:Nat} {v:Value} {T:List Bool} {i:Nat} {e:Bool} (h:RfAt w b v T i e):v.ownBlock≠some b:=row_ne h.row h.blk (by decide)
theorem RfAt.set1 {w:World} {b:Nat} {v:Value} {T:List Bool} {i:Nat} {e:Bool} (h:RfAt w b v T i e) (j:Nat):RfAt (w.setCell ⟨b,1,none⟩ (.int .i64 j)) b v T j e:=by
 refine ⟨?_,h.row.block fun k hk=>heap_setCell_other w ⟨b,1,none⟩ k _ (fun e=>h.ne (by rw [hk,e]))⟩
 rw [heap_setCell_same w b 1 _ _ _ h.blk];rfl
theorem RfAt.set2 {w:World} {b:Nat} {v:Value} {T:List Bool} {i:Nat} {e:Bool} (h:RfAt w b v T i e):RfAt (w.setCell ⟨b,2,none⟩ (.int .i64 2)) b v T i true:=by
 refine ⟨?_,h.row.block fun k hk=>heap_setCell_other w ⟨b,2,none⟩ k _ (fun e=>h.ne (by rw [hk,e]))⟩
 rw [heap_setCell_same w b 2 _ _ _ h.blk];rfl
theorem RfAt.draws {w:World} {b:Nat} {v:Value} {T:List Bool} {i:Nat} {e:Bool} (h:RfAt w b v T i e) (n:Nat):RfAt (w.drewN n) b v T i e:=⟨h.blk,h.row⟩
theorem RfAt.drew {w:World} {b:Nat} {v:Value} {T:List Bool} {i:Nat} {e:Bool} (h:RfAt w b v T i e):RfAt w.drew b v T i e:=⟨h.blk,h.row⟩
theorem RfAt.below {w w':World} {b:Nat} {v:Value} {T:List Bool} {i:Nat} {e:Bool} (h:RfAt w b v T i e) (k:Below w.heap.size w w'):RfAt w' b v T i e:=
 ⟨by rw [k.block b h.lt];exact h.blk,h.row.below k⟩
theorem rfbits_bad (b:Nat) (v:Value) (T:List Bool) (i:Nat) (e:Bool) (n:Int) (w:World) (h:RfAt w b v T i e) (hi:i≤T.length) (hT:T.length≤1099511627776) (hok:rOk T i e (cnt n)=false) :
  Calls Tryz.prog 52 #[.pointer (some ⟨b,0,none⟩),.int .i64 n] w fun r w'=>r=.returned (.int .i64 0)∧RfAt w' b v T i true∧w.grownBy w' (some b):=by
 have hle:=cnt_le n;generalize hn:cnt n=m at *;have HN:=hid hn;clear hn;obtain ⟨a,cap,rfl,_⟩:=h.row.shape;obtain ⟨q,hq⟩:∃q,T.length=q:=⟨_,rfl⟩;have H:=hid h;obtain ⟨c0,c1,c2,f1,f2⟩:=h.cells;rw [hq] at c0 hi hT;have HQ:=hid hq;have hok':=hok;clear h
 cases e with
 | true=>
  have c3:w.cell? ⟨b,2,none⟩=some (.int .i64 2):=c2;clear c2 hok hok' hq
  go_enter Tryz.func52,Tryz.ntmps52
  go_wp2_with fail
  refine (count_any _ _).mono ?_;rintro r w' ⟨rfl,rfl⟩;rw [HN.out]
  go_wp2_with fail
  go_quiet (fail)
  have H2:=hid (H.out.draws nq);have G2:=hid (rgrown_drewN (World.grownBy.refl w (some b)) nq);obtain ⟨c4,c5,c6,f4,f5⟩:=H2.out.cells;have c7:(w.drewN nq).cell? ⟨b,2,none⟩=some (.int .i64 2):=c6;clear c0 c1 c3 f1 f2 c6;generalize w.drewN nq=w2 at *
  go_wp2_with fail
  go_ret;exact ⟨rfl,H2.out,G2.out⟩
 | false=>
  have c3:w.cell? ⟨b,2,none⟩=some (.int .i64 0):=c2;have hm:q-i<m:=by unfold rOk at hok;simp at hok;omega
  have k1:IntKind.i64.wrap ((q:Int)-i)=((q-i:Nat):Int):=by rw [show (q:Int)-i=((q-i:Nat):Int) by omega];exact IntWalk.i64_in _ (by omega)
  have k2:decide (((q-i:Nat):Int)<(m:Int))=true:=by simp;omega
  have k3:((q-i:Nat):Int)<(m:Int):=by omega
  clear c2 hok hok' hq
  go_enter Tryz.func52,Tryz.ntmps52
  go_wp2_with fail
  refine (count_any _ _).mono ?_;rintro r w' ⟨rfl,rfl⟩;rw [HN.out]
  go_wp2_with fail
  go_quiet (fail)
  have H2:=hid (H.out.draws nq);have G2:=hid (rgrown_drewN (World.grownBy.refl w (some b)) nq);obtain ⟨c4,c5,c6,f4,f5⟩:=H2.out.cells;clear c0 c1 c3 f1 f2;generalize w.drewN nq=w2 at *
  go_wp2_with fail
  go_ret;exact ⟨rfl,H2.out.set2,rgrown_trans G2.out (rgrown_set _ _ _ _)⟩
theorem SeesV.cut {w:World} {g cap:Nat} {T:List Bool} (h:BlAt w (.slice (some ⟨g,0,none⟩) T.length cap) T) (i k:Nat) (hik:i+k≤T.length):∀j,j<k→w.cell? ⟨g,i+j,none⟩=(cellsB ((T.drop i).take k))[j]?:=by
 intro j hj;rw [World.ownsRow.cellAt h (i+j) (by omega)]
 unfold cellsB;rw [List.getElem?_map,List.getElem?_map,List.getElem?_take_of_lt hj,List.getElem?_drop]
theorem rfbits_ok (b:Nat) (v:Value) (T:List Bool) (i:Nat) (n:Int) (w:World) (h:RfAt w b v T i false) (hi:i≤T.length) (hT:T.length≤1099511627776) (hok:i+cnt n≤T.length) :
  Calls Tryz.prog 52 #[.pointer (some ⟨b,0,none⟩),.int .i64 n] w fun r w'=>r=.returned (.int .i64 (num ((T.drop i).take (cnt n))))∧RfAt w' b v T (i+cnt n) false∧w.grownBy w' (some b):=by
 have hle:=cnt_le n;generalize hn:cnt n=m at *;have HN:=hid hn;clear hn;obtain ⟨q,hq⟩:∃q,T.length=q:=⟨_,rfl⟩;obtain ⟨c0,c1,c2,f1,f2⟩:=h.cells;have c3:w.cell? ⟨b,2,none⟩=some (.int .i64 0):=c2;clear c2;have HQ:=hid hq;have k1:IntKind.i64.wrap ((q:Int)-i)=((q-i:Nat):Int):=by rw [show (q:Int)-i=((q-i:Nat):Int) by omega];exact IntWalk.i64_in _ (by omega)
 have k2:decide (((q-i:Nat):Int)<(m:Int))=false:=by simp;omega
 have k6:(i:Int)+m≤1099511627776:=by omega
 rcases Nat.eq_zero_or_pos m with h0 | h0
 ·subst h0;have e0:num ((T.drop i).take 0)=0:=by simp [num]
  rw [e0];clear e0;obtain ⟨a,cap,rfl,hsh⟩:=h.row.shape;have H:=hid h
  have hcap:(a=none∧q=0∧cap=0)∨(∃g,a=some ⟨g,0,none⟩∧q≤cap∧cap≤maxLen):=by
   rcases h.row.2 with ⟨e,h1⟩ | ⟨g,cp,cur,e,_,_,h2,h3,_⟩
   ·simp only [Value.slice.injEq] at e;exact .inl ⟨e.1,by omega,e.2.2⟩
   ·simp only [Value.slice.injEq] at e;obtain ⟨rfl,_,rfl⟩:=e;exact .inr ⟨g,rfl,by omega,h3⟩
  have nc:Hid (∀(W:World) (a:Option Addr) (c:Nat),Calls Tryz.prog 80 #[.slice a 0 c] W fun r w'=>r=.returned (.int .i64 0)∧W=w'):=fun W a c=>number_any a c [] W (fun h=>by simp at h) (by decide)
  rw [hq] at c0 hi hT hok;clear hsh hq h;have k4:IntKind.i64.wrap ((i:Int)+0)=i:=IntWalk.i64_in _ (by omega)
  have k5:IntKind.i64.wrap ((i:Int)-0)=i:=IntWalk.i64_in _ (by omega)
  go_enter Tryz.func52,Tryz.ntmps52
  go_wp2_with fail
  refine (count_any _ _).mono ?_;rintro r w' ⟨rfl,rfl⟩;rw [HN.out]
  go_wp2_with fail
  go_quiet (fail)
  have H2:=hid (H.out.draws nq);have G2:=hid (rgrown_drewN (World.grownBy.refl w (some b)) nq);obtain ⟨c4,c5,c6,f4,f5⟩:=H2.out.cells;rw [HQ.out] at c4;have c7:(w.drewN nq).cell? ⟨b,2,none⟩=some (.int .i64 0):=c6;clear c0 c1 c3 f1 f2 c6;generalize w.drewN nq=w2 at *;have h3:=H2.out.set1 (i+0);have g3:=rgrown_trans G2.out (rgrown_set w2 b 1 (.int .i64 ((i+0:Nat):Int)));rw [show ((i+0:Nat):Int)=(i:Int) by omega] at h3 g3
  obtain ⟨c8,c9,c10,_,_⟩:=h3.cells;rw [HQ.out] at c8;have H3:=hid h3;have G3:=hid g3;clear h3 g3
  go_wp2_with fail
  clear c4 c5 c7 f4 f5 H2 G2;generalize w2.setCell ⟨b,1,none⟩ (.int .i64 (i:Int))=w3 at *;rcases hcap with ⟨rfl,rfl,rfl⟩ | ⟨g,rfl,hqc,hcm⟩
  ·obtain rfl:i=0:=by omega
   go_quiet ((go_at_call 80;exact quiet_w (nc.out _ _ _)))
   go_wp2_with fail
   go_ret;exact ⟨rfl,H3.out.draws _,rgrown_drewN G3.out _⟩
  ·have j1:(i:Int)≤cap:=by omega
   have j2:(0:Int)≤i:=by omega
   unfold maxLen at hcm
   by_cases hic:i=cap
   ·subst hic
    go_quiet ((go_at_call 80;exact quiet_w (nc.out _ _ _)))
    go_wp2_with fail
    go_ret;exact ⟨rfl,H3.out.draws _,rgrown_drewN G3.out _⟩
   ·have j3:i<cap:=by omega
    clear hic
    go_quiet ((go_at_call 80;exact quiet_w (nc.out _ _ _)))
    go_wp2_with fail
    go_ret;exact ⟨rfl,H3.out.draws _,rgrown_drewN G3.out _⟩
 ·obtain ⟨g,cap,rfl,hg,hqc,hcm,hc⟩:=h.row.row (by omega)
  have H:=hid h;rw [hq] at c0 hi hT hok hqc;unfold maxLen at hcm;have k4:IntKind.i64.wrap ((i:Int)+m)=i+m:=IntWalk.i64_in _ (by omega)
  have k5:IntKind.i64.wrap ((i:Int)+m-m)=i:=by rw [show (i:Int)+m-m=i by omega];exact IntWalk.i64_in _ (by omega)
  obtain ⟨y,hy⟩:∃y,(T.drop i).take m=y:=⟨_,rfl⟩;have hyl:y.length=m:=by rw [←hy,List.length_take,List.length_drop];omega
  have nc:Hid (∀(W:World) (hW:RfAt W b (.slice (some ⟨g,0,none⟩) T.length cap) T (i+m) false) (c:Nat),Calls Tryz.prog 80 #[.slice (some ⟨g,i,none⟩) m c] W fun r w'=>r=.returned (.int .i64 (num y))∧W=w'):=fun W hW c=>by
   have:=number_any (some ⟨g,i,none⟩) c y W (fun _=>⟨g,i,rfl,(by
    rcases hW.row.row (by omega) with ⟨g',cap',e,hg',_⟩
    simp only [Value.slice.injEq,Option.some.injEq,Addr.mk.injEq] at e;rw [e.1.1];exact hg'),fun j hj=>by rw [←hy];exact SeesV.cut hW.row i m (by omega) j (by omega)⟩) (by omega)
   rw [hyl] at this;exact this
  rw [hy];clear hc hq h hy hyl
  go_enter Tryz.func52,Tryz.ntmps52
  go_wp2_with fail
  refine (count_any _ _).mono ?_;rintro r w' ⟨rfl,rfl⟩;rw [HN.out]
  go_wp2_with fail
  go_quiet (fail)
  have H2:=hid (H.out.draws nq);have G2:=hid (rgrown_drewN (World.grownBy.refl w (some b)) nq);obtain ⟨c4,c5,c6,f4,f5⟩:=H2.out.cells;rw [HQ.out] at c4;have c7:(w.drewN nq).cell? ⟨b,2,none⟩=some (.int .i64 0):=c6;clear c0 c1 c3 f1 f2 c6;generalize w.drewN nq=w2 at *;have h3:=H2.out.set1 (i+m);have g3:=rgrown_trans G2.out (rgrown_set w2 b 1 (.int .i64 ((i+m:Nat):Int)));obtain ⟨c8,c9,c10,_,_⟩:=h3.cells;rw [show ((i+m:Nat):Int)=(i:Int)+m by omega] at h3 g3 c8 c9 c10
  rw [HQ.out] at c8;have H3:=hid h3;have G3:=hid g3;clear h3 g3
  go_wp2_with fail
  clear c4 c5 c7 f4 f5 H2 G2;generalize w2.setCell ⟨b,1,none⟩ (.int .i64 ((i:Int)+m))=w3 at *;have j1:(i:Int)+m≤cap:=by omega
  have j2:(0:Int)≤i:=by omega
  have j3:(i:Int)≤i+m:=by omega
  have j4:i<cap:=by omega
  go_quiet ((go_at_call 80;exact quiet_w (nc.out _ (H3.out.draws _) _)))
  go_wp2_with fail
  go_ret;exact ⟨rfl,H3.out.draws _,rgrown_drewN G3.out _⟩
theorem rfbits_any (b:Nat) (v:Value) (T:List Bool) (i:Nat) (e:Bool) (n:Int) (w:World) (h:RfAt w b v T i e) (hi:i≤T.length) (hT:T.length≤1099511627776) :
  Calls Tryz.prog 52 #[.pointer (some ⟨b,0,none⟩),.int .i64 n] w fun r w'=>r=.returned (.int .i64 (rV T i e (cnt n)))∧RfAt w' b v T (rI T i e (cnt n)) (!rOk T i e (cnt n))∧w.grownBy w' (some b):=by
 cases hok:rOk T i e (cnt n) with
 | false=>
  have e1:rV T i e (cnt n)=0:=by unfold rV;rw [hok];rfl
  have e2:rI T i e (cnt n)=i:=by unfold rI;rw [hok];rfl
  rw [e1,e2];exact rfbits_bad b v T i e n w h hi hT hok
 | true=>
  have e1:rV T i e (cnt n)=num ((T.drop i).take (cnt n)):=by unfold rV;rw [if_pos hok]
  have e2:rI T i e (cnt n)=i+cnt n:=by unfold rI;rw [if_pos hok]
  have hq:e=false∧cnt n≤T.length-i:=by
   unfold rOk at hok;simp only [Bool.and_eq_true,Bool.not_eq_true',decide_eq_true_eq] at hok;exact hok
  obtain ⟨rfl,hq⟩:=hq;rw [e1,e2];exact rfbits_ok b v T i n w h hi hT (by omega)
end Go.Proofs.YthbjllabgpaaaaaGreat.Bit
namespace Go.Proofs.YthbjllabgpaaaaaGreat.Bit
open Go.Lib (hid)
set_option maxHeartbeats 4000000
open Go.ChangeShapes Go.WideShapes Go.ChangeAt Go.RowKit
set_option linter.unusedVariables false
theorem gap_any (b:Nat) (v:Value) (T:List Bool) (i:Nat) (e:Bool) (w:World) (h:RfAt w b v T i e) (hi:i≤8796093022208) :
  Calls Tryz.prog 107 #[.pointer (some ⟨b,0,none⟩)] w fun r w'=>r=.returned (.int .i64 (gap i))∧w=w':=by
 obtain ⟨c0,c1,c2,f1,f2⟩:=h.cells;clear h;have e1:((i:Int))%8=((i%8:Nat):Int):=by omega
 have e2:(8-(i:Int)%8)%8=((gap i:Nat):Int):=by unfold gap;omega
 have E2:=hid e2;clear e1 e2
 go_enter Tryz.func107,Tryz.ntmps107
 go_wp2
 go_ret;exact ⟨by rw [←E2.out];rfl,rfl⟩
theorem tbits_drop (s:List UInt8):∀f,(tbits s).drop (8*f)=tbits (s.drop f):=by
 induction s with
 | nil=>intro f;simp [tbits]
 | cons x s ih=>
  intro f
  cases f with
  | zero=>simp
  | succ f=>
   have e:tbits (x::s)=bitsOf 8 x.toNat++tbits s:=by simp [tbits]
   rw [e,show 8*(f+1)=(bitsOf 8 (x.toNat:Int)).length+8*f by rw [bitsOf_length];omega,←List.drop_drop,List.drop_left,ih,List.drop_succ_cons]
theorem tbits_take (s:List UInt8):∀f,(tbits s).take (8*f)=tbits (s.take f):=by
 induction s with
 | nil=>intro f;simp [tbits]
 | cons x s ih=>
  intro f
  cases f with
  | zero=>simp [tbits]
  | succ f=>
   have e:tbits (x::s)=bitsOf 8 x.toNat++tbits s:=by simp [tbits]
   have e2:tbits (x::s.take f)=bitsOf 8 x.toNat++tbits (s.take f):=by simp [tbits]
   rw [e,List.take_succ_cons,e2,←ih,show 8*(f+1)=(bitsOf 8 (x.toNat:Int)).length+8*f by rw [bitsOf_length];omega,List.take_length_add_append]
theorem pack_cut (t:ByteArray) (f k:Nat):(⟨(pack (((tb t).drop (8*f)).take (8*k))).toArray⟩:ByteArray)=t.extract f (f+k):=by
 unfold tb;rw [tbits_drop,tbits_take,pack_tbits]
 apply ByteArray.ext
 rw [ByteArray.data_extract]
 apply Array.ext'
 rw [Array.toList_extract,List.extract_eq_take_drop,show f+k-f=k by omega]
end Go.Proofs.YthbjllabgpaaaaaGreat.Bit
namespace Go.Proofs.YthbjllabgpaaaaaGreat.Bit
open Go.Lib (hid)
set_option maxHeartbeats 4000000
open Go.ChangeShapes Go.WideShapes Go.ChangeAt Go.RowKit
set_option linter.unusedVariables false
set_option maxRecDepth 100000
theorem grown_below {w w1 w2:World} {b:Nat} (h:w.grownBy w1 (some b)) (k:Below w1.heap.size w1 w2):w.grownBy w2 (some b):=
 ⟨k.os.trans h.os,k.tape.trans h.tape,k.output.trans h.output,Nat.le_trans h.size k.size,fun i hi hr=>(k.block i (Nat.lt_of_lt_of_le hi h.size)).trans (h.block i hi hr)⟩
theorem rfbytes_bad (b:Nat) (v:Value) (t:ByteArray) (i:Nat) (e:Bool) (n:Int) (w:World) (h:RfAt w b v (tb t) i e) (hi:i≤(tb t).length) (ht:t.size≤100000) (hok:yOk (tb t) i e n=false) :
  Calls Tryz.prog 81 #[.pointer (some ⟨b,0,none⟩),.int .i64 n] w fun r w'=>r=.returned (.string ⟨#[]⟩)∧RfAt w' b v (tb t) i true∧w.grownBy w' (some b):=by
 have hlen:=tb_length t;obtain ⟨k,hk⟩:∃k:Nat,(k:Int)=max n 0:=⟨(max n 0).toNat,by omega⟩
 have hmx:(if n<0 then (0:Int) else n)=k:=by rw [hk];split <;> omega
 obtain ⟨a,cap,rfl,_⟩:=h.row.shape;obtain ⟨q,hq⟩:∃q,(tb t).length=q:=⟨_,rfl⟩;have H:=hid h;obtain ⟨c0,c1,c2,f1,f2⟩:=h.cells;rw [hq] at c0 hi hlen;have HQ:=hid hq;clear h
 cases e with
 | true=>
  have c3:w.cell? ⟨b,2,none⟩=some (.int .i64 2):=c2;clear c2 hok hq hk hlen
  go_enter Tryz.func81,Tryz.ntmps81
  go_wp2_with fail
  go_quiet (fail)
  have H2:=hid (H.out.draws nq);have G2:=hid (rgrown_drewN (World.grownBy.refl w (some b)) nq);obtain ⟨c4,c5,c6,f4,f5⟩:=H2.out.cells;have c7:(w.drewN nq).cell? ⟨b,2,none⟩=some (.int .i64 2):=c6;clear c0 c1 c3 f1 f2 c6;generalize w.drewN nq=w2 at *
  go_wp2_with fail
  go_ret;exact ⟨rfl,H2.out,G2.out⟩
 | false=>
  have c3:w.cell? ⟨b,2,none⟩=some (.int .i64 0):=c2;obtain ⟨G,hG,hG7⟩:∃G,gap i=G∧G≤7:=⟨_,rfl,by unfold gap;omega⟩
  obtain ⟨R,hR⟩:∃R,(q-i)/8=R:=⟨_,rfl⟩;have hqr:q-i=8*R+G:=by rw [←hR,←hG];unfold gap;omega
  have hm:R<k:=by
   unfold yOk at hok;rw [hq,hR,←hk] at hok;simp at hok;omega
  have k1:IntKind.i64.wrap ((q:Int)-i)=((q-i:Nat):Int):=by rw [show (q:Int)-i=((q-i:Nat):Int) by omega];exact IntWalk.i64_in _ (by omega)
  have k2:IntKind.i64.wrap (((q-i:Nat):Int)-G)=((8*R:Nat):Int):=by rw [show ((q-i:Nat):Int)-G=((8*R:Nat):Int) by omega];exact IntWalk.i64_in _ (by omega)
  obtain ⟨R8,hR8⟩:∃R8,8*R=R8:=⟨_,rfl⟩;rw [hR8] at k2;have k3:(R8:Int).tdiv 8=R:=by rw [Int.tdiv_eq_ediv_of_nonneg (by omega)];omega
  have k3b:IntKind.i64.wrap (R:Int)=R:=IntWalk.i64_in _ (by omega)
  have k3c:(R8:Int)/8=R:=by omega
  have k4:decide ((R:Int)<(k:Int))=true:=by simp;omega
  have gc:Hid (∀W,RfAt W b (.slice a (tb t).length cap) (tb t) i false→Calls Tryz.prog 107 #[.pointer (some ⟨b,0,none⟩)] W fun r w'=>r=.returned (.int .i64 G)∧W=w'):=fun W hW=>by
   have:=gap_any b _ _ i false W hW (by omega)
   rw [hG] at this;exact this
  have kk:(R:Int)<k:=by omega
  clear c2 hok hq hk hqr hR hG hR8 hm hlen
  go_enter Tryz.func81,Tryz.ntmps81
  go_wp2_with fail
  go_quiet ((go_at_call 107;exact quiet_w (gc.out _ (H.out.draws _))))
  have H2:=hid (H.out.draws nq);have G2:=hid (rgrown_drewN (World.grownBy.refl w (some b)) nq);obtain ⟨c4,c5,c6,f4,f5⟩:=H2.out.cells;clear c0 c1 c3 f1 f2;generalize w.drewN nq=w2 at *
  go_wp2_with fail
  go_ret;exact ⟨rfl,H2.out.set2,rgrown_trans G2.out (rgrown_set _ _ _ _)⟩
theorem run_cut (W:World) (a:Option Addr) (q cap F k:Nat) (h:F+8*k≤cap) :
  (Instr.slice 58 (.slice a q cap) (some (.int .i64 (F:Int))) (some (.int .i64 ((F:Int)+8*k))) none).run Tryz.prog W=.ok (.slice (if cap=F then a else a.map (·.add F)) (8*k) (cap-F)) W:=by
 have h0:(0:Int)≤F:=by omega
 have h1:(F:Int)+8*k≤cap:=by omega
 have h2:(F:Int)≤(F:Int)+8*k:=by omega
 have e1:((F:Int)+8*k).toNat=F+8*k:=by omega
 have h3:0≤(F:Int)+8*k:=by omega
 have h5:(F:Int)≤((F+8*k:Nat):Int):=by omega
 have hb:=run_sliceBound (P:=Tryz.prog) (w:=W) .i64 (F:Int) (F+8*k) .sliceB h0 h5;have e2:F+8*k-F=8*k:=by omega
 simp [Instr.slice,run_underlying Tryz.underlying58,Instr.sliceBounds,run_sliceBound,h1,h3,e1,hb,e2]
theorem sees_cut {W:World} {a:Option Addr} {cap F k:Nat} {T:List Bool} (h:BlAt W (.slice a T.length cap) T) (hF:F+8*k≤T.length):SeesV W (.slice (if cap=F then a else a.map (·.add F)) (8*k) (cap-F)) ((T.drop F).take (8*k)):=by
 have hyl:((T.drop F).take (8*k)).length=8*k:=by rw [List.length_take,List.length_drop];omega
 rcases h.2 with ⟨e,h1⟩ | ⟨g,cp,cur,e,_,_,h2,h3,_⟩
 ·simp only [Value.slice.injEq] at e;obtain ⟨rfl,_,rfl⟩:=e;obtain rfl:F=0:=by omega
  obtain rfl:k=0:=by omega
  left
  simp
 ·simp only [Value.slice.injEq] at e;obtain ⟨rfl,_,rfl⟩:=e
  right
  by_cases hc:cap=F
  ·rw [if_pos hc];exact ⟨g,0,cap-F,by rw [hyl],fun j hj=>by omega⟩
  ·rw [if_neg hc];refine ⟨g,F,cap-F,?_,fun j hj=>?_⟩
   ·rw [hyl,Option.map_some,Go.WideShapes.add_plain,Nat.zero_add]
   ·exact SeesV.cut h F (8*k) hF j (by omega)
theorem rfbytes_ok (b:Nat) (v:Value) (t:ByteArray) (i:Nat) (n:Int) (w:World) (h:RfAt w b v (tb t) i false) (hi:i≤(tb t).length) (ht:t.size≤100000) (hok:yOk (tb t) i false n=true) :
  Calls Tryz.prog 81 #[.pointer (some ⟨b,0,none⟩),.int .i64 n] w fun r w'=>r=.returned (.string (yS t i false n))∧RfAt w' b v (tb t) (yI (tb t) i false n) false∧w.grownBy w' (some b):=by
 have hlen:=tb_length t;obtain ⟨k,hk,hk0⟩:∃k:Nat,(k:Int)=max n 0∧n.toNat=k:=⟨n.toNat,by omega,rfl⟩
 have hmx:(if n<0 then (0:Int) else n)=k:=by rw [hk];split <;> omega
 obtain ⟨f,hf⟩:∃f,(i+7)/8=f:=⟨_,rfl⟩;have s1:yS t i false n=t.extract f (f+k):=by unfold yS;rw [if_pos hok,hk0,hf]
 have s2:yI (tb t) i false n=8*f+8*k:=by unfold yI;rw [if_pos hok,hk0,hf];omega
 have hpc:=pack_cut t f k;obtain ⟨s,hs⟩:∃s,t.extract f (f+k)=s:=⟨_,rfl⟩;rw [s1,s2,hs];rw [hs] at hpc;obtain ⟨G,hG,hG7⟩:∃G,gap i=G∧G≤7:=⟨_,rfl,by unfold gap;omega⟩
 obtain ⟨q,hq⟩:∃q,(tb t).length=q:=⟨_,rfl⟩;obtain ⟨R,hR⟩:∃R,(q-i)/8=R:=⟨_,rfl⟩;have hiG:i+G=8*f:=by rw [←hG,←hf];unfold gap;omega
 have hqr:q-i=8*R+G:=by rw [←hR,←hG];unfold gap;omega
 have hm:k≤R:=by
  unfold yOk at hok;rw [hq,hR,←hk] at hok;simp at hok;omega
 obtain ⟨F,hF⟩:∃F,8*f=F:=⟨_,rfl⟩;rw [hF] at hiG hpc ⊢;have hFk:F+8*k≤q:=by omega
 obtain ⟨y,hy⟩:∃y,((tb t).drop F).take (8*k)=y:=⟨_,rfl⟩;have hyl:y.length=8*k:=by rw [←hy,List.length_take,List.length_drop];omega
 rw [hy] at hpc;obtain ⟨c0,c1,c2,f1,f2⟩:=h.cells;have c3:w.cell? ⟨b,2,none⟩=some (.int .i64 0):=c2;obtain ⟨a,cap,rfl,hsh⟩:=h.row.shape;clear hsh
 have hcap:(a=none∧q=0∧cap=0)∨(∃g,a=some ⟨g,0,none⟩∧q≤cap∧cap≤maxLen):=by
  rcases h.row.2 with ⟨e,h1⟩ | ⟨g,cp,cur,e,_,_,h2,h3,_⟩
  ·simp only [Value.slice.injEq] at e;exact .inl ⟨e.1,by omega,e.2.2⟩
  ·simp only [Value.slice.injEq] at e;obtain ⟨rfl,_,rfl⟩:=e;exact .inr ⟨g,rfl,by omega,h3⟩
 have HCAP:=hid hcap;clear hcap;have H:=hid h;rw [hq] at c0 hi;have HQ:=hid hq;have hq6:q≤800000:=by omega
 have k1:IntKind.i64.wrap ((q:Int)-i)=((q-i:Nat):Int):=by rw [show (q:Int)-i=((q-i:Nat):Int) by omega];exact IntWalk.i64_in _ (by omega)
 have k2:IntKind.i64.wrap (((q-i:Nat):Int)-G)=((8*R:Nat):Int):=by rw [show ((q-i:Nat):Int)-G=((8*R:Nat):Int) by omega];exact IntWalk.i64_in _ (by omega)
 obtain ⟨R8,hR8⟩:∃R8,8*R=R8:=⟨_,rfl⟩;rw [hR8] at k2;have k3:(R8:Int).tdiv 8=R:=by rw [Int.tdiv_eq_ediv_of_nonneg (by omega)];omega
 have k3b:IntKind.i64.wrap (R:Int)=R:=IntWalk.i64_in _ (by omega)
 have k3c:(R8:Int)/8=R:=by omega
 have k4:decide ((R:Int)<(k:Int))=false:=by simp;omega
 have k4n:decide (R<k)=false:=by simp;omega
 have gc:Hid (∀W,RfAt W b (.slice a (tb t).length cap) (tb t) i false→Calls Tryz.prog 107 #[.pointer (some ⟨b,0,none⟩)] W fun r w'=>r=.returned (.int .i64 G)∧W=w'):=fun W hW=>by
  have:=gap_any b _ _ i false W hW (by omega)
  rw [hG] at this;exact this
 have k5:IntKind.i64.wrap ((i:Int)+G)=F:=by rw [show (i:Int)+G=F by omega];exact IntWalk.i64_in _ (by omega)
 have PC:=hid hpc;have HY:=hid (And.intro hy hyl);clear c2 hok hq hk hqr hR hG hR8 hm hlen hk0 hf hs hpc hiG hF hy hyl h s1 s2
 go_enter Tryz.func81,Tryz.ntmps81
 go_wp2_with fail
 go_quiet ((go_at_call 107;exact quiet_w (gc.out _ (H.out.draws _))))
 have H2:=hid (H.out.draws nq);have G2:=hid (rgrown_drewN (World.grownBy.refl w (some b)) nq);obtain ⟨c4,c5,c6,f4,f5⟩:=H2.out.cells;have c7:(w.drewN nq).cell? ⟨b,2,none⟩=some (.int .i64 0):=c6;clear c0 c1 c3 f1 f2 c6 k1 k2 k3 k3b k3c;generalize w.drewN nq=w2 at *
 go_wp2_with fail
 go_region_with (go_at_call 107;refine (gc.out w2.drew H2.out.drew).mono ?_;rintro r w' ⟨rfl,rfl⟩)
 all_goals
  have h3:=(H2.out.set1 F).drew;have g3:=rgrown_drewN (rgrown_trans G2.out (rgrown_set w2 b 1 (.int .i64 (F:Int)))) 1;have g3':w.grownBy (w2.setCell ⟨b,1,none⟩ (.int .i64 (F:Int))).drew (some b):=g3;obtain ⟨c8,c9,c10,f6,f7⟩:=h3.cells;rw [HQ.out] at c8;have H3:=hid h3;have G3:=hid g3';clear h3 g3 g3' c4 c5 c7 f4 f5 c10 k5;generalize (w2.setCell ⟨b,1,none⟩ (.int .i64 (F:Int))).drew=w3 at *;have h4:=H3.out.set1 (F+8*k);have g4:=rgrown_trans G3.out (rgrown_set w3 b 1 (.int .i64 ((F+8*k:Nat):Int)));obtain ⟨d0,d1,d2,_,_⟩:=h4.cells;rw [show ((F+8*k:Nat):Int)=(F:Int)+8*k by omega] at h4 g4 d0 d1 d2
  rw [HQ.out] at d0;have H4:=hid h4;have G4:=hid g4;have q1:(F:Int)+8*k≤800000:=by omega
  have k6:IntKind.i64.wrap (8*(k:Int))=8*k:=IntWalk.i64_in _ (by omega)
  have k7:IntKind.i64.wrap ((F:Int)+8*k-8*k)=F:=by rw [show (F:Int)+8*k-8*k=F by omega];exact IntWalk.i64_in _ (by omega)
  have k8:IntKind.i64.wrap (F:Int)=F:=IntWalk.i64_in _ (by omega)
  clear h4 g4
  go_wp2_with fail
  clear c8 c9 f6 f7 H3 G3;generalize w3.setCell ⟨b,1,none⟩ (.int .i64 ((F:Int)+8*k))=w4 at *;obtain ⟨X,hX⟩:∃X,(if cap=F then a else a.map (·.add F))=X:=⟨_,rfl⟩
  have hcap2:F+8*k≤cap:=by
   rcases HCAP.out with ⟨_,h1,_⟩ | ⟨_,_,h1,_⟩ <;> omega
  have hsl:∀W:World,(Instr.slice 58 (.slice a q cap) (some (.int .i64 (F:Int))) (some (.int .i64 ((F:Int)+8*k))) none).run Tryz.prog W=.ok (.slice X (8*k) (cap-F)) W:=fun W=>by
   rw [run_cut W a q cap F k hcap2,hX]
  have SV:Hid (∀W:World,RfAt W b (.slice a (tb t).length cap) (tb t) (F+8*k) false→SeesV W (.slice X (8*k) (cap-F)) y):=fun W hW=>by
   have:=sees_cut (F:=F) (k:=k) hW.row (by rw [HQ.out];omega)
   rw [hX,HY.out.1] at this;exact this
  clear hX hcap2
  go_still_tail 16,(by kernel_rfl)
  change wpList _ _ _ _ _ w4.drew
  have h5:=H4.out.drew;have g5:w.grownBy w4.drew (some b):=rgrown_drewN G4.out 1;clear d0 d1 d2 H4 G4 hsl k6 k7 k8;generalize w4.drew=w5 at *
  go_wp2_with fail
  refine (text_any _ y _ (by rw [HY.out.2];omega) (SV.out _ h5)).mono ?_
  rintro r w6 ⟨rfl,b6⟩;rw [PC.out];have HH:=hid (And.intro (h5.below b6) (grown_below g5 b6));clear h5 g5 b6
  go_wp2_with fail
  go_ret;exact ⟨rfl,HH.out.1,HH.out.2⟩
theorem rfbytes_any (b:Nat) (v:Value) (t:ByteArray) (i:Nat) (e:Bool) (n:Int) (w:World) (h:RfAt w b v (tb t) i e) (hi:i≤(tb t).length) (ht:t.size≤100000) :
  Calls Tryz.prog 81 #[.pointer (some ⟨b,0,none⟩),.int .i64 n] w fun r w'=>r=.returned (.string (yS t i e n))∧RfAt w' b v (tb t) (yI (tb t) i e n) (!yOk (tb t) i e n)∧w.grownBy w' (some b):=by
 cases hok:yOk (tb t) i e n with
 | false=>
  have e1:yS t i e n=⟨#[]⟩:=by unfold yS;rw [hok];rfl
  have e2:yI (tb t) i e n=i:=by unfold yI;rw [hok];rfl
  rw [e1,e2];exact rfbytes_bad b v t i e n w h hi ht hok
 | true=>
  have he:e=false:=by
   unfold yOk at hok;simp only [Bool.and_eq_true,Bool.not_eq_true',decide_eq_true_eq] at hok;exact hok.1
  subst he;exact rfbytes_ok b v t i n w h hi ht hok
end Go.Proofs.YthbjllabgpaaaaaGreat.Bit
