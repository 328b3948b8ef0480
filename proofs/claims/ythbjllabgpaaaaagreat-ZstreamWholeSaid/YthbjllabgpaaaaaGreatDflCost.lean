/-
  How many bits tokens take: contract of deflate's taken, and what it is.
-/
import Derived.Test.YthbjllabgpaaaaaGreatDflTaken
import Derived.Test.YthbjllabgpaaaaaGreatDflFix
namespace Go.Proofs.YthbjllabgpaaaaaGreat.Dfl
open Go.Lib (hid)
set_option maxHeartbeats 4000000
open Go.ChangeShapes Go.WideShapes Go.ChangeAt Go.RowKit
open Go.Proofs.YthbjllabgpaaaaaGreat.Bit (bitsOf bitsOf_length cnt cnt_nat codeBits_length)
open Go.Proofs.YthbjllabgpaaaaaGreat.Lz (Tok okT)
open Go.Proofs.YthbjllabgpaaaaaGreat.Def
open Go.Proofs.YthbjllabgpaaaaaGreat.Huf (IsInts used)
open Go.Proofs.YthbjllabgpaaaaaGreat.Sym
set_option linter.unusedVariables false
set_option maxRecDepth 100000
def tkS (f g:Nat→Nat):Nat→Nat
 | 0=>0
 | n+1=>tkS f g n+f n*g n
theorem tkS_one (f g:Nat→Nat) (x:Nat):∀n,tkS (fun s=>f s+if s=x then 1 else 0) g n=tkS f g n+if x<n then g x else 0:=by
 intro n
 induction n with
 | zero=>simp [tkS]
 | succ n ih=>
  unfold tkS;rw [ih]
  by_cases h:n=x
  ·subst h;simp [Nat.add_mul];omega
  ·simp only [if_neg h,Nat.add_zero]
   by_cases h2:x<n
   ·rw [if_pos h2,if_pos (by omega)];omega
   ·rw [if_neg h2,if_neg (by omega)];omega
theorem tkS_congr {f f' g:Nat→Nat}:∀n,(∀s,s<n→f s=f' s)→tkS f g n=tkS f' g n:=by
 intro n
 induction n with
 | zero=>intro _;rfl
 | succ n ih=>intro h;unfold tkS;rw [ih fun s hs=>h s (by omega),h n (by omega)]
theorem tkS_zero (g:Nat→Nat):∀n,tkS (fun _=>0) g n=0:=by
 intro n
 induction n with
 | zero=>rfl
 | succ n ih=>unfold tkS;rw [ih,Nat.zero_mul]
theorem tkS_le {f g:Nat→Nat}:∀n,(∀s,s<n→f s≤1000000)→(∀s,g s≤30)→tkS f g n≤n*30000000:=by
 intro n
 induction n with
 | zero=>intro _ _;simp [tkS]
 | succ n ih=>
  intro h1 h2;have h3:=ih (fun s hs=>h1 s (by omega)) h2
  have h4:f n*g n≤1000000*30:=Nat.mul_le_mul (h1 n (by omega)) (h2 n)
  unfold tkS;omega
def lenB (N:List Nat) (s:Nat):Nat:=N.getD s 0+(lenO (s:Int)).2
def dstB (M:List Nat) (s:Nat):Nat:=M.getD s 0+(distO (s:Int)).2
theorem getD_le {N:List Nat} {k:Nat} (h:∀x∈N,x≤k) (s:Nat):N.getD s 0≤k:=by
 rcases Nat.lt_or_ge s N.length with h1 | h1
 ·rw [List.getD_eq_getElem?_getD,List.getElem?_eq_getElem h1];exact h _ (List.getElem_mem h1)
 ·rw [List.getD_eq_getElem?_getD,List.getElem?_eq_none h1];exact Nat.zero_le _
theorem lenO_le (s:Int):(lenO s).2≤5:=by
 unfold lenO
 split
 ·exact LX_le _
 ·exact Nat.zero_le _
theorem distO_le (s:Int):(distO s).2≤13:=by
 unfold distO
 split
 ·exact DX_le _
 ·exact Nat.zero_le _
theorem cd_len {N:List Nat} (h:∀x∈N,x≤15) (s:Nat):(cd N s).length=N.getD s 0:=by
 unfold cd;rw [codeBits_length,cnt_nat _ (by have:=getD_le h s;omega)]
theorem litC_snoc {l:List Tok} {t:Tok} (ht:okT t=true) (s:Nat):litC (l++[t]) s=litC l s+if s=litN t then 1 else 0:=by
 rw [litC_eq,litC_eq,litsOf_snoc,ht,if_pos rfl,count_snoc];omega
theorem dstC_byte {l:List Tok} {t:Tok} (ht:okT t=true) (h0:t.L=0) (s:Nat):dstC (l++[t]) s=dstC l s:=by
 unfold dstC;rw [dstsOf_snoc,ht,h0];simp
theorem dstC_piece {l:List Tok} {t:Tok} (ht:okT t=true) (h0:t.L≠0) (s:Nat):dstC (l++[t]) s=dstC l s+if s=di t.D.toNat then 1 else 0:=by
 unfold dstC;rw [dstsOf_snoc,ht,show (true&&t.L != 0)=true by simp [h0],if_pos rfl,count_snoc]
theorem wr_len {N M:List Nat} (hN:∀x∈N,x≤15) (hM:∀x∈M,x≤15) {l:List Tok} (hl:l.all okT=true) :
  (wrBits N M l).length=tkS (litC l) (lenB N) 286+tkS (dstC l) (dstB M) 30:=by
 have key:∀(r:List Tok),r.reverse.all okT=true→(toksW N M r.reverse).length+N.getD 256 0=tkS (litC r.reverse) (lenB N) 286+tkS (dstC r.reverse) (dstB M) 30:=by
  intro r
  induction r with
  | nil=>
   intro _
   have e1:tkS (litC []) (lenB N) 286=lenB N 256:=by
    rw [tkS_congr (f':=fun s=>0+if s=256 then 1 else 0) 286 (fun s _=>by rw [litC_eq];simp [litsOf]),tkS_one (fun _=>0),tkS_zero];simp
   have e2:tkS (dstC []) (dstB M) 30=0:=(tkS_congr (f':=fun _=>0) 30 (fun s _=>rfl)).trans (tkS_zero _ _)
   have e3:lenB N 256=N.getD 256 0:=by unfold lenB;rfl
   rw [List.reverse_nil,e1,e2,e3];simp [toksW]
  | cons t r ih=>
   intro hall;rw [List.reverse_cons] at hall ⊢;rw [List.all_append,Bool.and_eq_true] at hall;have ht:okT t=true:=by have:=hall.2;simpa using this
   have h1:=ih hall.1
   have e1:tkS (litC (r.reverse++[t])) (lenB N) 286=tkS (litC r.reverse) (lenB N) 286+lenB N (litN t):=by
    rw [tkS_congr (f':=fun s=>litC r.reverse s+if s=litN t then 1 else 0) 286 (fun s _=>litC_snoc ht s),tkS_one,if_pos (litN_lt ht)]
   rw [toksW_snoc,List.length_append,e1]
   by_cases h0:t.L=0
   ·have e2:tkS (dstC (r.reverse++[t])) (dstB M) 30=tkS (dstC r.reverse) (dstB M) 30:=tkS_congr 30 fun s _=>dstC_byte ht h0 s
    have e3:(tokW N M t).length=lenB N (litN t):=by
     have hb:=Lz.okT_byte ht h0;unfold tokW litN lenB;rw [if_pos h0,if_pos h0,cd_len hN]
     have:(lenO ((t.B.toNat:Nat):Int)).2=0:=by unfold lenO;rw [if_neg (by omega)]
     omega
    omega
   ·have e2:tkS (dstC (r.reverse++[t])) (dstB M) 30=tkS (dstC r.reverse) (dstB M) 30+dstB M (di t.D.toNat):=by
     rw [tkS_congr (f':=fun s=>dstC r.reverse s+if s=di t.D.toNat then 1 else 0) 30 (fun s _=>dstC_piece ht h0 s),tkS_one,if_pos (di_lt ht h0)]
    have e3:(tokW N M t).length=lenB N (litN t)+dstB M (di t.D.toNat):=by
     have hd:=di_lt ht h0;have hlt:=litN_lt ht;unfold litN at hlt;rw [if_neg h0] at hlt;unfold tokW litN lenB dstB;rw [if_neg h0,if_neg h0];simp only [List.length_append,bitsOf_length,cd_len hN,cd_len hM]
     have h1:(lenO ((257+li t.L.toNat:Nat):Int)).2=LX (li t.L.toNat):=by
      unfold lenO;rw [if_pos (by omega)]
      show LX (((257+li t.L.toNat:Nat):Int).toNat-257)=_
      congr 1;omega
     have h2:(distO ((di t.D.toNat:Nat):Int)).2=DX (di t.D.toNat):=by
      unfold distO;rw [if_pos (by omega)]
      show DX (((di t.D.toNat:Nat):Int).toNat)=_
      congr 1
     omega
    omega
 have:=key l.reverse (by rw [List.reverse_reverse];exact hl)
 rw [List.reverse_reverse] at this;unfold wrBits;rw [List.length_append,cd_len hN];exact this
theorem taken_any (fid:FuncId) (Bs X:Nat→Nat) (g n:Nat) (f:Nat→Nat) (a2:Option Addr) (k c2:Nat) (N:List Nat) (w:World) (h:AtN w g n f) (hN:IsInts w a2 (ints N)) (hk:N.length=k)
  (hE:Enters Tryz.prog fid) (hF:∀(s:Nat) w,Calls Tryz.prog fid #[.int .i64 s] w fun r w'=>r=.returned (.tuple #[.int .i64 (Bs s:Nat),.int .i64 (X s:Nat)])∧Below w.heap.size w w')
  (hn:n≤300) (hf:∀s,s<n→f s≤1000000) (hX:∀s,X s≤13) (h15:∀x∈N,x≤15) (hs:∀s,s<n→f s≠0→s<k) :
  Calls Tryz.prog 124 #[.slice (some ⟨g,0,none⟩) n n,.slice a2 k c2,.func (.func fid) #[] #[]] w fun e w'=>e=.returned (.int .i64 (tkS f (fun s=>N.getD s 0+X s) n:Nat))∧Below w.heap.size w w':=by
 have hE2:∀s w,(callFunc fid #[.int .i64 s]).run Tryz.prog w=.ok (.enter fid #[.int .i64 s]) w:=fun s w=>hE _ w
 have HH:=hid (And.intro h (And.intro hN (And.intro hf (And.intro hX (And.intro h15 hs)))));have HF:=hid hF;have HK:=hid hk;clear h hN hf hX h15 hs hF hE hk;obtain ⟨G,hG⟩:∃G,(fun s=>N.getD s 0+X s)=G:=⟨_,rfl⟩
 rw [hG];have HG:=hid (fun s=>congrFun hG s)
 clear hG
 go_enter Tryz.func124,Tryz.ntmps124
 go_wp2_with fail
 go_loopw [7,14] (fun v i wr=>∃j:Nat,j≤n∧i=.int .i64 j∧v=.int .i64 (tkS f G j:Nat)∧Below w.heap.size w wr) (fun _ i _=>n-(intOf i).toNat)
 case atStart=>exact ⟨0,Nat.zero_le _,rfl,rfl,Below.refl _ _⟩
 case round=>
  obtain ⟨j,hj,rfl,rfl,hb⟩:=hrel;have HB:=hid hb
  have BND:Hid (∀j,j≤n→tkS f G j≤9000000000):=hid fun j hj=>by
   obtain ⟨_,_,h3,h4,h5,_⟩:=HH.out;have h:=tkS_le (f:=f) (g:=G) j (fun s hs=>h3 s (by omega)) (fun s=>by rw [←HG.out s];have:=getD_le h5 s;have:=h4 s;show N.getD s 0+X s≤30;omega)
   omega
  by_cases hlt:j<n
  ·have hlt':(j:Int)<n:=by omega
   obtain ⟨h1,h2,h3,h4,h5,h6⟩:=HH.out;have d1:=(hb.cell (p:=⟨g,j,none⟩) h1.lt).trans (h1.cell j hlt);have hfj:=h3 j hlt;have hjk:=h6 j hlt;have hb1:=BND.out j (by omega)
   have hb2:=BND.out (j+1) (by omega)
   have SUC:tkS f G (j+1)=tkS f G j+f j*G j:=rfl;have CF:=hid (HF.out j);have hGj:=HG.out j;have hXj:=h4 j;have hNj:=getD_le h5 j
   have HLOAD:Hid (f j≠0→∃b off,a2=some ⟨b,off,none⟩∧∀W,Below w.heap.size w W→W.cell? ⟨b,off+j,none⟩=some (.int .i64 (N.getD j 0:Nat))):=hid fun h0=>by
    have hjk:=hjk h0;have hk2:=HK.out;obtain ⟨b,off,rfl,hbb,hc⟩:=h2 (by rw [ints_length];omega)
    refine ⟨b,off,rfl,fun W hW=>?_⟩
    have:=hc j (by rw [ints_length];omega)
    rw [ints_get N j (by omega)] at this
    exact (hW.cell (p:=⟨b,off+j,none⟩) hbb).trans this
   generalize N.getD j 0=nj at *;generalize X j=xj at *;generalize Bs j=bj at *;generalize G j=gj at *;generalize f j=fj at *;obtain ⟨t2,ht2⟩:∃t2,tkS f G (j+1)=t2:=⟨_,rfl⟩;rw [ht2] at SUC hb2;have HT2:=hid ht2;generalize tkS f G j=t1 at *;clear hb h1 h2 h3 h4 h5 h6 ht2 BND
   by_cases h0:fj=0
   ·subst h0;have e1:t1=t2:=by omega
    subst e1;clear SUC HLOAD CF hGj hjk;have e0:((0:Nat):Int)=0:=rfl;rw [e0] at d1
    go_wp2_with fail
    refine ⟨⟨j+1,by omega,by go_num,by rw [HT2.out],HB.out⟩,?_⟩
    simp [intOf];omega
   ·have hp:(0:Int)<fj:=by omega
    have hp2:decide ((0:Int)<fj)=true:=by simp;omega
    obtain ⟨gb,off,rfl,hcell⟩:=HLOAD.out h0;have hjk2:=hjk h0;have hjk3:(j:Int)<k:=by omega
    have a1:(nj:Int)+xj=gj:=by omega
    obtain ⟨z,hz⟩:∃z,fj*gj=z:=⟨_,rfl⟩;have a2:(fj:Int)*gj=z:=by rw [←hz];exact_mod_cast rfl
    rw [hz] at SUC;have a3:(t1:Int)+z=t2:=by omega
    have hz9:z≤9000000000:=by omega
    have HCE:=hid hcell;clear SUC HLOAD hjk hz hcell hGj
    go_wp2_with fail
    refine (CF.out wr).mono ?_;rintro r w1 ⟨rfl,b1⟩;have HB1:=hid (HB.out.trans (b1.mono HB.out.size));have d2:=HCE.out w1 HB1.out;clear b1 CF HB HCE d1
    go_wp2_with fail
    refine ⟨⟨j+1,by omega,by go_num,by rw [HT2.out],HB1.out⟩,?_⟩
    simp [intOf];omega
  ·obtain rfl:j=n:=by omega
   clear hb
   go_wp2_with fail
   go_ret;exact ⟨rfl,HB.out⟩
end Go.Proofs.YthbjllabgpaaaaaGreat.Dfl
