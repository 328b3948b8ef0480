/-
  What inflate's blocks are: plain functions.
-/
import Derived.Test.YthbjllabgpaaaaaGreatInfMath
import Derived.Test.YthbjllabgpaaaaaGreatDefBlk
namespace Go.Proofs.YthbjllabgpaaaaaGreat.Inf
open Go.Proofs.YthbjllabgpaaaaaGreat.Bit (rV rI rOk num num_lt tb tb_length tbits tbits_length tbits_append bitsOf bitsOf_length errI gap yOk yS yI yI_le)
open Go.Proofs.YthbjllabgpaaaaaGreat.Lz (Tok okT wide run expL expE exp_cases)
open Go.Proofs.YthbjllabgpaaaaaGreat.Sym
open Go.Proofs.YthbjllabgpaaaaaGreat.Def
set_option linter.unusedVariables false
set_option maxRecDepth 100000
set_option linter.unusedSimpArgs false
def plC (t:ByteArray) (i:Nat) (n m:Nat) (most:Int):ByteArray×Int×Nat×Bool:=
 if bits .xor .i64 (n:Int) (m:Int)≠65535 then (⟨#[]⟩,80,i,false)
 else if most<(n:Int) then (⟨#[]⟩,4,i,false)
 else (yS t i false n,errI (!yOk (tb t) i false n),yI (tb t) i false n,!yOk (tb t) i false n)
def plG (t:ByteArray) (p:Nat) (most:Int):ByteArray×Int×Nat×Bool:=
 let i1:=rI (tb t) p false (gap p)
 let b1:=!rOk (tb t) p false (gap p)
 let i2:=rI (tb t) i1 b1 16
 let b2:=!rOk (tb t) i1 b1 16
 let i3:=rI (tb t) i2 b2 16
 let b3:=!rOk (tb t) i2 b2 16
 if b3=true then (⟨#[]⟩,2,i3,true) else plC t i3 (rV (tb t) i1 b1 16) (rV (tb t) i2 b2 16) most
def codG (T:List Bool) (win:List UInt8) (L M:List Int) (p:Nat) (most:Int):ByteArray×Int×Nat×Bool:=
 if (rdG L M T p most).2.1≠0 then (⟨#[]⟩,told (rdG L M T p most).2.1,(rdG L M T p most).2.2.1,(rdG L M T p most).2.2.2)
 else if most<0 then (⟨#[]⟩,4,(rdG L M T p most).2.2.1,(rdG L M T p most).2.2.2)
 else (⟨(expL win (rdG L M T p most).1).toArray⟩,expE win (rdG L M T p most).1,(rdG L M T p most).2.2.1,(rdG L M T p most).2.2.2)
def textG (t:ByteArray) (win:List UInt8) (k p:Nat) (most:Int):ByteArray×Int×Nat×Bool:=
 if k=0 then plG t p most
 else if k=2 then (if (hdrG (tb t) p).2.2.1≠0 then (⟨#[]⟩,(hdrG (tb t) p).2.2.1,(hdrG (tb t) p).2.2.2.1,(hdrG (tb t) p).2.2.2.2) else codG (tb t) win (ints (hdrG (tb t) p).1) (ints (hdrG (tb t) p).2.1) (hdrG (tb t) p).2.2.2.1 most)
 else if k=1 then codG (tb t) win (ints fxL) (ints fxD) p most
 else (⟨#[]⟩,80,p,false)
def blkC (t:ByteArray) (win:List UInt8) (A k i:Nat) (most:Int):Nat×Bool×ByteArray×Int×Nat×Bool:=
 if (textG t win k i most).2.1≠0 then (0,false,⟨#[]⟩,(textG t win k i most).2.1,(textG t win k i most).2.2.1,(textG t win k i most).2.2.2)
 else (k,decide (A=1),(textG t win k i most).1,0,(textG t win k i most).2.2.1,(textG t win k i most).2.2.2)
def blkG (t:ByteArray) (win:List UInt8) (p:Nat) (most:Int):Nat×Bool×ByteArray×Int×Nat×Bool:=
 let i1:=rI (tb t) p false 1
 let b1:=!rOk (tb t) p false 1
 let i2:=rI (tb t) i1 b1 2
 let b2:=!rOk (tb t) i1 b1 2
 if b2=true then (0,false,⟨#[]⟩,2,i2,true) else blkC t win (rV (tb t) p false 1) (rV (tb t) i1 b1 2) i2 most
theorem pl_ok {t:ByteArray} {i n m:Nat} {most:Int} (hi:i≤(tb t).length):(plC t i n m most).2.2.1≤(tb t).length∧((plC t i n m most).2.1=0→((plC t i n m most).1.size:Int)≤most∧(plC t i n m most).2.2.2=false∧i≤(plC t i n m most).2.2.1):=by
 unfold plC
 split
 ·exact ⟨hi,fun h=>by simp at h⟩
 ·split
  ·exact ⟨hi,fun h=>by simp at h⟩
  ·rename_i h1 h2;refine ⟨yI_le hi,fun h=>?_⟩
   cases ho:yOk (tb t) i false (n:Int) with
   | false=>rw [ho] at h;simp [errI] at h
   | true=>
    refine ⟨?_,rfl,?_⟩
    ·have:(yS t i false (n:Int)).size≤n:=by
      unfold yS;rw [ho,if_pos rfl,ByteArray.size_extract];omega
     show ((yS t i false (n:Int)).size:Int)≤most;omega
    ·show i≤yI (tb t) i false (n:Int);unfold yI;rw [ho,if_pos rfl];omega
theorem plG_ok {t:ByteArray} {p:Nat} {most:Int} (hp:p≤(tb t).length):(plG t p most).2.2.1≤(tb t).length∧((plG t p most).2.1=0→((plG t p most).1.size:Int)≤most∧(plG t p most).2.2.2=false∧p≤(plG t p most).2.2.1):=by
 have up:∀i b k,i≤rI (tb t) i b k:=fun i b k=>by unfold rI;split <;> omega
 unfold plG;simp only;have h1:=up p false (gap p);have l1:rI (tb t) p false (gap p)≤(tb t).length:=Bit.rI_le hp;have h2:=up (rI (tb t) p false (gap p)) (!rOk (tb t) p false (gap p)) 16;have l2:rI (tb t) (rI (tb t) p false (gap p)) (!rOk (tb t) p false (gap p)) 16≤(tb t).length:=Bit.rI_le l1;have h3:=up (rI (tb t) (rI (tb t) p false (gap p)) (!rOk (tb t) p false (gap p)) 16) (!rOk (tb t) (rI (tb t) p false (gap p)) (!rOk (tb t) p false (gap p)) 16) 16;have l3:rI (tb t) (rI (tb t) (rI (tb t) p false (gap p)) (!rOk (tb t) p false (gap p)) 16) (!rOk (tb t) (rI (tb t) p false (gap p)) (!rOk (tb t) p false (gap p)) 16) 16≤(tb t).length:=Bit.rI_le l2
 split
 ·exact ⟨l3,fun h=>by simp at h⟩
 ·have:=pl_ok (t:=t) (n:=rV (tb t) (rI (tb t) p false (gap p)) (!rOk (tb t) p false (gap p)) 16) (m:=rV (tb t) (rI (tb t) (rI (tb t) p false (gap p)) (!rOk (tb t) p false (gap p)) 16) (!rOk (tb t) (rI (tb t) p false (gap p)) (!rOk (tb t) p false (gap p)) 16) 16) (most:=most) l3
  refine ⟨this.1,fun h=>?_⟩
  obtain ⟨a,b,c⟩:=this.2 h;exact ⟨a,b,by omega⟩
theorem codG_ok {t:ByteArray} {win:List UInt8} {L M:List Int} {p:Nat} {most:Int} (hp:p≤(tb t).length) (h:(codG (tb t) win L M p most).2.1=0) :
  ((codG (tb t) win L M p most).1.size:Int)≤most∧(codG (tb t) win L M p most).2.2.2=false∧p≤(codG (tb t) win L M p most).2.2.1∧(codG (tb t) win L M p most).2.2.1≤(tb t).length:=by
 unfold codG at h ⊢
 by_cases h1:(rdG L M (tb t) p most).2.1≠0
 ·rw [if_pos h1] at h;exact absurd h (told_ne h1)
 ·rw [if_neg h1] at h ⊢;obtain ⟨a,b,c,d⟩:=rd_ok (L:=L) (M:=M) hp (by simpa using h1)
  by_cases h2:most<0
  ·rw [if_pos h2] at h;simp at h
  ·rw [if_neg h2] at h ⊢;have h3:expE win (rdG L M (tb t) p most).1=0:=h
   have:=exp_sum h3
   refine ⟨?_,a,b,c⟩
   have e:(⟨(expL win (rdG L M (tb t) p most).1).toArray⟩:ByteArray).size=(expL win (rdG L M (tb t) p most).1).length:=by
    show (expL win (rdG L M (tb t) p most).1).toArray.size=_
    simp
   show (((⟨(expL win (rdG L M (tb t) p most).1).toArray⟩:ByteArray).size:Nat):Int)≤most;rw [e,this];exact d (by omega)
theorem text_ok {t:ByteArray} {win:List UInt8} {k p:Nat} {most:Int} (hp:p≤(tb t).length) (h:(textG t win k p most).2.1=0) :
  ((textG t win k p most).1.size:Int)≤most∧(textG t win k p most).2.2.2=false∧p≤(textG t win k p most).2.2.1∧(textG t win k p most).2.2.1≤(tb t).length:=by
 unfold textG at h ⊢
 by_cases h0:k=0
 ·rw [if_pos h0] at h ⊢;obtain ⟨a,b⟩:=plG_ok (most:=most) hp;obtain ⟨c,d,e⟩:=b h;exact ⟨c,d,e,a⟩
 ·rw [if_neg h0] at h ⊢
  by_cases h2:k=2
  ·rw [if_pos h2] at h ⊢
   by_cases h3:(hdrG (tb t) p).2.2.1≠0
   ·rw [if_pos h3] at h;exact absurd h h3
   ·rw [if_neg h3] at h ⊢;obtain ⟨a,b⟩:=hdr_ok hp;obtain ⟨c,d,e,f⟩:=codG_ok a h;have hq:p≤(hdrG (tb t) p).2.2.2.1:=hdr_far hp;exact ⟨c,d,by omega,f⟩
  ·rw [if_neg h2] at h ⊢
   by_cases h1:k=1
   ·rw [if_pos h1] at h ⊢;exact codG_ok hp h
   ·rw [if_neg h1] at h;simp at h
theorem bits_three {T:List Bool} {p:Nat} (h:(!rOk T (rI T p false 1) (!rOk T p false 1) 2)=false):rI T p false 1=p+1∧rI T (rI T p false 1) (!rOk T p false 1) 2=p+3∧(!rOk T p false 1)=false∧p+3≤T.length:=by
 have h1:rOk T (rI T p false 1) (!rOk T p false 1) 2=true:=by simpa using h
 have h2:rOk T p false 1=true:=by
  have h1':(!(!rOk T p false 1)&&decide (2≤T.length-rI T p false 1))=true:=h1;simp only [Bool.and_eq_true,Bool.not_not] at h1';exact h1'.1
 have e1:rI T p false 1=p+1:=by unfold rI;rw [if_pos h2]
 rw [h2] at h1 ⊢;rw [e1] at h1 ⊢;refine ⟨rfl,?_,rfl,?_⟩
 ·unfold rI;rw [if_pos h1]
 ·unfold rOk at h1 h2;simp at h1 h2;omega
theorem blk_ok {t:ByteArray} {win:List UInt8} {p:Nat} {most:Int} (hp:p≤(tb t).length) (h:(blkG t win p most).2.2.2.1=0) :
  ((blkG t win p most).2.2.1.size:Int)≤most∧(blkG t win p most).2.2.2.2.2=false∧p+3≤(blkG t win p most).2.2.2.2.1∧(blkG t win p most).2.2.2.2.1≤(tb t).length:=by
 unfold blkG at h ⊢;simp only at h ⊢
 by_cases h1:(!rOk (tb t) (rI (tb t) p false 1) (!rOk (tb t) p false 1) 2)=true
 ·rw [if_pos h1] at h;simp at h
 ·rw [if_neg h1] at h ⊢;obtain ⟨e1,e2,e3,e4⟩:=bits_three (by simpa using h1:(!rOk (tb t) (rI (tb t) p false 1) (!rOk (tb t) p false 1) 2)=false)
  rw [e2] at h ⊢;generalize rV (tb t) p false 1=A at *;generalize rV (tb t) (rI (tb t) p false 1) (!rOk (tb t) p false 1) 2=k at *;unfold blkC at h ⊢
  by_cases h2:(textG t win k (p+3) most).2.1≠0
  ·rw [if_pos h2] at h;exact absurd h h2
  ·rw [if_neg h2];exact text_ok e4 (by simpa using h2)
theorem bits_here {T:List Bool} {p K:Nat} {last:Bool} {l:List Bool} (hK:K<4) (e:l=last::bitsOf 2 (K:Int)) (h:Has T p l) :
  rV T p false 1=last.toNat∧rI T p false 1=p+1∧(!rOk T p false 1)=false∧rV T (p+1) false 2=K∧rI T (p+1) false 2=p+3∧(!rOk T (p+1) false 2)=false:=by
 rw [e] at h;obtain ⟨l1,l2⟩:=has_cons h;rw [bits_last last] at l1;obtain ⟨a1,a2,a3⟩:=has_bits l1 (by cases last <;> decide)
 obtain ⟨b1,b2,b3⟩:=has_bits l2 (by show K<4;exact hK)
 exact ⟨a2,a3,by rw [a1];rfl,b2,by rw [b3],by rw [b1];rfl⟩
theorem last_num (last:Bool):decide (last.toNat=1)=last:=by cases last <;> rfl
theorem pl_at {t:ByteArray} {p f:Nat} {s:List UInt8} {most:Int} (hs:s.length≤65535) (hm:(s.length:Int)≤most) (hf:(p+7)/8=f) (h:Has (tb t) (8*f) (plB s)):plG t p most=(⟨s.toArray⟩,0,8*f+(plB s).length,false):=by
 have hle:=h.1;rw [plB_length] at hle;have hlen:=tb_length t;have hg:rOk (tb t) p false (gap p)=true:=by unfold rOk gap;simp;omega
 have hgi:rI (tb t) p false (gap p)=8*f:=by unfold rI;rw [if_pos hg];unfold gap;omega
 have h':=h;unfold plB at h';obtain ⟨a1,a2,a3⟩:=has_bits h'.left (by show s.length<65536;omega)
 have h2:=h'.right;rw [bitsOf_length] at h2;obtain ⟨b1,b2,b3⟩:=has_bits h2.left (by show 65535-s.length<65536;omega)
 have h3:=h2.right;rw [bitsOf_length,show 8*f+16+16=8*(f+4) by omega] at h3
 obtain ⟨c1,c2⟩:=bytes_here h3;unfold plG;simp only;rw [hg,hgi];simp only [Bool.not_true];rw [a1,a2,a3];simp only [Bool.not_true];rw [b1,b2,b3];simp only [Bool.not_true,Bool.false_eq_true,if_false];unfold plC;rw [i64_full _ hs,if_neg (by simp),if_neg (by omega),show 8*f+16+16=8*(f+4) by omega]
 have k4:yOk (tb t) (8*(f+4)) false (s.length:Int)=true:=by unfold yOk;rw [tb_length];simp;omega
 have hfn:(8*(f+4)+7)/8=f+4:=by omega
 have k5:yS t (8*(f+4)) false (s.length:Int)=⟨s.toArray⟩:=by
  unfold yS;rw [if_pos k4,hfn,show ((s.length:Nat):Int).toNat=s.length by omega,c2]
 have k6:yI (tb t) (8*(f+4)) false (s.length:Int)=8*f+(plB s).length:=by unfold yI;rw [if_pos k4,hfn,plB_length,show ((s.length:Nat):Int).toNat=s.length by omega];omega
 rw [k4,k5,k6]
 rfl
theorem cod_at {T:List Bool} {win:List UInt8} {N M:List Nat} {p:Nat} {l:List Tok} {most:Int} (hF:Fit N M l) (h:Has T p (wrBits N M l)) (he:expE win l=0) (hm:((expL win l).length:Int)≤most) :
  codG T win (ints N) (ints M) p most=(⟨(expL win l).toArray⟩,0,p+(wrBits N M l).length,false):=by
 have hx:=exp_sum he;unfold codG;rw [read_here hF h most (by rw [←hx];exact hm)]
 simp only;rw [if_neg (by simp),if_neg (by omega),he]
theorem text_zero (t:ByteArray) (win:List UInt8) (p:Nat) (most:Int):textG t win 0 p most=plG t p most:=rfl
theorem text_one (t:ByteArray) (win:List UInt8) (p:Nat) (most:Int):textG t win 1 p most=codG (tb t) win (ints fxL) (ints fxD) p most:=rfl
theorem text_two (t:ByteArray) (win:List UInt8) (p:Nat) (most:Int):textG t win 2 p most=(if (hdrG (tb t) p).2.2.1≠0 then (⟨#[]⟩,(hdrG (tb t) p).2.2.1,(hdrG (tb t) p).2.2.2.1,(hdrG (tb t) p).2.2.2.2) else codG (tb t) win (ints (hdrG (tb t) p).1) (ints (hdrG (tb t) p).2.1) (hdrG (tb t) p).2.2.2.1 most):=rfl
theorem blk_at {t:ByteArray} {win s:List UInt8} {p q K:Nat} {last:Bool} {most:Int} (h:Blk (tb t) win p last K s q) (hm:(s.length:Int)≤most):blkG t win p most=(K,last,⟨s.toArray⟩,0,q,false):=by
 cases h with
 | plain _ f h1 h2 h3 h4=>
  obtain ⟨a1,a2,a3,a4,a5,a6⟩:=bits_here (K:=0) (by omega) rfl h3
  unfold blkG;simp only;rw [a1,a2,a3];rw [a4,a5,a6];simp only [Bool.false_eq_true,if_false];unfold blkC;rw [text_zero,pl_at h1 hm (by omega) h4]
  simp only [ne_eq,not_true_eq_false,if_false];rw [last_num]
 | code _ l _ hc he=>
  cases hc with
  | fixed _ hF hh=>
   obtain ⟨a1,a2,a3,a4,a5,a6⟩:=bits_here (K:=1) (by omega) rfl hh.left
   have hr:=hh.right;unfold blkG;simp only;rw [a1,a2,a3];rw [a4,a5,a6];simp only [Bool.false_eq_true,if_false];unfold blkC;have e3:p+[last,true,false].length=p+3:=rfl;rw [e3] at hr;rw [text_one,cod_at hF hr he hm];simp only [ne_eq,not_true_eq_false,if_false];rw [last_num]
  | own N M k O Y _ hH hF hh=>
   obtain ⟨a1,a2,a3,a4,a5,a6⟩:=bits_here (K:=2) (by omega) rfl hh.left
   have hr:=hh.right;have hd:=hr.left;have hr2:=hr.right;unfold blkG;simp only;rw [a1,a2,a3];rw [a4,a5,a6];simp only [Bool.false_eq_true,if_false];unfold blkC;have e:=hdr_at hH hd;have e3:p+[last,false,true].length=p+3:=rfl;rw [e3] at e hr2;rw [text_two,e];simp only [ne_eq,not_true_eq_false,if_false];rw [cod_at hF hr2 he hm];simp only [ne_eq,not_true_eq_false,if_false];rw [last_num]
end Go.Proofs.YthbjllabgpaaaaaGreat.Inf
