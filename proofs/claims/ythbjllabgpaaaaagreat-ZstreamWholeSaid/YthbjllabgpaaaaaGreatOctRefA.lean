/-
  Texts in one: OctRefCur, OctBack, ZstHead.
-/
import Derived.Test.YthbjllabgpaaaaaGreatAllOct
namespace Go.Proofs.YthbjllabgpaaaaaGreat.Oct
open Go.Lib (hid)
set_option maxHeartbeats 4000000
open Go.ChangeShapes Go.WideShapes Go.ChangeAt Go.RowKit
set_option linter.unusedVariables false
set_option maxRecDepth 100000

end Go.Proofs.YthbjllabgpaaaaaGreat.Oct
namespace Go.Proofs.YthbjllabgpaaaaaGreat.Oct
open Go.Lib (hid)
set_option maxHeartbeats 4000000
open Go.RowKit
set_option linter.unusedVariables false
theorem leL_succ (s:Nat) (n:Int):leL (s+1) n=leL s n++[byt n s]:=by simp [leL,List.range_succ]
theorem valL_leL (s:Nat) (n:Nat):valL (leL s n)=((n%2^(8*s):Nat):Int):=by
 induction s with
 | zero=>simp [leL,valL,Nat.mod_one]
 | succ s ih=>
  have hb:=byt_toNat n s;rw [leL_succ,valL_snoc,ih,leL_length,hb,show 8*(s+1)=8*s+8 by omega,Nat.pow_add,Nat.mod_mul]
  simp only [Int.natCast_add,Int.natCast_mul,Int.natCast_emod,Int.natCast_ediv,Int.natCast_pow];rw [Int.mul_comm]
  rfl
theorem val_ok {s n:Int} (h:okB s n=true):valL (leL s.toNat n)=n:=by
 obtain ⟨h1,h2,h3⟩:=okB_parts h;obtain ⟨k,rfl⟩:∃k:Nat,n=k:=⟨n.toNat,by omega⟩
 rw [valL_leL]
 have h4:k<2^(8*s.toNat):=by
  rcases sizeB_cases h1 with rfl | rfl | rfl <;> simp [fitsB] at h3 ⊢ <;> omega
 rw [Nat.mod_eq_of_lt h4]
theorem ext_mid (x y z:ByteArray):(x++y++z).extract x.size (x.size+y.size)=y:=by
 apply ByteArray.ext
 rw [ByteArray.data_extract,ByteArray.data_append,ByteArray.data_append]
 apply Array.ext'
 have hx:x.size=x.data.toList.length:=by simp
 have hy:y.size=y.data.toList.length:=by simp
 rw [Array.toList_extract,List.extract_eq_take_drop,Array.toList_append,Array.toList_append,hx,hy,List.append_assoc,List.drop_left,Nat.add_sub_cancel_left,List.take_left]
theorem by_mid (x y z:ByteArray):byE (x++y++z) x.size 0 y.size=0∧byS (x++y++z) x.size 0 y.size=y∧byI (x++y++z) x.size 0 y.size=x.size+y.size:=by
 have hs:(x++y++z).size=x.size+y.size+z.size:=by simp
 have h:byE (x++y++z) x.size 0 y.size=0:=by
  simp only [byE,if_true,if_neg (show ¬((y.size:Int)<0) by omega)]
  rw [hs,if_neg (by push_cast;omega)]
 refine ⟨h,?_,by simp [byI,h]⟩
 simp only [byS,h,if_true];rw [show ((x.size:Int)+(y.size:Int)).toNat=x.size+y.size by omega,Int.toNat_natCast,ext_mid]
theorem num_mid {x y z:ByteArray} {n:Int} (hs:sizeB n=true) (hy:(y.size:Int)=n) :
  numE (x++y++z) x.size 0 n=0∧numI (x++y++z) x.size 0 n=x.size+y.size∧intV (x++y++z) x.size 0 n=valL y.data.toList.reverse∧litV (x++y++z) x.size 0 n=valL y.data.toList:=by
 subst hy;obtain ⟨h1,h2,h3⟩:=by_mid x y z;simp [numE,numI,intV,litV,hs,h1,h2,h3]
theorem putS_ok {s n:Int} (h:okB s n=true):((putS s n).size:Int)=s∧valL (putS s n).data.toList.reverse=n∧((litS s n).size:Int)=s∧valL (litS s n).data.toList=n∧putE s n=0:=by
 have hs:=sizeB_cases (okB_parts h).1;have hv:=val_ok h;refine ⟨?_,?_,?_,?_,by simp [putE,h]⟩
 ·show (((putS s n).data.size:Nat):Int)=s;simp [putS,h,beL_length];omega
 ·simp [putS,h,beL,hv]
 ·show (((litS s n).data.size:Nat):Int)=s;simp [litS,h,leL_length];omega
 ·simp [litS,h,hv]
theorem ok4 {v:Int} (h0:0≤v) (h1:v<4294967296):okB 4 v=true:=by
 have h2:fitsB 4 v=true:=by simp [fitsB];omega
 have h3:sizeB 4=true:=by decide
 simp [okB,h2,h3,h0]
theorem emp_append (x:ByteArray):(⟨#[]⟩:ByteArray)++x=x:=by apply ByteArray.ext;simp
end Go.Proofs.YthbjllabgpaaaaaGreat.Oct
namespace Go.Proofs.YthbjllabgpaaaaaGreat.Zst
open Go.Lib (hid)
set_option maxHeartbeats 4000000
open Go.ChangeShapes Go.WideShapes Go.ChangeAt Go.RowKit
open Go.Proofs.YthbjllabgpaaaaaGreat.Oct (CurAt new_any int_any err_any intV numI numE byE byS byI sizeB valL)
set_option linter.unusedVariables false
set_option maxRecDepth 100000
def hdN (x y:Nat):Int:=if x%16≠8 then 100 else if 7<x/16 then 100 else if y/32%2=1 then 100 else if (x*256+y)%31≠0 then 100 else 0
def hdE (s:ByteArray):Int:=if h:2≤s.size then hdN (s[0]'(by omega)).toNat (s[1]'(by omega)).toNat else 2
theorem hdE_short {s:ByteArray} (h:s.size<2):hdE s=2:=by unfold hdE;rw [dif_neg (by omega)]
theorem hdE_long {s:ByteArray} (h:2≤s.size):hdE s=hdN (s[0]'(by omega)).toNat (s[1]'(by omega)).toNat:=by unfold hdE;rw [dif_pos h]
theorem size1:sizeB 1=true:=by decide
theorem int_here {s:ByteArray} {i:Nat} (h:i<s.size):intV s i 0 1=((s[i]).toNat:Int)∧numI s i 0 1=((i+1:Nat):Int)∧numE s i 0 1=0:=by
 have e:byE s i 0 1=0:=by unfold byE;rw [if_pos rfl,if_neg (by omega),if_neg (by omega)]
 unfold intV numI numE byI byS;rw [size1,e];simp only [if_true];refine ⟨?_,by omega,trivial⟩
 have:(s.extract (i:Int).toNat ((i:Int)+1).toNat).data.toList=[s[i]]:=by
  rw [ByteArray.data_extract,Array.toList_extract];have e1:((i:Int)+1).toNat=i+1:=by omega
  rw [e1,Int.toNat_natCast,List.extract_eq_take_drop];rw [show i+1-i=1 by omega]
  have h':i<s.data.toList.length:=by simpa using h
  rw [List.drop_eq_getElem_cons h']
  rfl
 rw [this];simp [valL]
theorem int_gone {s:ByteArray} {i e:Int} (h:e=2∨(e=0∧s.size-i<1)):intV s i e 1=0∧numI s i e 1=i∧numE s i e 1=2:=by
 have e:byE s i e 1=2:=by
  unfold byE;rcases h with rfl | ⟨rfl,h⟩
  ·rfl
  ·rw [if_pos rfl,if_neg (by omega),if_pos h]
 unfold intV numI numE byI byS;rw [size1,e];simp [valL]
theorem and32:∀y:Nat,y<256→bits .and .i64 (y:Int) 32=((32*(y/32%2):Nat):Int):=by
 intro y hy;exact (by decide +kernel:∀y:Fin 256,bits .and .i64 ((y.1:Nat):Int) 32=((32*(y.1/32%2):Nat):Int)) ⟨y,hy⟩
theorem header_any (s:ByteArray) (w:World) (hs:s.size≤9223372036854775807) :
  Calls Tryz.prog 8 #[.string s] w fun r w'=>r=.returned (.int .i64 (hdE s))∧Below w.heap.size w w':=by
 have CN:=hid (new_any s w);have HS:=hid hs;clear hs
 by_cases h2:2≤s.size
 ·have E:=hid (hdE_long h2);obtain ⟨a1,a2,a3⟩:=int_here (s:=s) (i:=0) (by omega)
  obtain ⟨b1,b2,b3⟩:=int_here (s:=s) (i:=1) (by omega)
  have hx:=(s[0]'(by omega)).toNat_lt
  have hy:=(s[1]'(by omega)).toNat_lt
  generalize (s[0]'(by omega)).toNat=x at *
  generalize (s[1]'(by omega)).toNat=y at *
  have hA:intV s 0 0 1=(x:Int)∧numI s 0 0 1=((0+1:Nat):Int)∧numE s 0 0 1=0:=⟨a1,a2,a3⟩;have hB:intV s ((0+1:Nat):Int) 0 1=(y:Int)∧numI s ((0+1:Nat):Int) 0 1=((1+1:Nat):Int)∧numE s ((0+1:Nat):Int) 0 1=0:=⟨b1,b2,b3⟩;have h2':(2:Int)≤s.size:=by omega
  have m1:=and32 y hy;obtain ⟨r1,hr1⟩:∃r1,x%16=r1:=⟨_,rfl⟩;obtain ⟨q1,hq1⟩:∃q1,x/16=q1:=⟨_,rfl⟩;obtain ⟨m,hm⟩:∃m,32*(y/32%2)=m:=⟨_,rfl⟩;obtain ⟨z,hz⟩:∃z,(x*256+y)%31=z:=⟨_,rfl⟩;rw [hm] at m1;have f1:(x:Int).tmod 16=(r1:Int):=by rw [←hr1];rw [Int.tmod_eq_emod_of_nonneg (by omega)];omega
  have f2:(x:Int).tdiv 16=(q1:Int):=by rw [←hq1];rw [Int.tdiv_eq_ediv_of_nonneg (by omega)];omega
  have f4:((x:Int)*256+(y:Int)).tmod 31=(z:Int):=by rw [←hz];rw [Int.tmod_eq_emod_of_nonneg (by omega)];omega
  have nx:(x:Int)<256:=by omega
  have ny:(y:Int)<256:=by omega
  have HD:Hid (hdN x y=if r1≠8 then 100 else if 7<q1 then 100 else if m=32 then 100 else if z≠0 then 100 else 0):=hid (by
   unfold hdN;rw [hr1,hq1,hz]
   by_cases h:y/32%2=1
   ·rw [if_pos h,if_pos (by omega:m=32)]
   ·rw [if_neg h,if_neg (by omega:¬m=32)])
  have hm2:m=0∨m=32:=by omega
  have nq:(q1:Int)<16:=by omega
  have nz:(z:Int)<31:=by omega
  have HM:=hid hm2;clear a1 a2 a3 b1 b2 b3 hr1 hq1 hm hz hx hy hm2 h2
  go_enter Tryz.func8,Tryz.ntmps8
  go_wp2_with fail
  refine CN.out.mono ?_;rintro r w1 ⟨rfl,c1,k1⟩;have K1:=hid k1;have G1:=hid (int_any w.heap.size s 0 0 1 w1 c1 (by omega) (by omega) HS.out)
  rw [hA.1,hA.2.1,hA.2.2] at G1;clear c1 k1 CN
  go_wp2_with fail
  refine G1.out.mono ?_;rintro r w2 ⟨rfl,c2,g2⟩;have K2:Hid (Below w.heap.size w w2):=hid (K1.out.grown g2 K1.out.size (fun j hj=>by cases hj;exact Nat.le_refl _))
  have G2:=hid (int_any w.heap.size s _ _ 1 w2 c2 (by omega) (by omega) HS.out)
  rw [hB.1,hB.2.1,hB.2.2] at G2;clear c2 g2 G1 K1
  go_wp2_with fail
  refine G2.out.mono ?_;rintro r w3 ⟨rfl,c3,g3⟩;have K3:Hid (Below w.heap.size w w3):=hid (K2.out.grown g3 K2.out.size (fun j hj=>by cases hj;exact Nat.le_refl _))
  have CE:=hid (err_any w.heap.size s _ _ w3 c3);clear c3 g3 G2 K2
  go_wp2_with fail
  refine CE.out.mono ?_;rintro r w4 ⟨rfl,rfl⟩;clear CE;clear hA hB h2'
  by_cases c1:r1=8
  ·subst c1
   by_cases c2:7<q1
   ·have HV:Hid (hdN x y=100):=hid (by rw [HD.out,if_neg (by omega),if_pos c2])
    have d2:(7:Int)<(q1:Int):=by omega
    have d3:decide ((7:Int)<(q1:Int))=true:=by simp;omega
    clear c2
    go_wp2_with fail
    go_ret;rw [E.out,HV.out];exact ⟨rfl,K3.out⟩
   ·have d2:¬((7:Int)<(q1:Int)):=by omega
    have d3:decide ((7:Int)<(q1:Int))=false:=by simp;omega
    rcases HM.out with c3 | c3
    ·subst c3
     by_cases c4:z=0
     ·subst c4;have HV:Hid (hdN x y=0):=hid (by rw [HD.out,if_neg (by omega),if_neg c2,if_neg (by omega),if_neg (by omega)])
      clear c2
      go_wp2_with fail
      go_ret;rw [E.out,HV.out];exact ⟨rfl,K3.out⟩
     ·have HV:Hid (hdN x y=100):=hid (by rw [HD.out,if_neg (by omega),if_neg c2,if_neg (by omega),if_pos c4])
      have d4:((z:Int) != 0)=true:=by simp;omega
      clear c2 c4
      go_wp2_with fail
      go_ret;rw [E.out,HV.out];exact ⟨rfl,K3.out⟩
    ·subst c3;have HV:Hid (hdN x y=100):=hid (by rw [HD.out,if_neg (by omega),if_neg c2,if_pos rfl])
     clear c2
     go_wp2_with fail
     go_ret;rw [E.out,HV.out];exact ⟨rfl,K3.out⟩
  ·have HV:Hid (hdN x y=100):=hid (by rw [HD.out,if_pos c1])
   have d1:((r1:Int) != 8)=true:=by simp;omega
   clear c1
   go_wp2_with fail
   go_ret;rw [E.out,HV.out];exact ⟨rfl,K3.out⟩
 ·have hs2:s.size<2:=by omega
  have E:=hid (hdE_short hs2)
  obtain ⟨A,i1,e1,hA,hB⟩:∃(A i1:Int) (e1:Int),(intV s 0 0 1=A∧numI s 0 0 1=i1∧numE s 0 0 1=e1)∧(0≤i1∧i1≤s.size∧intV s i1 e1 1=0∧numI s i1 e1 1=i1∧numE s i1 e1 1=2):=by
   by_cases h0:s.size=0
   ·obtain ⟨a1,a2,a3⟩:=int_gone (s:=s) (i:=0) (e:=0) (.inr ⟨rfl,by omega⟩)
    obtain ⟨b1,b2,b3⟩:=int_gone (s:=s) (i:=0) (e:=2) (.inl rfl);exact ⟨0,0,2,⟨a1,a2,a3⟩,by omega,by omega,b1,b2,b3⟩
   ·obtain ⟨a1,a2,a3⟩:=int_here (s:=s) (i:=0) (by omega)
    obtain ⟨b1,b2,b3⟩:=int_gone (s:=s) (i:=((0+1:Nat):Int)) (e:=0) (.inr ⟨rfl,by omega⟩)
    exact ⟨_,_,0,⟨a1,a2,a3⟩,by omega,by omega,b1,b2,b3⟩
  obtain ⟨n1,n2,hB⟩:=hB;clear h2 hs2
  go_enter Tryz.func8,Tryz.ntmps8
  go_wp2_with fail
  refine CN.out.mono ?_;rintro r w1 ⟨rfl,c1,k1⟩;have K1:=hid k1;have G1:=hid (int_any w.heap.size s 0 0 1 w1 c1 (by omega) (by omega) HS.out)
  rw [hA.1,hA.2.1,hA.2.2] at G1;clear c1 k1 CN
  go_wp2_with fail
  refine G1.out.mono ?_;rintro r w2 ⟨rfl,c2,g2⟩;have K2:Hid (Below w.heap.size w w2):=hid (K1.out.grown g2 K1.out.size (fun j hj=>by cases hj;exact Nat.le_refl _))
  have G2:=hid (int_any w.heap.size s _ _ 1 w2 c2 (by omega) (by omega) HS.out)
  rw [hB.1,hB.2.1,hB.2.2] at G2;clear c2 g2 G1 K1
  go_wp2_with fail
  refine G2.out.mono ?_;rintro r w3 ⟨rfl,c3,g3⟩;have K3:Hid (Below w.heap.size w w3):=hid (K2.out.grown g3 K2.out.size (fun j hj=>by cases hj;exact Nat.le_refl _))
  have CE:=hid (err_any w.heap.size s _ _ w3 c3);clear c3 g3 G2 K2
  go_wp2_with fail
  refine CE.out.mono ?_;rintro r w4 ⟨rfl,rfl⟩;clear CE;clear hA hB
  go_wp2_with fail
  go_ret;rw [E.out];exact ⟨rfl,K3.out⟩
end Go.Proofs.YthbjllabgpaaaaaGreat.Zst
