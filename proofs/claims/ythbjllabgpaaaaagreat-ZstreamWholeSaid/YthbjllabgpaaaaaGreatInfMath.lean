/-
  What inflate reads: plain functions over a row of bits.
-/
import Derived.Test.YthbjllabgpaaaaaGreatAllDef
namespace Go.Proofs.YthbjllabgpaaaaaGreat.Inf
open Go.Proofs.YthbjllabgpaaaaaGreat.Huf (nxG used fine fine_parts nats nats_le symsOf symsOf_succ)
open Go.Proofs.YthbjllabgpaaaaaGreat.Bit (rV rI rOk num num_lt tb tb_length bitsOf bitsOf_length errI gap yOk yS yI)
open Go.Proofs.YthbjllabgpaaaaaGreat.Lz (Tok okT wide run expL expE exp_cases)
open Go.Proofs.YthbjllabgpaaaaaGreat.Sym
open Go.Proofs.YthbjllabgpaaaaaGreat.Def
set_option linter.unusedVariables false
set_option maxRecDepth 100000
def told (e:Int):Int:=if e=50∨e=3 then 80 else e
theorem told_ne {e:Int} (h:e≠0):told e≠0:=by unfold told;split <;> omega
theorem rV_lt (T:List Bool) (i:Nat) (bad:Bool) (k:Nat):rV T i bad k<2^k:=by
 unfold rV
 split
 ·have h1:=num_lt ((T.drop i).take k);have h2:(2:Nat)^((T.drop i).take k).length≤2^k:=Nat.pow_le_pow_right (by decide) (by rw [List.length_take];omega)
  omega
 ·exact Nat.two_pow_pos k
theorem sym_lt (N:List Nat) (l:Nat):∀k,∀x∈symsOf N k l,x<k:=by
 intro k
 induction k with
 | zero=>intro x hx;simp [symsOf] at hx
 | succ k ih=>
  intro x hx;rw [symsOf_succ] at hx
  split at hx
  ·rcases List.mem_append.1 hx with h | h
   ·have:=ih x h;omega
   ·rw [List.mem_singleton] at h;omega
  ·have:=ih x hx;omega
theorem nx_lt {N:List Nat} (h0:0<N.length) (T:List Bool) (i:Nat) (b:Bool):∀f k v,(nxG N T i b f k v).1<N.length
 | 0,k,v=>by simp [nxG];exact h0
 | f+1,k,v=>by
  unfold nxG
  split
  ·split
   ·exact h0
   ·split
    ·show List.getD _ _ 0<_;rw [List.getD_eq_getElem?_getD];rcases Nat.lt_or_ge (2*v+(Bit.tat T (i+k)).toNat-Huf.fst N (k+1)) (symsOf N N.length (k+1)).length with h | h
     ·rw [List.getElem?_eq_getElem h];exact sym_lt N (k+1) N.length _ (List.getElem_mem h)
     ·rw [List.getElem?_eq_none h];exact h0
    ·exact nx_lt h0 T i b f (k+1) _
  ·exact h0
def ownG (T:List Bool) (p:Nat):Nat→(Nat→Nat)×Nat×Bool
 | 0=>(fun _=>0,p,false)
 | j+1=>(fun x=>if x=ordF j then rV T (ownG T p j).2.1 (ownG T p j).2.2 3 else (ownG T p j).1 x,
   rI T (ownG T p j).2.1 (ownG T p j).2.2 3,!rOk T (ownG T p j).2.1 (ownG T p j).2.2 3)
theorem own_le {T:List Bool} {p:Nat} (h:p≤T.length):∀j,(ownG T p j).2.1≤T.length
 | 0=>h
 | j+1=>Bit.rI_le (own_le h j)
theorem own_at {T:List Bool} {p k:Nat} {O:List Nat} (h7:∀x∈O,x≤7) (hT:Has T p (ordB O k)) (hk:k≤19):∀j,j≤k→(∀x,(ownG T p j).1 x=ownF O j x)∧(ownG T p j).2.1=p+3*j∧(ownG T p j).2.2=false
 | 0,_=>⟨fun x=>(ownF_zero O x).symm,rfl,rfl⟩
 | j+1,hj=>by
  obtain ⟨i1,i2,i3⟩:=own_at h7 hT hk j (by omega)
  have hz:O.getD (ordF j) 0<2^3:=by
   rw [List.getD_eq_getElem?_getD];rcases Nat.lt_or_ge (ordF j) O.length with h | h
   ·rw [List.getElem?_eq_getElem h]
    have:=h7 _ (List.getElem_mem h)
    show O[ordF j]<8;omega
   ·rw [List.getElem?_eq_none h];simp
  obtain ⟨k1,k2,k3⟩:=has_bits (ordB_at (by omega:j<k) hT) hz
  unfold ownG;rw [i2,i3,k1,k2,k3];refine ⟨fun x=>?_,by show p+3*j+3=_;omega,rfl⟩
  show (if x=ordF j then _ else (ownG T p j).1 x)=_
  rw [i1 x];exact ownF_succ O (by omega) x
def lensG (O:List Nat) (T:List Bool) (many:Nat):Nat→Nat→List Nat→List Nat×Int×Nat×Bool
 | 0,p,_=>([],80,p,false)
 | f+1,p,l=>
  if many≤l.length then (if many<l.length then ([],80,p,false) else (l,0,p,false))
  else
   let x:=nxG O T p false 15 0 0
   if x.2.1≠0 then ([],told x.2.1,x.2.2.1,x.2.2.2)
   else if x.1=16∧l=[] then ([],80,x.2.2.1,x.2.2.2)
   else if rOk T x.2.2.1 false (xb x.1)=false then ([],2,rI T x.2.2.1 false (xb x.1),true)
   else lensG O T many f (rI T x.2.2.1 false (xb x.1)) (grow l (x.1,rV T x.2.2.1 false (xb x.1)))
theorem lens_many {O:List Nat} {T:List Bool} {many f p:Nat} {l:List Nat} (h:many<l.length):lensG O T many (f+1) p l=([],80,p,false):=by
 unfold lensG;rw [if_pos (by omega),if_pos h]
theorem lens_done {O:List Nat} {T:List Bool} {many f p:Nat} {l:List Nat} (h:l.length=many):lensG O T many (f+1) p l=(l,0,p,false):=by
 unfold lensG;rw [if_pos (by omega),if_neg (by omega)]
theorem lens_sym {O:List Nat} {T:List Bool} {many f p xs xj:Nat} {xe:Int} {xb:Bool} {l:List Nat} (h:l.length<many) (hx:nxG O T p false 15 0 0=(xs,xe,xj,xb)) (h0:xe≠0):lensG O T many (f+1) p l=([],told xe,xj,xb):=by
 unfold lensG;rw [if_neg (by omega)];simp only [hx];rw [if_pos h0]
theorem lens_again {O:List Nat} {T:List Bool} {many f p xj:Nat} {xb:Bool} {l:List Nat} (h:l.length<many) (hx:nxG O T p false 15 0 0=(16,0,xj,xb)) (h0:l=[]):lensG O T many (f+1) p l=([],80,xj,xb):=by
 unfold lensG;rw [if_neg (by omega)];simp only [hx];rw [if_neg (by simp),if_pos (by simp [h0])]
theorem lens_short {O:List Nat} {T:List Bool} {many f p xs xj:Nat} {xbb:Bool} {l:List Nat} (h:l.length<many) (hx:nxG O T p false 15 0 0=(xs,0,xj,xbb)) (h0:xs=16→l≠[]) (hr:rOk T xj false (xb xs)=false) :
  lensG O T many (f+1) p l=([],2,rI T xj false (xb xs),true):=by
 unfold lensG;rw [if_neg (by omega)];simp only [hx];rw [if_neg (by simp),if_neg (fun a=>h0 a.1 a.2),if_pos hr]
theorem lens_next {O:List Nat} {T:List Bool} {many f p xs xj:Nat} {xbb:Bool} {l:List Nat} (h:l.length<many) (hx:nxG O T p false 15 0 0=(xs,0,xj,xbb)) (h0:xs=16→l≠[]) (hr:rOk T xj false (xb xs)=true) :
  lensG O T many (f+1) p l=lensG O T many f (rI T xj false (xb xs)) (grow l (xs,rV T xj false (xb xs))):=by
 conv=>lhs;unfold lensG
 rw [if_neg (by omega)];simp only [hx];rw [if_neg (by simp),if_neg (fun a=>h0 a.1 a.2),if_neg (by rw [hr];simp)]
theorem lens_at {O:List Nat} {T:List Bool} (h15:∀x∈O,x≤15) (hU:used O 15≤32768) {l l':List Nat} {Y:List (Nat×Nat)} (h:Def.Rows O l Y l'):∀f p,Has T p (Y.flatMap (yB O))→l'.length<f+l.length→lensG O T l'.length f p l=(l',0,p+(Y.flatMap (yB O)).length,false):=by
 induction h with
 | done l=>
  intro f p _ hf;obtain ⟨f,rfl⟩:∃f',f=f'+1:=⟨f-1,by omega⟩
  exact lens_done rfl
 | more l y Y l' h1 h2 h3 ih=>
  intro f p hT hf;have hlen:=h3.length;rw [grow_length] at hlen;have htp:=times_pos y.1 y.2;obtain ⟨f,rfl⟩:∃f',f=f'+1:=⟨f-1,by omega⟩
  rw [List.flatMap_cons] at hT ⊢;have hl:=hT.left;have hr:=hT.right;unfold yB at hl;obtain ⟨e1,_⟩:=nx_at h15 hU h2 hl.left;obtain ⟨k1,k2,k3⟩:=has_bits hl.right h1.2.1;rw [lens_next (by omega) e1 h1.2.2 k1,k2,k3]
  have ey:(yB O y).length=(cd O y.1).length+xb y.1:=by unfold yB;rw [List.length_append,bitsOf_length]
  have hr':=ih f (p+(cd O y.1).length+xb y.1) (by rw [ey] at hr;rw [Nat.add_assoc];exact hr) (by rw [grow_length];omega)
  rw [hr',List.length_append,ey];simp only [Nat.add_assoc]
theorem lens_ok {O:List Nat} {T:List Bool} {many:Nat}:∀f p l,p≤T.length→(lensG O T many f p l).2.1=0→(lensG O T many f p l).1.length=many∧(lensG O T many f p l).2.2.2=false∧p≤(lensG O T many f p l).2.2.1∧(lensG O T many f p l).2.2.1≤T.length
 | 0,p,l,_,h=>by simp [lensG] at h
 | f+1,p,l,hp,h=>by
  unfold lensG at h ⊢
  by_cases h1:many≤l.length
  ·rw [if_pos h1] at h ⊢
   by_cases h2:many<l.length
   ·rw [if_pos h2] at h;simp at h
   ·rw [if_neg h2];exact ⟨by show l.length=many;omega,rfl,Nat.le_refl _,hp⟩
  ·rw [if_neg h1] at h ⊢;have x1:=nx_ok O T p 15 0 0 (by omega)
   simp only at h ⊢;generalize nxG O T p false 15 0 0=x at *
   by_cases h2:x.2.1=0
   ·rw [if_neg (by simpa using h2)] at h ⊢
    obtain ⟨_,a2,a3⟩:=x1 h2
    by_cases h3:x.1=16∧l=[]
    ·rw [if_pos h3] at h;simp at h
    ·rw [if_neg h3] at h ⊢
     by_cases h4:rOk T x.2.2.1 false (xb x.1)=false
     ·rw [if_pos h4] at h;simp at h
     ·rw [if_neg h4] at h ⊢;have hq:rI T x.2.2.1 false (xb x.1)≤T.length:=Bit.rI_le a3;have hq2:x.2.2.1≤rI T x.2.2.1 false (xb x.1):=by unfold rI;split <;> omega
      have:=lens_ok f _ _ hq h
      exact ⟨this.1,this.2.1,by omega,this.2.2.2⟩
   ·rw [if_pos (by simpa using h2)] at h
    exact absurd h (told_ne h2)
theorem lens_le {O:List Nat} {T:List Bool} {many:Nat}:∀f p l,p≤T.length→(lensG O T many f p l).2.2.1≤T.length
 | 0,p,l,hp=>hp
 | f+1,p,l,hp=>by
  unfold lensG
  split
  ·split
   ·exact hp
   ·exact hp
  ·have x1:=nx_le O T p false 15 0 0 (by omega)
   simp only;generalize nxG O T p false 15 0 0=x at *
   split
   ·exact x1
   ·split
    ·exact x1
    ·split
     ·exact Bit.rI_le x1
     ·exact lens_le f _ _ (Bit.rI_le x1)
def hdrC (T:List Bool) (i A B k:Nat):List Nat×List Nat×Int×Nat×Bool:=
 if 286<A∨30<B then ([],[],80,i,false)
 else if (ownG T i k).2.2=true then ([],[],2,(ownG T i k).2.1,true)
 else if fine (ints ((List.range 19).map (ownG T i k).1))=false then ([],[],80,(ownG T i k).2.1,false)
 else
  let r:=lensG ((List.range 19).map (ownG T i k).1) T (A+B) (A+B+1) (ownG T i k).2.1 []
  if r.2.1≠0 then ([],[],r.2.1,r.2.2.1,r.2.2.2) else (r.1.take A,r.1.drop A,0,r.2.2.1,r.2.2.2)
def hdrG (T:List Bool) (p:Nat):List Nat×List Nat×Int×Nat×Bool:=
 let i1:=rI T p false 5
 let b1:=!rOk T p false 5
 let i2:=rI T i1 b1 5
 let b2:=!rOk T i1 b1 5
 let i3:=rI T i2 b2 4
 let b3:=!rOk T i2 b2 4
 if b3=true then ([],[],2,i3,true) else hdrC T i3 (rV T p false 5+257) (rV T i1 b1 5+1) (rV T i2 b2 4+4)
theorem hdr_at {T:List Bool} {p k:Nat} {L M O:List Nat} {Y:List (Nat×Nat)} (H:IsHdr L M k O Y) (h:Has T p (hdrB L M k O Y)):hdrG T p=(L,M,0,p+(hdrB L M k O Y).length,false):=by
 obtain ⟨⟨l1,l2⟩,⟨d1,d2⟩,⟨k1,k2⟩,ho,ho7,hrest,hroom,hrows⟩:=H;rw [hdrB_length];unfold hdrB at h;obtain ⟨a1,a2,a3⟩:=has_bits h.left (by show L.length-257<32;omega)
 have h2:=h.right;rw [bitsOf_length] at h2;obtain ⟨b1,b2,b3⟩:=has_bits h2.left (by show M.length-1<32;omega)
 have h3:=h2.right;rw [bitsOf_length] at h3;obtain ⟨c1,c2,c3⟩:=has_bits h3.left (by show k-4<16;omega)
 have h4:=h3.right;rw [bitsOf_length] at h4;have h5:=h4.right;rw [ordB_length] at h5;have e1:L.length-257+257=L.length:=by omega
 have e2:M.length-1+1=M.length:=by omega
 have e3:k-4+4=k:=by omega
 obtain ⟨o1,o2,o3⟩:=own_at ho7 h4.left k2 k (Nat.le_refl _)
 have eO:(List.range 19).map (ownG T (p+5+5+4) k).1=O:=by
  conv=>rhs;rw [←own_list ho]
  apply List.map_congr_left
  intro s hs;rw [o1 s];exact ownF_all k2 hrest s (List.mem_range.1 hs)
 have hf:fine (ints O)=true:=fine_ints (by omega) (fun x hx=>by have:=ho7 x hx;omega) hroom
 unfold hdrG;simp only;rw [a1,a2,a3];simp only [Bool.not_true];rw [b1,b2,b3];simp only [Bool.not_true];rw [c1,c2,c3];rw [if_neg (by simp),e1,e2,e3]
 unfold hdrC;rw [eO,o2,o3,hf,if_neg (by omega),if_neg (by simp),if_neg (by simp)]
 have hl:=lens_at (T:=T) (fun x hx=>by have:=ho7 x hx;omega) hroom hrows (L.length+M.length+1) (p+5+5+4+3*k) h5 (by rw [List.length_append,List.length_nil];omega)
 rw [List.length_append] at hl;simp only;rw [hl];simp only;rw [if_neg (by simp),List.take_left,List.drop_left]
 have e9:p+5+5+4+3*k+(Y.flatMap (yB O)).length=p+(14+3*k+(Y.flatMap (yB O)).length):=by omega
 rw [e9]
theorem hdrC_ok {T:List Bool} {i A B k:Nat} (hi:i≤T.length):(hdrC T i A B k).2.2.2.1≤T.length∧((hdrC T i A B k).2.2.1=0→(hdrC T i A B k).1.length=A∧(hdrC T i A B k).2.1.length=B∧A≤286∧B≤30∧(hdrC T i A B k).2.2.2.2=false):=by
 have o1:=own_le hi k;unfold hdrC
 split
 ·exact ⟨hi,fun h=>by simp at h⟩
 ·rename_i h1
  split
  ·exact ⟨o1,fun h=>by simp at h⟩
  ·split
   ·exact ⟨o1,fun h=>by simp at h⟩
   ·simp only;have r1:=lens_le (O:=(List.range 19).map (ownG T i k).1) (T:=T) (many:=A+B) (A+B+1) (ownG T i k).2.1 [] o1;have r2:=lens_ok (O:=(List.range 19).map (ownG T i k).1) (T:=T) (many:=A+B) (A+B+1) (ownG T i k).2.1 [] o1;generalize lensG ((List.range 19).map (ownG T i k).1) T (A+B) (A+B+1) (ownG T i k).2.1 []=r at *
    split
    ·rename_i h2;exact ⟨r1,fun h=>absurd h h2⟩
    ·rename_i h2;obtain ⟨q1,q2,_,_⟩:=r2 (by simpa using h2)
     exact ⟨r1,fun _=>⟨by rw [List.length_take];omega,by rw [List.length_drop];omega,by omega,by omega,q2⟩⟩
theorem hdr_ok {T:List Bool} {p:Nat} (hp:p≤T.length):(hdrG T p).2.2.2.1≤T.length∧((hdrG T p).2.2.1=0→(hdrG T p).1.length≤286∧(hdrG T p).2.1.length≤30∧(hdrG T p).2.2.2.2=false):=by
 unfold hdrG;simp only;have h3:rI T (rI T (rI T p false 5) (!rOk T p false 5) 5) (!rOk T (rI T p false 5) (!rOk T p false 5) 5) 4≤T.length:=Bit.rI_le (Bit.rI_le (Bit.rI_le hp))
 split
 ·exact ⟨h3,fun h=>by simp at h⟩
 ·have:=hdrC_ok (A:=rV T p false 5+257) (B:=rV T (rI T p false 5) (!rOk T p false 5) 5+1) (k:=rV T (rI T (rI T p false 5) (!rOk T p false 5) 5) (!rOk T (rI T p false 5) (!rOk T p false 5) 5) 4+4) h3
  refine ⟨this.1,fun h=>?_⟩
  obtain ⟨a,b,c,d,e⟩:=this.2 h;exact ⟨by omega,by omega,e⟩
theorem own_far {T:List Bool} {p:Nat}:∀j,p≤(ownG T p j).2.1
 | 0=>Nat.le_refl _
 | j+1=>by
  have:=own_far (T:=T) (p:=p) j
  have h2:(ownG T p j).2.1≤(ownG T p (j+1)).2.1:=by
   show _≤rI T (ownG T p j).2.1 (ownG T p j).2.2 3;unfold rI;split <;> omega
  omega
theorem nx_far (N:List Nat) (T:List Bool) (i:Nat) (b:Bool):∀f k v,i≤(nxG N T i b f k v).2.2.1
 | 0,k,v=>by show i≤i+k;omega
 | f+1,k,v=>by
  unfold nxG
  split
  ·split
   ·show i≤i+k;omega
   ·split
    ·show i≤i+k+1;omega
    ·exact nx_far N T i b f (k+1) _
  ·show i≤i+k;omega
theorem lens_far {O:List Nat} {T:List Bool} {many:Nat}:∀f p l,p≤(lensG O T many f p l).2.2.1
 | 0,p,l=>Nat.le_refl _
 | f+1,p,l=>by
  have up:∀i b k,i≤rI T i b k:=fun i b k=>by unfold rI;split <;> omega
  unfold lensG
  split
  ·split
   ·exact Nat.le_refl _
   ·exact Nat.le_refl _
  ·have x1:=nx_far O T p false 15 0 0;simp only;generalize nxG O T p false 15 0 0=x at *
   split
   ·exact x1
   ·split
    ·exact x1
    ·split
     ·have:=up x.2.2.1 false (xb x.1);show p≤rI T x.2.2.1 false (xb x.1);omega
     ·have:=up x.2.2.1 false (xb x.1)
      have h2:=lens_far (O:=O) (T:=T) (many:=many) f (rI T x.2.2.1 false (xb x.1)) (grow l (x.1,rV T x.2.2.1 false (xb x.1)));omega
theorem hdr_far {T:List Bool} {p:Nat} (hp:p≤T.length):p≤(hdrG T p).2.2.2.1:=by
 have up:∀i b k,i≤rI T i b k:=fun i b k=>by unfold rI;split <;> omega
 unfold hdrG;simp only;have h1:=up p false 5;have h2:=up (rI T p false 5) (!rOk T p false 5) 5;have h3:=up (rI T (rI T p false 5) (!rOk T p false 5) 5) (!rOk T (rI T p false 5) (!rOk T p false 5) 5) 4
 split
 ·show p≤rI T (rI T (rI T p false 5) (!rOk T p false 5) 5) (!rOk T (rI T p false 5) (!rOk T p false 5) 5) 4;omega
 ·generalize rI T (rI T (rI T p false 5) (!rOk T p false 5) 5) (!rOk T (rI T p false 5) (!rOk T p false 5) 5) 4=i3 at *;unfold hdrC;have h4:=own_far (T:=T) (p:=i3) (rV T (rI T (rI T p false 5) (!rOk T p false 5) 5) (!rOk T (rI T p false 5) (!rOk T p false 5) 5) 4+4);generalize ownG T i3 (rV T (rI T (rI T p false 5) (!rOk T p false 5) 5) (!rOk T (rI T p false 5) (!rOk T p false 5) 5) 4+4)=o at *
  split
  ·show p≤i3;omega
  ·split
   ·show p≤o.2.1;omega
   ·split
    ·show p≤o.2.1;omega
    ·simp only;have h5:=lens_far (O:=(List.range 19).map o.1) (T:=T) (many:=rV T p false 5+257+(rV T (rI T p false 5) (!rOk T p false 5) 5+1)) (rV T p false 5+257+(rV T (rI T p false 5) (!rOk T p false 5) 5+1)+1) o.2.1 [];have h6:p≤o.2.1:=by omega
     split
     ·exact Nat.le_trans h6 h5
     ·exact Nat.le_trans h6 h5
theorem readG_ok {N M:List Nat} {T:List Bool} {most:Int}:∀f i made acc,i≤T.length→(readG N M T most f i made acc).2.1=0 →
  (readG N M T most f i made acc).2.2.2=false∧i+1≤(readG N M T most f i made acc).2.2.1∧(readG N M T most f i made acc).2.2.1≤T.length ∧
  ∃l,(readG N M T most f i made acc).1=acc++l∧(l=[]∨((made+sumT l:Nat):Int)≤most)
 | 0,i,made,acc,_,h=>by simp [readG] at h
 | f+1,i,made,acc,hi,h=>by
  have x1:=nx_ok N T i 15 0 0 (by omega)
  obtain ⟨⟨xs,xe,xj,xb⟩,hx⟩:∃x,nxG N T i false 15 0 0=x:=⟨_,rfl⟩;rw [hx] at x1;simp only at x1
  by_cases h1:xe=0
  ·subst h1;obtain ⟨a1,a2,a3⟩:=x1 rfl
   by_cases h2:xs=256
   ·subst h2;rw [readG_end hx] at h ⊢;exact ⟨a1,by show i+1≤xj;omega,a3,[],by simp,.inl rfl⟩
   ·have t1:=tok_ok M T xj xs a3;obtain ⟨⟨t,te,tj,b⟩,ht⟩:∃x,tokG M T xj xs=x:=⟨_,rfl⟩;rw [ht] at t1;simp only at t1
    by_cases h3:te=0
    ·subst h3;obtain ⟨b1,b2,b3,_,_⟩:=t1 rfl
     by_cases h4:most<(made+max t.L.toNat 1:Nat)
     ·rw [readG_e3 hx h2 ht h4] at h;simp at h
     ·rw [readG_next hx h2 ht h4] at h ⊢;obtain ⟨c1,c2,c3,l,c4,c5⟩:=readG_ok f tj (made+max t.L.toNat 1) (acc++[t]) b3 h;refine ⟨c1,by omega,c3,t::l,by rw [c4,List.append_assoc];rfl,.inr ?_⟩
      rw [sumT_cons];unfold wide;rcases c5 with rfl | c5
      ·simp only [sumT,List.map_nil,List.sum_nil];omega
      ·omega
    ·rw [readG_e2 hx h2 ht h3] at h;exact absurd h h3
  ·rw [readG_e1 hx h1] at h;exact absurd h h1
theorem rd_ok {L M:List Int} {T:List Bool} {i:Nat} {most:Int} (hi:i≤T.length) (h:(rdG L M T i most).2.1=0) :
  (rdG L M T i most).2.2.2=false∧i≤(rdG L M T i most).2.2.1∧(rdG L M T i most).2.2.1≤T.length∧(0≤most→((sumT (rdG L M T i most).1:Nat):Int)≤most):=by
 unfold rdG at h ⊢
 split
 ·rename_i h1;rw [if_pos h1] at h;obtain ⟨a,b,c,l,d,e⟩:=readG_ok _ _ _ _ hi h;refine ⟨a,by omega,c,fun h0=>?_⟩
  rw [d,List.nil_append];rcases e with rfl | e
  ·simpa [sumT] using h0
  ·omega
 ·rename_i h1;rw [if_neg h1] at h;simp at h
end Go.Proofs.YthbjllabgpaaaaaGreat.Inf
