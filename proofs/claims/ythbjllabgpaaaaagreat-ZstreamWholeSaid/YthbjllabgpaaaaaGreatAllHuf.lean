/-
  Texts in one: HufMath, HufLeast, HufCode, HufBits, HufBase, HufCheck, HufCodes, HufNew, HufNext, HufRef, HufRef2S, HufFindS, HufReadS.
-/
import Derived.WalkKit
import Derived.ProofKit
import Derived.Test.YthbjllabgpaaaaaGreatRows
import Derived.OpenShut
import Derived.ShutString
import Derived.ChangeOld
import Derived.Below
import Derived.WalkSpells
import Derived.WalkLawsBesides
import Derived.Deep.QuietTactic
import Derived.Deep.WholeRow
import Derived.BigQuiet
import Derived.BigGuardPart
import Derived.StillTailTactics
import Derived.Deep.RegionHeld3
import Derived.Deep.RegionWith
import Derived.Outline
import Derived.IntWalk
import Derived.Lib.Hide
import Derived.Test.YthbjllabgpaaaaaGreatAllBit
import Derived.Laws.MakeOwn
namespace Go.Proofs.YthbjllabgpaaaaaGreat.Huf
open Go.Lib (hid)
set_option maxHeartbeats 4000000
def tot {α:Type} (g:α→Nat):List α→Nat
 | []=>0
 | a::r=>g a+tot g r
theorem tot_append {α:Type} (g:α→Nat) (l m:List α):tot g (l++m)=tot g l+tot g m:=by
 induction l with
 | nil=>simp [tot]
 | cons a r ih=>simp only [List.cons_append,tot,ih];omega
theorem tot_perm {α:Type} (g:α→Nat) {l m:List α} (h:l.Perm m):tot g l=tot g m:=by
 induction h with
 | nil=>rfl
 | cons a _ ih=>simp only [tot,ih]
 | swap a b l=>simp only [tot];omega
 | trans _ _ i1 i2=>rw [i1,i2]
theorem tot_take_mono {α:Type} (g:α→Nat) (l:List α) {j k:Nat} (h:j≤k):tot g (l.take j)≤tot g (l.take k):=by
 have e:l.take k=l.take j++(l.take k).drop j:=by
  conv=>lhs;rw [←List.take_append_drop j (l.take k)]
  rw [List.take_take,Nat.min_eq_left h]
 rw [e,tot_append];omega
theorem tot_map {α β:Type} (g:β→Nat) (f:α→β) (l:List α):tot g (l.map f)=tot (fun a=>g (f a)) l:=by
 induction l with
 | nil=>rfl
 | cons a r ih=>simp only [List.map_cons,tot,ih]
theorem tot_le {α:Type} (g h:α→Nat) (l:List α) (k:∀a∈l,g a≤h a):tot g l≤tot h l:=by
 induction l with
 | nil=>exact Nat.le_refl _
 | cons a r ih=>
  have:=k a (by simp)
  have:=ih (fun b hb=>k b (by simp [hb]))
  simp only [tot];omega
theorem tot_congr {α:Type} (g h:α→Nat) (l:List α) (k:∀a∈l,g a=h a):tot g l=tot h l:=
 Nat.le_antisymm (tot_le g h l fun a ha=>Nat.le_of_eq (k a ha)) (tot_le h g l fun a ha=>Nat.le_of_eq (k a ha).symm)
theorem tot_add {α:Type} (g h:α→Nat) (l:List α):tot (fun a=>g a+h a) l=tot g l+tot h l:=by
 induction l with
 | nil=>rfl
 | cons a r ih=>simp only [tot,ih];omega
theorem tot_const {α:Type} (c:Nat) (l:List α):tot (fun _=>c) l=l.length*c:=by
 induction l with
 | nil=>simp [tot]
 | cons a r ih=>simp only [tot,ih,List.length_cons,Nat.add_mul];omega
theorem tot_mul {α:Type} (c:Nat) (g:α→Nat) (l:List α):tot (fun a=>c*g a) l=c*tot g l:=by
 induction l with
 | nil=>rfl
 | cons a r ih=>simp only [tot,ih,Nat.mul_add]
theorem tot_filter {α:Type} (g:α→Nat) (p:α→Bool) (l:List α):tot g (l.filter p)=tot (fun a=>if p a then g a else 0) l:=by
 induction l with
 | nil=>rfl
 | cons a r ih=>
  simp only [List.filter_cons,tot]
  by_cases h:p a
  ·simp [h,tot,ih]
  ·simp [h,ih]
theorem mem_part {α:Type} {a:α} {l:List α} (h:a∈l):∃l',l.Perm (a::l'):=by
 obtain ⟨s,t,rfl⟩:=List.append_of_mem h;exact ⟨s++t,List.perm_middle⟩
theorem take_least {α:Type} (g:α→Nat) (P:List α):∀(Z R:List α),P.Pairwise (fun a b=>g a≤g b)→P.Perm (Z++R)→tot g (P.take Z.length)≤tot g Z:=by
 induction P with
 | nil=>
  intro Z R _ h;simp [tot]
 | cons p P ih=>
  intro Z R hs h;obtain ⟨hp,hs'⟩:=List.pairwise_cons.1 hs
  by_cases hz:p∈Z
  ·obtain ⟨Z',hZ⟩:=mem_part hz
   have h2:P.Perm (Z'++R):=by
    have:=h.trans (hZ.append_right R)
    exact List.Perm.cons_inv this
   have:=ih Z' R hs' h2
   rw [tot_perm g hZ,hZ.length_eq];simp only [List.length_cons,List.take_succ_cons,tot];omega
  ·match Z,h,hz with
   | [],_,_=>simp [tot]
   | z::Z',h,hz=>
    have hr:p∈R:=by
     have:=h.subset (List.mem_cons_self (a:=p) (l:=P))
     rcases List.mem_append.1 this with h | h
     ·exact absurd h hz
     ·exact h
    obtain ⟨R',hR⟩:=mem_part hr
    have h2:P.Perm (Z'++(z::R')):=by
     have h3:(p::P).Perm (p::(z::Z'++R')):=h.trans ((hR.append_left (z::Z')).trans List.perm_middle);exact (List.Perm.cons_inv h3).trans (List.perm_middle.symm)
    have h4:=ih Z' (z::R') hs' h2;have h5:z∈P:=h2.symm.subset (by simp)
    have:=hp z h5
    simp only [List.length_cons,List.take_succ_cons,tot];omega
inductive Tr where
 | leaf (i:Nat)
 | node (a b:Tr)
def Tr.syms:Tr→List Nat
 | .leaf i=>[i]
 | .node a b=>a.syms++b.syms
def Tr.wt (f:Nat→Nat):Tr→Nat
 | .leaf i=>f i
 | .node a b=>a.wt f+b.wt f
theorem Tr.wt_syms (f:Nat→Nat) (t:Tr):t.wt f=tot f t.syms:=by
 induction t with
 | leaf i=>rfl
 | node a b iha ihb=>simp only [wt,syms,tot_append,iha,ihb]
def pairs:List Tr→List Tr
 | a::b::r=>.node a b::pairs r
 | _=>[]
theorem pairs_length:∀(P:List Tr),(pairs P).length=P.length/2
 | []=>rfl
 | [_]=>by simp [pairs]
 | a::b::r=>by
  have:=pairs_length r
  simp only [pairs,List.length_cons];omega
theorem pairs_take (f:Nat→Nat):∀(P:List Tr) (k:Nat),2*k≤P.length→tot (Tr.wt f) ((pairs P).take k)=tot (Tr.wt f) (P.take (2*k))
 | [],k,h=>by
  obtain rfl:k=0:=by simp at h;omega
  rfl
 | [a],k,h=>by
  obtain rfl:k=0:=by simp at h;omega
  rfl
 | a::b::r,0,h=>rfl
 | a::b::r,k+1,h=>by
  have:=pairs_take f r k (by simp at h;omega)
  rw [show 2*(k+1)=2*k+1+1 by omega]
  simp only [pairs,List.take_succ_cons,tot,Tr.wt,this];omega
theorem pairs_mem:∀(P:List Tr) (t:Tr),t∈pairs P→∃a b,t=.node a b∧a∈P∧b∈P
 | [],t,h=>by simp [pairs] at h
 | [_],t,h=>by simp [pairs] at h
 | a::b::r,t,h=>by
  simp only [pairs,List.mem_cons] at h;rcases h with rfl | h
  ·exact ⟨a,b,rfl,by simp,by simp⟩
  ·obtain ⟨c,d,e,hc,hd⟩:=pairs_mem r t h;exact ⟨c,d,e,by simp [hc],by simp [hd]⟩
def Lv (f:Nat→Nat) (S:List Nat):Nat→List Tr→Prop
 | 0,P=>P=[]
 | d+1,P=>∃P',Lv f S d P'∧P.Perm (S.map .leaf++pairs P')∧P.Pairwise (fun a b=>a.wt f≤b.wt f)
def unitsOf (A:Nat→List Nat):Nat→Nat
 | 0=>0
 | d+1=>(A d).length+unitsOf A d/2
def weighs (f:Nat→Nat) (A:Nat→List Nat):Nat→Nat
 | 0=>0
 | d+1=>tot f (A d)+weighs f A d
theorem lower (f:Nat→Nat) (S:List Nat) (A B:Nat→List Nat) (hA:∀d,S.Perm (A d++B d)):∀(d:Nat) (P:List Tr),Lv f S d P →
  unitsOf A d≤P.length∧tot (Tr.wt f) (P.take (unitsOf A d))≤weighs f A d:=by
 intro d
 induction d with
 | zero=>intro P h;cases h;exact ⟨Nat.le_refl _,Nat.le_refl _⟩
 | succ d ih=>
  rintro P ⟨P',h',hp,hs⟩;obtain ⟨i1,i2⟩:=ih P' h';have hk:unitsOf A d/2≤(pairs P').length:=by rw [pairs_length];omega
  have hlS:S.length=(A d).length+(B d).length:=by rw [(hA d).length_eq,List.length_append]
  have hlen:P.length=S.length+(pairs P').length:=by rw [hp.length_eq];simp
  refine ⟨by show (A d).length+unitsOf A d/2≤_;omega,?_⟩
  have hZ:P.Perm (((A d).map .leaf++(pairs P').take (unitsOf A d/2))++((B d).map .leaf++(pairs P').drop (unitsOf A d/2))):=by
   refine hp.trans ?_;have e1:(S.map Tr.leaf).Perm ((A d).map .leaf++(B d).map .leaf):=by rw [←List.map_append];exact (hA d).map _
   have e2:(pairs P')=(pairs P').take (unitsOf A d/2)++(pairs P').drop (unitsOf A d/2):=(List.take_append_drop _ _).symm;refine (e1.append_right _).trans ?_
   conv=>lhs;rw [e2]
   generalize (A d).map Tr.leaf=x;generalize (B d).map Tr.leaf=y;generalize (pairs P').take (unitsOf A d/2)=z;generalize (pairs P').drop (unitsOf A d/2)=u;rw [List.append_assoc,List.append_assoc];refine List.Perm.append_left x ?_;rw [←List.append_assoc,←List.append_assoc];exact List.perm_append_comm.append_right u
  have h1:=take_least (Tr.wt f) P _ _ hs hZ
  have hl:((A d).map Tr.leaf++(pairs P').take (unitsOf A d/2)).length=unitsOf A (d+1):=by
   rw [List.length_append,List.length_map,List.length_take,Nat.min_eq_left hk];rfl
  rw [hl,tot_append,tot_map,pairs_take f P' _ (by omega)] at h1
  have h2:=tot_take_mono (Tr.wt f) P' (show 2*(unitsOf A d/2)≤unitsOf A d by omega)
  show _≤tot f (A d)+weighs f A d;have h3:tot (fun a=>Tr.wt f (Tr.leaf a)) (A d)=tot f (A d):=rfl
  omega
def byLen (S:List Nat) (L:Nat) (l:Nat→Nat) (d:Nat):List Nat:=S.filter fun i=>decide (L≤l i+d)
def notLen (S:List Nat) (L:Nat) (l:Nat→Nat) (d:Nat):List Nat:=S.filter fun i=>!decide (L≤l i+d)
theorem filter_parts {α:Type} (p:α→Bool) (l:List α):l.Perm (l.filter p++l.filter fun a=>!p a):=by
 induction l with
 | nil=>exact List.Perm.refl _
 | cons a r ih=>
  by_cases h:p a
  ·simp only [List.filter_cons,h,if_true,Bool.not_true,Bool.false_eq_true,if_false,List.cons_append];exact ih.cons a
  ·simp only [List.filter_cons,h,Bool.false_eq_true,if_false,Bool.not_false,if_true];exact (ih.cons a).trans List.perm_middle.symm
theorem byLen_parts (S:List Nat) (L:Nat) (l:Nat→Nat) (d:Nat):S.Perm (byLen S L l d++notLen S L l d):=filter_parts _ S
theorem weighs_cost (f:Nat→Nat) (S:List Nat) (L:Nat) (l:Nat→Nat) (hl:∀i∈S,l i≤L):∀d,weighs f (byLen S L l) d=tot (fun i=>f i*(l i+d-L)) S:=by
 intro d
 induction d with
 | zero=>
  show 0=_;rw [tot_congr _ (fun _=>0) S (fun i hi=>by have:=hl i hi;rw [show l i+0-L=0 by omega,Nat.mul_zero]),tot_const];omega
 | succ d ih=>
  show tot f (byLen S L l d)+weighs f (byLen S L l) d=_;rw [ih];unfold byLen;rw [tot_filter,←tot_add]
  apply tot_congr
  intro i hi
  by_cases h:L≤l i+d
  ·rw [if_pos (by simpa using h),show l i+(d+1)-L=(l i+d-L)+1 by omega,Nat.mul_add,Nat.mul_one];omega
  ·rw [if_neg (by simpa using h),show l i+(d+1)-L=0 by omega,show l i+d-L=0 by omega];omega
def fulls (A:Nat→List Nat):Nat→Nat
 | 0=>0
 | d+1=>fulls A d+2^d*(A d).length
theorem units_fulls (A:Nat→List Nat):∀d,unitsOf A (d+1)=fulls A (d+1)/2^d:=by
 intro d
 induction d with
 | zero=>simp [unitsOf,fulls]
 | succ d ih=>
  show (A (d+1)).length+unitsOf A (d+1)/2=(fulls A (d+1)+2^(d+1)*(A (d+1)).length)/2^(d+1);rw [ih,Nat.add_mul_div_left _ _ (Nat.pow_pos (by decide)),Nat.div_div_eq_div_mul,show (2:Nat)^d*2=2^(d+1) from (Nat.pow_succ ..).symm]
  omega
theorem fulls_len (S:List Nat) (L:Nat) (l:Nat→Nat) (hl:∀i∈S,l i≤L):∀d,d≤L→fulls (byLen S L l) d+tot (fun i=>if L≤l i+d then 2^(L-l i) else 2^d) S=S.length*2^d:=by
 intro d
 induction d with
 | zero=>
  intro _;show 0+_=_
  rw [tot_congr _ (fun _=>1) S (fun i hi=>by
   have:=hl i hi
   by_cases h:L≤l i+0
   ·rw [if_pos h,show L-l i=0 by omega]
   ·rw [if_neg h]),tot_const]
  omega
 | succ d ih=>
  intro hd;have i1:=ih (by omega)
  show fulls (byLen S L l) d+2^d*(byLen S L l d).length+_=_
  have e1:2^d*(byLen S L l d).length=tot (fun i=>if L≤l i+d then 2^d else 0) S:=by
   rw [show (2:Nat)^d*(byLen S L l d).length=tot (fun _=>2^d) (byLen S L l d) by rw [tot_const,Nat.mul_comm]]
   unfold byLen;rw [tot_filter]
   apply tot_congr
   intro i _
   by_cases h:L≤l i+d
   ·rw [if_pos (by simpa using h),if_pos h]
   ·rw [if_neg (by simpa using h),if_neg h]
  have e2:tot (fun i=>if L≤l i+d then 2^d else 0) S+tot (fun i=>if L≤l i+(d+1) then 2^(L-l i) else 2^(d+1)) S=tot (fun i=>if L≤l i+d then 2^(L-l i) else 2^d) S+tot (fun _=>2^d) S:=by
   rw [←tot_add,←tot_add]
   apply tot_congr
   intro i _;have hp:(2:Nat)^(d+1)=2^d+2^d:=by rw [Nat.pow_succ];omega
   by_cases h:L≤l i+d
   ·rw [if_pos h,if_pos h,if_pos (by omega)];omega
   ·by_cases h2:L≤l i+(d+1)
    ·rw [if_neg h,if_neg h,if_pos h2,show L-l i=d+1 by omega,hp];omega
    ·rw [if_neg h,if_neg h,if_neg h2,hp];omega
  have e3:tot (fun _=>2^d) S=S.length*2^d:=tot_const _ _
  have hg:S.length*2^(d+1)=S.length*2^d*2:=by rw [Nat.pow_succ,Nat.mul_assoc]
  rw [hg];generalize S.length*2^d=X at *;omega
theorem best (f:Nat→Nat) (S:List Nat) (L:Nat) (P:List Tr) (hP:Lv f S L P) (hL:1≤L) (l:Nat→Nat) (hl:∀i∈S,l i≤L)
  (hk:tot (fun i=>2^(L-l i)) S≤2^L):2*S.length-2≤P.length∧tot (Tr.wt f) (P.take (2*S.length-2))≤tot (fun i=>f i*l i) S:=by
 obtain ⟨a,b⟩:=lower f S (byLen S L l) (notLen S L l) (byLen_parts S L l) L P hP
 have hw:weighs f (byLen S L l) L=tot (fun i=>f i*l i) S:=by
  rw [weighs_cost f S L l hl L]
  apply tot_congr
  intro i _;rw [show l i+L-L=l i by omega]
 have hf:=fulls_len S L l hl L (Nat.le_refl _)
 have hc:tot (fun i=>if L≤l i+L then 2^(L-l i) else 2^L) S=tot (fun i=>2^(L-l i)) S:=by
  apply tot_congr;intro i _;rw [if_pos (by omega)]
 rw [hc] at hf
 have hu:2*S.length-2≤unitsOf (byLen S L l) L:=by
  obtain ⟨d,rfl⟩:∃d,L=d+1:=⟨L-1,by omega⟩
  rw [units_fulls];have hp:(2:Nat)^(d+1)=2^d*2:=Nat.pow_succ ..;have hp0:0<(2:Nat)^d:=Nat.pow_pos (by decide)
  rw [Nat.le_div_iff_mul_le hp0]
  have e:(2*S.length-2)*2^d=S.length*(2^d*2)-2^d*2:=by
   rw [Nat.sub_mul]
   have:2*S.length*2^d=S.length*(2^d*2):=by
    rw [Nat.mul_comm 2 S.length,Nat.mul_assoc,Nat.mul_comm 2]
   rw [this,Nat.mul_comm 2 (2^d)]
  rw [e];rw [hp] at hf hk;generalize S.length*(2^d*2)=X at *;omega
 refine ⟨by omega,?_⟩
 have:=tot_take_mono (Tr.wt f) P hu
 omega
/-! ### What is taken is lengths. -/
theorem perm_part {α:Type}:∀(Z R I Q:List α),(Z++R).Perm (I++Q)→∃X X' Y Y',I.Perm (X++X')∧Q.Perm (Y++Y')∧Z.Perm (X++Y):=by
 intro Z
 induction Z with
 | nil=>intro R I Q _;exact ⟨[],I,[],Q,List.Perm.refl _,List.Perm.refl _,List.Perm.refl _⟩
 | cons z Z ih=>
  intro R I Q h;have hz:z∈I++Q:=h.subset (by simp)
  rcases List.mem_append.1 hz with hi | hq
  ·obtain ⟨I',hI⟩:=mem_part hi;have h2:(Z++R).Perm (I'++Q):=List.Perm.cons_inv (h.trans (hI.append_right Q));obtain ⟨X,X',Y,Y',a,b,c⟩:=ih R I' Q h2;exact ⟨z::X,X',Y,Y',hI.trans (a.cons z),b,c.cons z⟩
  ·obtain ⟨Q',hQ⟩:=mem_part hq;have h2:(Z++R).Perm (I++Q'):=List.Perm.cons_inv (h.trans ((hQ.append_left I).trans List.perm_middle));obtain ⟨X,X',Y,Y',a,b,c⟩:=ih R I Q' h2;exact ⟨X,X',z::Y,Y',a,hQ.trans (b.cons z),(c.cons z).trans List.perm_middle.symm⟩
def Tr.halves:Tr→List Tr
 | .leaf _=>[]
 | .node a b=>[a,b]
theorem pairs_open:∀(P:List Tr),∃r,P=(pairs P).flatMap Tr.halves++r
 | []=>⟨[],rfl⟩
 | [a]=>⟨[a],by simp [pairs]⟩
 | a::b::r=>by
  obtain ⟨q,h⟩:=pairs_open r;exact ⟨q,by simp only [pairs,List.flatMap_cons,Tr.halves,List.cons_append,List.nil_append];rw [←h]⟩
theorem flatMap_perm {α β:Type} (g:α→List β) {l m:List α} (h:l.Perm m):(l.flatMap g).Perm (m.flatMap g):=by
 induction h with
 | nil=>exact List.Perm.refl _
 | cons a _ ih=>simp only [List.flatMap_cons];exact ih.append_left _
 | swap a b l=>
  simp only [List.flatMap_cons];rw [←List.append_assoc,←List.append_assoc];exact List.perm_append_comm.append_right _
 | trans _ _ i1 i2=>exact i1.trans i2
def often (i:Nat) (Z:List Tr):Nat:=(Z.flatMap Tr.syms).count i
theorem often_append (i:Nat) (Z Y:List Tr):often i (Z++Y)=often i Z+often i Y:=by
 unfold often;rw [List.flatMap_append,List.count_append]
theorem often_perm (i:Nat) {Z Y:List Tr} (h:Z.Perm Y):often i Z=often i Y:=(flatMap_perm _ h).count_eq i
theorem opened:∀(Y:List Tr),(∀t∈Y,∃a b,t=.node a b)→(Y.flatMap Tr.halves).length=2*Y.length∧∀i,often i (Y.flatMap Tr.halves)=often i Y
 | [],_=>⟨rfl,fun _=>rfl⟩
 | t::Y,h=>by
  obtain ⟨a,b,rfl⟩:=h t (by simp)
  obtain ⟨h1,h2⟩:=opened Y (fun u hu=>h u (by simp [hu]))
  refine ⟨by simp only [List.flatMap_cons,Tr.halves,List.cons_append,List.nil_append,List.length_cons,h1];omega,fun i=>?_⟩
  have:=h2 i
  simp only [often,List.flatMap_cons,Tr.halves,List.cons_append,List.nil_append,Tr.syms,List.count_append] at this ⊢;omega
theorem leaf_often (i:Nat) (X:List Nat):often i (X.map .leaf)=X.count i:=by
 unfold often
 induction X with
 | nil=>rfl
 | cons a r ih=>
  simp only [List.map_cons,List.flatMap_cons,Tr.syms,List.cons_append,List.nil_append,List.count_cons,ih]
theorem leaf_part (S:List Nat) (X X':List Tr) (h:(S.map Tr.leaf).Perm (X++X')):∃T T',X=T.map .leaf∧S.Perm (T++T'):=by
 induction X generalizing S with
 | nil=>exact ⟨[],S,rfl,List.Perm.refl _⟩
 | cons x X ih=>
  have hx:x∈S.map Tr.leaf:=h.symm.subset (by simp)
  obtain ⟨i,hi,rfl⟩:=List.mem_map.1 hx;obtain ⟨S',hS⟩:=mem_part hi;have h2:(S'.map Tr.leaf).Perm (X++X'):=List.Perm.cons_inv (((hS.map Tr.leaf).symm).trans h);obtain ⟨T,T',rfl,hT⟩:=ih S' h2;exact ⟨i::T,T',rfl,hS.trans (hT.cons i)⟩
theorem widths (f:Nat→Nat) (S:List Nat) (hS:S.Nodup):∀(d:Nat) (P Z R:List Tr),Lv f S d P→P.Perm (Z++R) →
  (∀i,often i Z≤d)∧(∀i,i∉S→often i Z=0)∧Z.length*2^d≤2*tot (fun i=>2^d-2^(d-often i Z)) S:=by
 intro d
 induction d with
 | zero=>
  intro P Z R h hp
  cases h
  have:Z=[]:=by
   have:=hp.length_eq
   simp at this;exact List.length_eq_zero_iff.1 (by omega)
  subst this;exact ⟨fun _=>Nat.le_refl _,fun _ _=>rfl,by simp⟩
 | succ d ih=>
  rintro P Z R ⟨P',h',hp,_⟩ hz;obtain ⟨X,X',Y,Y',hI,hQ,hZ⟩:=perm_part Z R _ _ (hz.symm.trans hp);obtain ⟨T,T',rfl,hT⟩:=leaf_part S X X' hI
  have hY:∀t∈Y,∃a b,t=.node a b:=by
   intro t ht;obtain ⟨a,b,e,_,_⟩:=pairs_mem P' t (hQ.symm.subset (by simp [ht]))
   exact ⟨a,b,e⟩
  obtain ⟨o1,o2⟩:=opened Y hY;obtain ⟨r,hr⟩:=pairs_open P'
  have hP':P'.Perm (Y.flatMap Tr.halves++(Y'.flatMap Tr.halves++r)):=by
   rw [←List.append_assoc,←List.flatMap_append]
   conv=>lhs;rw [hr]
   exact (flatMap_perm _ hQ).append_right r
  obtain ⟨i1,i2,i3⟩:=ih P' _ _ h' hP'
  have hc:∀i,often i Z=T.count i+often i (Y.flatMap Tr.halves):=by
   intro i;rw [often_perm i hZ,often_append,leaf_often,o2]
  have hTn:T.Nodup:=(List.nodup_append.1 (hT.nodup_iff.1 hS)).1;have hT1:∀i,T.count i≤1:=fun i=>List.nodup_iff_count.1 hTn i
  have hTS:∀i,i∉S→T.count i=0:=fun i hi=>List.count_eq_zero.2 (fun h=>hi (hT.symm.subset (by simp [h])))
  refine ⟨fun i=>by have:=hc i;have:=hT1 i;have:=i1 i;omega,fun i hi=>by have:=hc i;have:=hTS i hi;have:=i2 i hi;omega,?_⟩
  have hlen:Z.length=T.length+Y.length:=by rw [hZ.length_eq];simp
  rw [o1] at i3
  have hTl:T.length=tot (fun i=>T.count i) S:=by
   have e1:tot (fun i=>T.count i) S=tot (fun i=>T.count i) T+tot (fun i=>T.count i) T':=by rw [tot_perm _ hT,tot_append]
   have e2:tot (fun i=>T.count i) T=T.length:=by
    rw [tot_congr _ (fun _=>1) T (fun i hi=>by have:=hT1 i;have:=List.count_pos_iff.2 hi;omega),tot_const];omega
   have e3:tot (fun i=>T.count i) T'=0:=by
    rw [tot_congr _ (fun _=>0) T' (fun i hi=>?_),tot_const];omega
    refine List.count_eq_zero.2 (fun h=>?_)
    exact (List.nodup_append.1 (hT.nodup_iff.1 hS)).2.2 i h i hi rfl
   omega
  have hstep:tot (fun i=>2^d-2^(d-often i (Y.flatMap Tr.halves))) S+2^d*tot (fun i=>T.count i) S≤tot (fun i=>2^(d+1)-2^(d+1-often i Z)) S:=by
   rw [←tot_mul,←tot_add]
   apply tot_le
   intro i _;have h1:=i1 i;have h2:=hT1 i;have h3:=hc i;have hp:(2:Nat)^(d+1)=2*2^d:=by rw [Nat.pow_succ];omega
   generalize often i (Y.flatMap Tr.halves)=m at *;generalize often i Z=q at *;generalize T.count i=x at *;have hb:(2:Nat)^(d-m)≤2^d:=Nat.pow_le_pow_right (by decide) (by omega)
   obtain rfl | rfl:x=0∨x=1:=by omega
   ·rw [show d+1-q=d-m+1 by omega,hp,show (2:Nat)^(d-m+1)=2*2^(d-m) by rw [Nat.pow_succ];omega];omega
   ·rw [show d+1-q=d-m by omega,hp];omega
  rw [←hTl] at hstep
  have e:(T.length+Y.length)*2^(d+1)=2*(2^d*T.length)+2*Y.length*2^d:=by
   rw [Nat.pow_succ,Nat.add_mul,Nat.mul_comm (2^d) 2,←Nat.mul_assoc,←Nat.mul_assoc,Nat.mul_comm T.length 2,Nat.mul_comm Y.length 2,Nat.mul_assoc,Nat.mul_comm T.length]
  rw [hlen,e];omega
theorem tot_dvd {α:Type} (c:Nat) (g:α→Nat) (l:List α) (h:∀a∈l,c∣g a):c∣tot g l:=by
 induction l with
 | nil=>exact ⟨0,rfl⟩
 | cons a r ih=>exact Nat.dvd_add (h a (by simp)) (ih fun b hb=>h b (by simp [hb]))
theorem tot_one {S:List Nat} (hS:S.Nodup) (g:Nat→Nat) (y:Nat) (hy:y∈S):tot (fun i=>if y=i then g i else 0) S=g y:=by
 obtain ⟨S',h⟩:=mem_part hy;rw [tot_perm _ h];have hn:=h.nodup_iff.1 hS;have h2:=(List.nodup_cons.1 hn).1;show (if y=y then g y else 0)+_=_
 rw [if_pos rfl,tot_congr _ (fun _=>0) S' (fun i hi=>by rw [if_neg];rintro rfl;exact h2 hi),tot_const];omega
theorem tot_count (f:Nat→Nat) {S:List Nat} (hS:S.Nodup):∀(Y:List Nat),(∀y∈Y,y∈S)→tot f Y=tot (fun i=>f i*Y.count i) S:=by
 intro Y
 induction Y with
 | nil=>intro _;rw [tot_congr _ (fun _=>0) S (fun i _=>by simp),tot_const];simp [tot]
 | cons y Y ih=>
  intro h;have h1:=ih fun z hz=>h z (by simp [hz])
  have h2:=tot_one hS f y (h y (by simp))
  show f y+tot f Y=_;rw [h1,←h2,←tot_add]
  apply tot_congr
  intro i _;rw [List.count_cons]
  by_cases e:y=i
  ·subst e;simp [Nat.mul_add];omega
  ·simp [e]
theorem tot_flat (f:Nat→Nat) (C:List Tr):tot (Tr.wt f) C=tot f (C.flatMap Tr.syms):=by
 induction C with
 | nil=>rfl
 | cons t C ih=>simp only [List.flatMap_cons,tot,tot_append,ih,Tr.wt_syms]
theorem has_max (m:Nat→Nat):∀(S:List Nat),S≠[]→∃j∈S,∀i∈S,m i≤m j
 | [],h=>absurd rfl h
 | [a],_=>⟨a,by simp,fun i hi=>by simp at hi;subst hi;exact Nat.le_refl _⟩
 | a::b::r,_=>by
  obtain ⟨j,hj,h⟩:=has_max m (b::r) (by simp)
  by_cases hc:m a≤m j
  ·exact ⟨j,by simp [List.mem_cons.1 hj],fun i hi=>by
    rcases List.mem_cons.1 hi with rfl | hi
    ·exact hc
    ·exact h i hi⟩
  ·exact ⟨a,by simp,fun i hi=>by
    rcases List.mem_cons.1 hi with rfl | hi
    ·exact Nat.le_refl _
    ·have:=h i hi;omega⟩
theorem made (f:Nat→Nat) (S:List Nat) (hS:S.Nodup) (h2:2≤S.length) (hf:∀i∈S,0<f i) (L:Nat) (hL:1≤L) (hn:S.length≤2^L) (P:List Tr) (hP:Lv f S L P) :
  2*S.length-2≤P.length ∧
  (∀i∈S,1≤often i (P.take (2*S.length-2)))∧(∀i,often i (P.take (2*S.length-2))≤L)∧(∀i,i∉S→often i (P.take (2*S.length-2))=0) ∧
  tot (fun i=>2^(L-often i (P.take (2*S.length-2)))) S=2^L ∧
  (∀l:Nat→Nat,(∀i∈S,l i≤L)→tot (fun i=>2^(L-l i)) S≤2^L→tot (fun i=>f i*often i (P.take (2*S.length-2))) S≤tot (fun i=>f i*l i) S):=by
 have hlen:=(best f S L P hP hL (fun _=>L) (fun _ _=>Nat.le_refl _) (by
  rw [tot_congr _ (fun _=>1) S (fun i _=>by rw [Nat.sub_self]),tot_const];omega)).1
 have hw:=widths f S hS L P (P.take (2*S.length-2)) (P.drop (2*S.length-2)) hP (by rw [List.take_append_drop])
 have hbest:=fun l h1 h2=>(best f S L P hP hL l h1 h2).2
 have hcl:(P.take (2*S.length-2)).length=2*S.length-2:=by rw [List.length_take];omega
 rw [hcl] at hw
 have hcost:tot (Tr.wt f) (P.take (2*S.length-2))=tot (fun i=>f i*often i (P.take (2*S.length-2))) S:=by
  rw [tot_flat,tot_count f hS _ (fun y hy=>?_)]
  ·rfl
  ·apply Classical.byContradiction
   intro hn
   have:=hw.2.1 y hn
   exact absurd (List.count_pos_iff.2 hy) (by unfold often at this;omega)
 rw [hcost] at hbest;obtain ⟨w1,w2,w3⟩:=hw;generalize hm:(fun i=>often i (P.take (2*S.length-2)))=m at *
 have hm':∀i,often i (P.take (2*S.length-2))=m i:=fun i=>by rw [←hm]
 simp only [hm'] at *;clear hm hm' hcost hcl;refine ⟨hlen,?_⟩
 have hsplit:tot (fun i=>2^L-2^(L-m i)) S+tot (fun i=>2^(L-m i)) S=S.length*2^L:=by
  rw [←tot_add,←tot_const]
  apply tot_congr
  intro i _
  have:(2:Nat)^(L-m i)≤2^L:=Nat.pow_le_pow_right (by decide) (by omega)
  omega
 have hkr:tot (fun i=>2^(L-m i)) S≤2^L:=by
  have e:(2*S.length-2)*2^L=2*(S.length*2^L)-2*2^L:=by rw [Nat.sub_mul,Nat.mul_assoc]
  rw [e] at w3
  have:2^L≤S.length*2^L:=Nat.le_mul_of_pos_left _ (by omega)
  generalize S.length*2^L=X at *;generalize (2:Nat)^L=Y at *;omega
 have hone:∀i∈S,1≤m i:=by
  intro i hi
  apply Classical.byContradiction
  intro h0;obtain ⟨S',hp⟩:=mem_part hi;have h3:tot (fun i=>2^(L-m i)) S=2^(L-m i)+tot (fun i=>2^(L-m i)) S':=by rw [tot_perm _ hp];rfl
  rw [show m i=0 by omega,Nat.sub_zero] at h3
  have h4:S'.length*1≤tot (fun i=>2^(L-m i)) S':=by
   rw [←tot_const];exact tot_le _ _ _ fun a _=>Nat.pow_pos (by decide)
  have h5:S.length=S'.length+1:=hp.length_eq;omega
 refine ⟨hone,w1,w2,?_,hbest⟩
 apply Nat.le_antisymm hkr
 apply Classical.byContradiction
 intro hlt;obtain ⟨j,hj,hmax⟩:=has_max m S (by intro h;rw [h] at h2;simp at h2)
 have hd1:2^(L-m j)∣tot (fun i=>2^(L-m i)) S:=tot_dvd _ _ _ fun i hi=>Nat.pow_dvd_pow 2 (by have:=hmax i hi;omega)
 have hd2:(2:Nat)^(L-m j)∣2^L:=Nat.pow_dvd_pow 2 (by omega)
 have hroom:tot (fun i=>2^(L-m i)) S+2^(L-m j)≤2^L:=by
  obtain ⟨x,hx⟩:=hd1;obtain ⟨y,hy⟩:=hd2;rw [hx,hy] at hlt;rw [hx,hy,←Nat.mul_succ];refine Nat.mul_le_mul_left _ ?_
  apply Classical.byContradiction
  intro hxy;exact hlt (Nat.mul_le_mul_left _ (by omega))
 have hj1:=hone j hj;have hjL:=w1 j
 have hb:=hbest (fun i=>if j=i then m i-1 else m i) (fun i _=>by have:=w1 i;show (if j=i then m i-1 else m i)≤L;split <;> omega) (by
  refine Nat.le_trans (Nat.le_of_eq ?_) hroom;rw [←tot_one hS (fun i=>2^(L-m i)) j hj,←tot_add]
  apply tot_congr
  intro i _
  by_cases e:j=i
  ·subst e;rw [if_pos rfl,if_pos rfl,show L-(m j-1)=L-m j+1 by omega,Nat.pow_succ];omega
  ·rw [if_neg e,if_neg e];omega)
 have hc:tot (fun i=>f i*m i) S=tot (fun i=>f i*(if j=i then m i-1 else m i)) S+f j:=by
  rw [←tot_one hS f j hj,←tot_add]
  apply tot_congr
  intro i _
  by_cases e:j=i
  ·subst e;rw [if_pos rfl,if_pos rfl,Nat.mul_sub,Nat.mul_one]
   have:f j*1≤f j*m j:=Nat.mul_le_mul_left _ hj1
   omega
  ·rw [if_neg e,if_neg e];omega
 have:=hf j hj
 have hb':tot (fun i=>f i*m i) S≤tot (fun i=>f i*(if j=i then m i-1 else m i)) S:=hb
 omega
end Go.Proofs.YthbjllabgpaaaaaGreat.Huf
namespace Go.Proofs.YthbjllabgpaaaaaGreat.Huf
open Go.Lib (hid)
set_option maxHeartbeats 4000000

end Go.Proofs.YthbjllabgpaaaaaGreat.Huf
namespace Go.Proofs.YthbjllabgpaaaaaGreat.Huf
open Go.Lib (hid)
set_option maxHeartbeats 4000000
def cn (lens:List Nat) (l:Nat):Nat:=if l=0 then 0 else lens.count l
def fst (lens:List Nat):Nat→Nat
 | 0=>0
 | l+1=>2*(fst lens l+cn lens l)
def codeV (lens:List Nat) (i:Nat):Nat:=if lens.getD i 0=0 then 0 else fst lens (lens.getD i 0)+(lens.take i).count (lens.getD i 0)
def used (lens:List Nat):Nat→Nat
 | 0=>0
 | l+1=>used lens l+cn lens (l+1)*2^(15-(l+1))
theorem fst_used (lens:List Nat):∀l,l+1≤15→fst lens (l+1)*2^(15-(l+1))=used lens l:=by
 intro l
 induction l with
 | zero=>intro _;simp [fst,cn,used]
 | succ l ih=>
  intro h;have i1:=ih (by omega)
  show 2*(fst lens (l+1)+cn lens (l+1))*2^(15-(l+1+1))=used lens l+cn lens (l+1)*2^(15-(l+1))
  have hp:(2:Nat)^(15-(l+1))=2*2^(15-(l+1+1)):=by
   rw [show 15-(l+1)=(15-(l+1+1))+1 by omega,Nat.pow_succ];omega
  rw [←i1,←Nat.add_mul,hp,Nat.mul_comm 2,Nat.mul_assoc]
theorem used_mono (lens:List Nat) {j k:Nat} (h:j≤k):used lens j≤used lens k:=by
 induction k with
 | zero=>
  obtain rfl:j=0:=by omega
  exact Nat.le_refl _
 | succ k ih=>
  by_cases e:j=k+1
  ·subst e;exact Nat.le_refl _
  ·have:=ih (by omega)
   show _≤used lens k+_;omega
theorem count_take_lt (lens:List Nat) (l:Nat):∀i,(h:i<lens.length)→lens[i]=l→(lens.take i).count l<lens.count l:=by
 intro i h e
 have h1:lens.count l=(lens.take i).count l+(lens.drop i).count l:=by
  conv=>lhs;rw [←List.take_append_drop i lens]
  rw [List.count_append]
 have h2:lens.drop i=lens[i]::lens.drop (i+1):=List.drop_eq_getElem_cons h;rw [h2,e,List.count_cons_self] at h1;omega
theorem count_take_inj (lens:List Nat) (l i j:Nat) (hi:i<lens.length) (hj:j<lens.length) (ei:lens[i]=l) (ej:lens[j]=l) (h:(lens.take i).count l=(lens.take j).count l):i=j:=by
 have key:∀a b,(ha:a<b)→(hb:b<lens.length)→lens[a]'(by omega)=l→(lens.take a).count l<(lens.take b).count l:=by
  intro a b hab hb e;have h1:=count_take_lt (lens.take b) l a (by simp;omega) (by rw [List.getElem_take];exact e)
  rw [List.take_take,Nat.min_eq_left (by omega)] at h1
  exact h1
 rcases Nat.lt_trichotomy i j with h1 | h1 | h1
 ·have:=key i j h1 hj ei;omega
 ·exact h1
 ·have:=key j i h1 hi ej;omega
theorem count_take_at:∀(lens:List Nat) (l k:Nat),k<lens.count l→∃i,∃h:i<lens.length,lens[i]=l∧(lens.take i).count l=k
 | [],l,k,h=>by simp at h
 | a::r,l,k,h=>by
  by_cases e:a=l
  ·subst e
   match k,h with
   | 0,_=>exact ⟨0,by simp,rfl,rfl⟩
   | k+1,h=>
    rw [List.count_cons_self] at h;obtain ⟨i,hi,h1,h2⟩:=count_take_at r a k (by omega)
    exact ⟨i+1,by simp;omega,h1,by rw [List.take_succ_cons,List.count_cons_self,h2]⟩
  ·rw [List.count_cons_of_ne (by simpa using e)] at h
   obtain ⟨i,hi,h1,h2⟩:=count_take_at r l k h;exact ⟨i+1,by simp;omega,h1,by rw [List.take_succ_cons,List.count_cons_of_ne (by simpa using e),h2]⟩
theorem codeV_in (lens:List Nat) (i l:Nat) (hi:i<lens.length) (e:lens[i]=l) (h1:1≤l) (h15:l≤15) :
  fst lens l≤codeV lens i∧codeV lens i<fst lens l+cn lens l∧used lens (l-1)≤codeV lens i*2^(15-l)∧(codeV lens i+1)*2^(15-l)≤used lens l:=by
 have eg:lens.getD i 0=l:=by rw [List.getD_eq_getElem?_getD,List.getElem?_eq_getElem hi];exact e
 have hc:cn lens l=lens.count l:=by unfold cn;rw [if_neg (by omega)]
 have hlt:=count_take_lt lens l i hi e;have hv:codeV lens i=fst lens l+(lens.take i).count l:=by unfold codeV;rw [eg,if_neg (by omega)]
 obtain ⟨k,rfl⟩:∃k,l=k+1:=⟨l-1,by omega⟩
 have hu:=fst_used lens k h15;refine ⟨by omega,by omega,?_,?_⟩
 ·rw [show k+1-1=k by omega,←hu]
  exact Nat.mul_le_mul_right _ (by omega)
 ·show _≤used lens k+cn lens (k+1)*2^(15-(k+1));rw [←hu,←Nat.add_mul];exact Nat.mul_le_mul_right _ (by omega)
theorem div_iff (x c s:Nat) (hs:0<s):x/s=c↔c*s≤x∧x<(c+1)*s:=by
 constructor
 ·rintro rfl;exact ⟨Nat.div_mul_le_self x s,by rw [Nat.mul_comm];exact Nat.lt_mul_div_succ x hs⟩
 ·rintro ⟨h1,h2⟩;exact Nat.div_eq_of_lt_le h1 h2
theorem code_one (lens:List Nat) (i j x:Nat) (hi:i<lens.length) (hj:j<lens.length) (i1:1≤lens[i]) (i15:lens[i]≤15) (j1:1≤lens[j]) (j15:lens[j]≤15)
  (ei:x/2^(15-lens[i])=codeV lens i) (ej:x/2^(15-lens[j])=codeV lens j):i=j:=by
 obtain ⟨a1,a2,a3,a4⟩:=codeV_in lens i _ hi rfl i1 i15;obtain ⟨b1,b2,b3,b4⟩:=codeV_in lens j _ hj rfl j1 j15;have ei':=(div_iff x _ _ (Nat.pow_pos (by decide))).1 ei
 have ej':=(div_iff x _ _ (Nat.pow_pos (by decide))).1 ej
 rcases Nat.lt_trichotomy lens[i] lens[j] with h | h | h
 ·have:=used_mono lens (show lens[i]≤lens[j]-1 by omega);omega
 ·have hv:codeV lens i=codeV lens j:=by rw [←ei,←ej,h]
  have gi:lens.getD i 0=lens[i]:=by rw [List.getD_eq_getElem?_getD,List.getElem?_eq_getElem hi];rfl
  have gj:lens.getD j 0=lens[j]:=by rw [List.getD_eq_getElem?_getD,List.getElem?_eq_getElem hj];rfl
  unfold codeV at hv;rw [gi,gj,if_neg (by omega),if_neg (by omega),h] at hv
  exact count_take_inj lens lens[j] i j hi hj h rfl (by omega)
 ·have:=used_mono lens (show lens[j]≤lens[i]-1 by omega);omega
theorem code_some (lens:List Nat) (x:Nat):∀L,L≤15→x<used lens L→∃i,∃h:i<lens.length,1≤lens[i]∧lens[i]≤L∧x/2^(15-lens[i])=codeV lens i:=by
 intro L
 induction L with
 | zero=>intro _ h;simp [used] at h
 | succ L ih=>
  intro hL h
  by_cases hx:x<used lens L
  ·obtain ⟨i,hi,a,b,c⟩:=ih (by omega) hx
   exact ⟨i,hi,a,by omega,c⟩
  ·have hu:=fst_used lens L hL;have hp:0<(2:Nat)^(15-(L+1)):=Nat.pow_pos (by decide)
   have hc:cn lens (L+1)=lens.count (L+1):=by unfold cn;rw [if_neg (by omega)]
   have h2:x<used lens L+cn lens (L+1)*2^(15-(L+1)):=h;rw [←hu,←Nat.add_mul] at h2;have q2:x/2^(15-(L+1))<fst lens (L+1)+cn lens (L+1):=(Nat.div_lt_iff_lt_mul hp).2 h2;have q1:fst lens (L+1)≤x/2^(15-(L+1)):=(Nat.le_div_iff_mul_le hp).2 (by omega)
   obtain ⟨i,hi,e,k⟩:=count_take_at lens (L+1) (x/2^(15-(L+1))-fst lens (L+1)) (by omega)
   refine ⟨i,hi,by omega,by omega,?_⟩
   have gi:lens.getD i 0=lens[i]:=by rw [List.getD_eq_getElem?_getD,List.getElem?_eq_getElem hi];rfl
   unfold codeV;rw [gi,e,if_neg (by omega),k]
   omega
theorem used_all (lens:List Nat) (h:∀l∈lens,l≤15):used lens 15=tot (fun l=>if l=0 then 0 else 2^(15-l)) lens:=by
 have key:∀L,used lens L=tot (fun l=>if l=0∨L<l then 0 else 2^(15-l)) lens:=by
  intro L
  induction L with
  | zero=>
   show 0=_;rw [tot_congr _ (fun _=>0) lens (fun l _=>by rw [if_pos (by omega)]),tot_const];omega
  | succ L ih=>
   show used lens L+cn lens (L+1)*2^(15-(L+1))=_
   have e:cn lens (L+1)*2^(15-(L+1))=tot (fun l=>if l=L+1 then 2^(15-(L+1)) else 0) lens:=by
    unfold cn;rw [if_neg (by omega)]
    clear ih h
    induction lens with
    | nil=>simp [tot]
    | cons a r ih=>
     simp only [tot,←ih,List.count_cons]
     by_cases e:a=L+1
     ·simp [e,Nat.add_mul];omega
     ·simp [e]
   rw [ih,e,←tot_add]
   apply tot_congr
   intro l _
   by_cases h1:l=L+1
   ·subst h1;rw [if_pos (by omega),if_pos rfl,if_neg (by omega)];omega
   ·rw [if_neg h1]
    by_cases h2:l=0∨L<l
    ·rw [if_pos h2,if_pos (by omega)]
    ·rw [if_neg h2,if_neg (by omega)];omega
 rw [key]
 apply tot_congr
 intro l hl
 have:=h l hl
 by_cases h2:l=0
 ·rw [if_pos (by omega),if_pos h2]
 ·rw [if_neg (by omega),if_neg h2]
def top (lens:List Nat) (k:Nat):Nat:=fst lens k+cn lens k
theorem top_used (lens:List Nat) (k:Nat) (hk:k≤15):top lens k*2^(15-k)=used lens k:=by
 match k,hk with
 | 0,_=>simp [top,fst,cn,used]
 | k+1,hk=>
  show (fst lens (k+1)+cn lens (k+1))*2^(15-(k+1))=used lens k+cn lens (k+1)*2^(15-(k+1));rw [Nat.add_mul,fst_used lens k hk]
theorem fst_top (lens:List Nat) (k:Nat):fst lens (k+1)=2*top lens k:=rfl
theorem codeV_lt (lens:List Nat) (i l:Nat) (hi:i<lens.length) (e:lens[i]=l) (h1:1≤l) (h15:l≤15) (hu:used lens 15≤32768):codeV lens i<2^l:=by
 obtain ⟨_,_,_,a⟩:=codeV_in lens i l hi e h1 h15;have b:=used_mono lens h15;have hp:(2:Nat)^l*2^(15-l)=32768:=by rw [←Nat.pow_add,show l+(15-l)=15 by omega]
 have:(codeV lens i+1)*2^(15-l)≤2^l*2^(15-l):=by omega
 exact Nat.le_of_mul_le_mul_right this (Nat.pow_pos (by decide))
theorem shift_div (c l k:Nat) (hk:k≤l) (hl:l≤15):c*2^(15-l)/2^(15-k)=c/2^(l-k):=by
 rw [show 15-k=(15-l)+(l-k) by omega,Nat.pow_add,Nat.mul_comm (2^(15-l)),Nat.mul_div_mul_right _ _ (Nat.pow_pos (by decide))]
theorem code_apart (lens:List Nat) (i j:Nat) (hi:i<lens.length) (hj:j<lens.length) (i1:1≤lens[i]) (hij:lens[i]<lens[j]) (j15:lens[j]≤15) :
  codeV lens j/2^(lens[j]-lens[i])≠codeV lens i:=by
 intro h;have h1:codeV lens j*2^(15-lens[j])/2^(15-lens[j])=codeV lens j:=Nat.mul_div_cancel _ (Nat.pow_pos (by decide))
 have h2:codeV lens j*2^(15-lens[j])/2^(15-lens[i])=codeV lens i:=by rw [shift_div _ _ _ (by omega) j15,h]
 have:=code_one lens i j _ hi hj i1 (by omega) (by omega) j15 h2 h1
 subst this;omega
theorem is_code (lens:List Nat) (k v:Nat) (hk:1≤k):(∃i,∃h:i<lens.length,lens[i]=k∧codeV lens i=v)↔fst lens k≤v∧v<top lens k:=by
 have hc:cn lens k=lens.count k:=by unfold cn;rw [if_neg (by omega)]
 constructor
 ·rintro ⟨i,hi,e,rfl⟩;have gi:lens.getD i 0=k:=by rw [List.getD_eq_getElem?_getD,List.getElem?_eq_getElem hi];exact e
  have:=count_take_lt lens k i hi e
  unfold codeV top;rw [gi,if_neg (by omega)]
  omega
 ·rintro ⟨h1,h2⟩;unfold top at h2;obtain ⟨i,hi,e,c⟩:=count_take_at lens k (v-fst lens k) (by omega)
  have gi:lens.getD i 0=k:=by rw [List.getD_eq_getElem?_getD,List.getElem?_eq_getElem hi];exact e
  refine ⟨i,hi,e,?_⟩;unfold codeV;rw [gi,if_neg (by omega),c]
  omega
theorem begins_code (lens:List Nat) (k v:Nat) (hk:k≤15) (h15:∀l∈lens,l≤15):(∃i,∃h:i<lens.length,k<lens[i]∧codeV lens i/2^(lens[i]-k)=v)↔top lens k≤v∧v*2^(15-k)<used lens 15:=by
 have ht:=top_used lens k hk;have hp:0<(2:Nat)^(15-k):=Nat.pow_pos (by decide)
 constructor
 ·rintro ⟨i,hi,hl,rfl⟩;have hl15:=h15 _ (List.getElem_mem hi);obtain ⟨_,_,a,b⟩:=codeV_in lens i _ hi rfl (by omega) hl15
  have hd:=shift_div (codeV lens i) lens[i] k (by omega) hl15
  have hx:=(div_iff _ _ _ hp).1 hd;have u1:=used_mono lens (show k≤lens[i]-1 by omega)
  have u2:=used_mono lens hl15;rw [Nat.add_mul] at b;have hs:0<(2:Nat)^(15-lens[i]):=Nat.pow_pos (by decide)
  refine ⟨?_,by omega⟩
  have h3:top lens k*2^(15-k)<(codeV lens i/2^(lens[i]-k)+1)*2^(15-k):=by omega
  have:=Nat.lt_of_mul_lt_mul_right h3
  omega
 ·rintro ⟨h1,h2⟩;obtain ⟨i,hi,a1,a2,a3⟩:=code_some lens (v*2^(15-k)) 15 (Nat.le_refl _) h2;obtain ⟨_,_,_,b⟩:=codeV_in lens i _ hi rfl a1 a2;have hx:=(div_iff _ _ _ (Nat.pow_pos (by decide))).1 a3
  have hl:k<lens[i]:=by
   apply Classical.byContradiction
   intro hn;have u:=used_mono lens (show lens[i]≤k by omega)
   have:top lens k*2^(15-k)≤v*2^(15-k):=Nat.mul_le_mul_right _ h1
   omega
  refine ⟨i,hi,hl,?_⟩;rw [←a3,Nat.div_div_eq_div_mul,←Nat.pow_add,show 15-lens[i]+(lens[i]-k)=15-k by omega,Nat.mul_div_cancel _ hp]
end Go.Proofs.YthbjllabgpaaaaaGreat.Huf
namespace Go.Proofs.YthbjllabgpaaaaaGreat.Huf
open Go.Lib (hid)
set_option maxHeartbeats 4000000
def bigN (l:List Bool):Nat:=l.foldl (fun n b=>2*n+b.toNat) 0
theorem bigN_snoc (l:List Bool) (b:Bool):bigN (l++[b])=2*bigN l+b.toNat:=by
 unfold bigN;rw [List.foldl_append];rfl
theorem snoc_cases (l:List Bool):l=[]∨∃l' b,l=l'++[b]:=by
 rcases List.eq_nil_or_concat l with h | ⟨l',b,h⟩
 ·exact .inl h
 ·exact .inr ⟨l',b,by rw [h,List.concat_eq_append]⟩
theorem begins_iff (v L:Nat) (hv:v<2^L):∀(n:Nat) (l:List Bool),l.length=n→n≤L→((∀i (h:i<l.length),decide (v/2^(L-1-i)%2=1)=l[i])↔v/2^(L-n)=bigN l):=by
 intro n
 induction n with
 | zero=>
  intro l h _;obtain rfl:=List.length_eq_zero_iff.1 h
  constructor
  ·intro _;rw [Nat.sub_zero,Nat.div_eq_of_lt hv];rfl
  ·intro _ i hi;simp at hi
 | succ n ih=>
  intro l h hL;rcases snoc_cases l with rfl | ⟨l',b,rfl⟩
  ·simp at h
  ·have hl':l'.length=n:=by simpa using h
   have i1:=ih l' hl' (by omega)
   have hq:v/2^(L-n)=v/2^(L-(n+1))/2:=by
    rw [Nat.div_div_eq_div_mul,show L-n=(L-(n+1))+1 by omega,Nat.pow_succ]
   rw [bigN_snoc];have hb:b.toNat<2:=b.toNat_lt
   constructor
   ·intro hall
    have h1:∀i (h:i<l'.length),decide (v/2^(L-1-i)%2=1)=l'[i]:=by
     intro i hi
     have:=hall i (by simp;omega)
     rw [List.getElem_append_left hi] at this;exact this
    have h2:=i1.1 h1;have h3:=hall n (by simp;omega)
    rw [List.getElem_append_right (by omega)] at h3
    simp only [hl',Nat.sub_self,List.getElem_singleton] at h3;rw [show L-1-n=L-(n+1) by omega] at h3
    rw [hq] at h2;generalize v/2^(L-(n+1))=q at *
    have h4:q%2=b.toNat:=by
     cases b with
     | true=>simpa using h3
     | false=>simp at h3;simp;omega
    omega
   ·intro he
    have h2:v/2^(L-n)=bigN l':=by
     rw [hq,he];omega
    have h1:=i1.2 h2;intro i hi
    by_cases hin:i<l'.length
    ·rw [List.getElem_append_left hin];exact h1 i hin
    ·have hi2:i=n:=by simp at hi;omega
     subst hi2;rw [List.getElem_append_right (by omega)]
     simp only [hl',Nat.sub_self,List.getElem_singleton];rw [show L-1-i=L-(i+1) by omega,he]
     cases b with
     | true=>simp
     | false=>simp
def findAt (lens:List Nat) (k v:Nat):Nat→Int→Int
 | 0,s=>s
 | n+1,s=>
  let i:=lens.length-(n+1)
  let l:=lens.getD i 0
  if l=0 then findAt lens k v n s
  else if l=k∧codeV lens i=v then (i:Int)
  else if k<l∧codeV lens i/2^(l-k)=v then findAt lens k v n (-1)
  else findAt lens k v n s
def findV (lens:List Nat) (k v:Nat):Int:=findAt lens k v lens.length (-2)
theorem findAt_spec (lens:List Nat) (h15:∀l∈lens,l≤15) (k v:Nat):∀(n:Nat) (s:Int),n≤lens.length →
  (∀i (h:i<lens.length),lens.length-n≤i→1≤lens[i]→lens[i]=k→codeV lens i=v→findAt lens k v n s=i) ∧
  ((∀i (h:i<lens.length),lens.length-n≤i→1≤lens[i]→¬(lens[i]=k∧codeV lens i=v)) →
   ((∃i,∃h:i<lens.length,lens.length-n≤i∧k<lens[i]∧codeV lens i/2^(lens[i]-k)=v)→findAt lens k v n s = -1) ∧
   ((¬∃i,∃h:i<lens.length,lens.length-n≤i∧k<lens[i]∧codeV lens i/2^(lens[i]-k)=v)→findAt lens k v n s=s)):=by
 intro n
 induction n with
 | zero=>
  intro s _;refine ⟨fun i h1 h2=>by omega,fun _=>⟨?_,fun _=>rfl⟩⟩
  rintro ⟨i,h1,h2,_⟩;omega
 | succ n ih=>
  intro s hn;obtain ⟨j,hj⟩:∃j,lens.length-(n+1)=j:=⟨_,rfl⟩;have hjl:j<lens.length:=by omega
  have hg:lens.getD j 0=lens[j]:=by rw [List.getD_eq_getElem?_getD,List.getElem?_eq_getElem hjl];rfl
  have hnext:lens.length-n=j+1:=by omega
  simp only [findAt,hj,hg]
  by_cases h0:lens[j]=0
  ·rw [if_pos h0];obtain ⟨i1,i2⟩:=ih s (by omega)
   rw [hnext] at i1 i2
   have hne:∀i (h:i<lens.length),j≤i→1≤lens[i]→j+1≤i:=by
    intro i h hi h1
    by_cases e:i=j
    ·subst e;omega
    ·omega
   refine ⟨fun i h hi h1=>i1 i h (hne i h hi h1) h1,fun hno=>?_⟩
   obtain ⟨i3,i4⟩:=i2 (fun i h hi h1=>hno i h (by omega) h1)
   refine ⟨fun ⟨i,h,a,b,c⟩=>i3 ⟨i,h,hne i h a (by omega),b,c⟩,fun hno2=>i4 fun ⟨i,h,a,b,c⟩=>hno2 ⟨i,h,by omega,b,c⟩⟩
  ·rw [if_neg h0]
   by_cases h1:lens[j]=k∧codeV lens j=v
   ·rw [if_pos h1];refine ⟨fun i h hi hp he hc=>?_,fun hno=>absurd h1 (hno j hjl (Nat.le_refl _) (by omega))⟩
    have hk:=h15 _ (List.getElem_mem hjl);have hp0:0<(2:Nat)^(15-k):=Nat.pow_pos (by decide)
    have:=code_one lens i j (v*2^(15-k)) h hjl hp (by omega) (by omega) hk (by rw [he,hc,Nat.mul_div_cancel _ hp0]) (by rw [h1.1,h1.2,Nat.mul_div_cancel _ hp0])
    rw [this]
   ·rw [if_neg h1]
    by_cases h2:k<lens[j]∧codeV lens j/2^(lens[j]-k)=v
    ·rw [if_pos h2];obtain ⟨i1,i2⟩:=ih (-1) (by omega)
     rw [hnext] at i1 i2;refine ⟨fun i h hi hp he hc=>i1 i h ?_ hp he hc,fun hno=>?_⟩
     ·by_cases e:i=j
      ·subst e;exact absurd ⟨he,hc⟩ h1
      ·omega
     ·obtain ⟨i3,i4⟩:=i2 (fun i h hi hp=>hno i h (by omega) hp)
      have hm:findAt lens k v n (-1) = -1:=by
       by_cases hx:∃i,∃h:i<lens.length,j+1≤i∧k<lens[i]∧codeV lens i/2^(lens[i]-k)=v
       ·exact i3 hx
       ·exact i4 hx
      exact ⟨fun _=>hm,fun hno2=>absurd ⟨j,hjl,Nat.le_refl _,h2.1,h2.2⟩ hno2⟩
    ·rw [if_neg h2];obtain ⟨i1,i2⟩:=ih s (by omega)
     rw [hnext] at i1 i2;refine ⟨fun i h hi hp he hc=>i1 i h ?_ hp he hc,fun hno=>?_⟩
     ·by_cases e:i=j
      ·subst e;exact absurd ⟨he,hc⟩ h1
      ·omega
     ·obtain ⟨i3,i4⟩:=i2 (fun i h hi hp=>hno i h (by omega) hp)
      refine ⟨fun ⟨i,h,a,b,c⟩=>i3 ⟨i,h,?_,b,c⟩,fun hno2=>i4 fun ⟨i,h,a,b,c⟩=>hno2 ⟨i,h,by omega,b,c⟩⟩
      by_cases e:i=j
      ·subst e;exact absurd ⟨b,c⟩ h2
      ·omega
theorem findV_code (lens:List Nat) (h15:∀l∈lens,l≤15) (i k v:Nat) (hi:i<lens.length) (hk:1≤k) (e:lens[i]=k) (c:codeV lens i=v):findV lens k v=i:=
 (findAt_spec lens h15 k v lens.length (-2) (Nat.le_refl _)).1 i hi (by omega) (by omega) e c
theorem findV_none (lens:List Nat) (h15:∀l∈lens,l≤15) (k v:Nat) (hk:k≤15) (hno:k=0∨¬(fst lens k≤v∧v<top lens k)) :
  findV lens k v=if top lens k≤v∧v*2^(15-k)<used lens 15 then -1 else -2:=by
 obtain ⟨_,h⟩:=findAt_spec lens h15 k v lens.length (-2) (Nat.le_refl _)
 have hn:∀i (h:i<lens.length),lens.length-lens.length≤i→1≤lens[i]→¬(lens[i]=k∧codeV lens i=v):=by
  rintro i hi _ h1 ⟨e,c⟩;rcases hno with h0 | h0
  ·omega
  ·exact h0 ((is_code lens k v (by omega)).1 ⟨i,hi,e,c⟩)
 obtain ⟨h1,h2⟩:=h hn;have hb:=begins_code lens k v hk h15
 by_cases hx:top lens k≤v∧v*2^(15-k)<used lens 15
 ·rw [if_pos hx];obtain ⟨i,hi,a,b⟩:=hb.2 hx;exact h1 ⟨i,hi,by omega,a,b⟩
 ·rw [if_neg hx];exact h2 fun ⟨i,hi,_,a,b⟩=>hx (hb.1 ⟨i,hi,a,b⟩)
end Go.Proofs.YthbjllabgpaaaaaGreat.Huf
namespace Go.Proofs.YthbjllabgpaaaaaGreat.Huf
open Go.Lib (hid)
set_option maxHeartbeats 4000000
open Go.ChangeShapes Go.WideShapes Go.ChangeAt Go.RowKit
set_option linter.unusedVariables false
theorem ret_int {k:IntKind} {a b:Int} (h:a=b):Ending.returned (Value.int k a)=Ending.returned (.int k b):=by rw [h]
theorem ret_bool {a b:Bool} (h:a=b):Ending.returned (Value.bool a)=Ending.returned (.bool b):=by rw [h]
def IsInts (w:World) (a:Option Addr) (L:List Int):Prop:=
 0<L.length→∃b off,a=some ⟨b,off,none⟩∧b<w.heap.size∧∀i (h:i<L.length),w.cell? ⟨b,off+i,none⟩=some (.int .i64 L[i])
theorem IsInts.below {w w':World} {a:Option Addr} {L:List Int} {n:Nat} (h:IsInts w a L) (k:Below n w w') (hn:w.heap.size≤n):IsInts w' a L:=by
 intro h0;obtain ⟨b,off,e,hb,hc⟩:=h h0;exact ⟨b,off,e,Nat.lt_of_lt_of_le hb k.size,fun i hi=>(k.cell (by show b<n;omega)).trans (hc i hi)⟩
def allIn (m:Int) (L:List Int):Bool:=L.all fun x=>decide (0≤x)&&decide (x≤m)
theorem allIn_take (m:Int) (L:List Int) (k:Nat) (h:k<L.length):allIn m (L.take (k+1))=(allIn m (L.take k)&&(decide (0≤L[k])&&decide (L[k]≤m))):=by
 unfold allIn;rw [List.take_succ_eq_append_getElem h,List.all_append]
 simp
theorem allIn_false (m:Int) (L:List Int) (k:Nat) (h:k<L.length) (hk:L[k]<0∨m<L[k]):allIn m L=false:=by
 unfold allIn;rw [List.all_eq_false];exact ⟨L[k],List.getElem_mem h,by simp;omega⟩
theorem within_any (a:Option Addr) (n cap:Nat) (L:List Int) (m:Int) (w:World) (hn:L.length=n) (h:IsInts w a L) (hl:n≤1000000) :
  Calls Tryz.prog 166 #[.slice a n cap,.int .i64 m] w fun e w'=>e=.returned (.bool (allIn m L))∧w=w':=by
 have H:=hid h;clear h
 go_enter Tryz.func166,Tryz.ntmps166
 go_wp2_with fail
 go_loop [9] (fun i=>∃k:Nat,k≤n∧i=.int .i64 k∧allIn m (L.take k)=true) (fun i=>n-(intOf i).toNat)
 case atStart=>exact ⟨0,Nat.zero_le _,rfl,rfl⟩
 case round=>
  obtain ⟨k,hk,rfl,hin⟩:=hrel;have HIN:=hid hin;clear hin
  by_cases hlt:k<n
  ·obtain ⟨b,off,rfl,hb,hc⟩:=H.out (by omega)
   have hck:=hc k (by omega)
   have hT:=hid (allIn_take m L k (by omega))
   have hF:=hid (allIn_false m L k (by omega))
   clear hc;obtain ⟨x,hx⟩:∃x,L[k]=x:=⟨_,rfl⟩;rw [hx] at hck hT hF;clear hx
   by_cases h1:x<0
   ·go_wp2_with fail
    go_ret;exact ⟨ret_bool (hF.out (.inl h1)).symm,rfl⟩
   ·by_cases h2:m<x
    ·go_wp2_with fail
     go_ret;exact ⟨ret_bool (hF.out (.inr h2)).symm,rfl⟩
    ·go_wp2_with fail
     refine ⟨⟨k+1,by omega,by go_num,?_⟩,?_⟩
     ·rw [hT.out,HIN.out];simp;omega
     ·simp [intOf];omega
  ·obtain rfl:k=n:=by omega
   have e:L.take k=L:=List.take_of_length_le (by omega)
   rw [e] at HIN
   go_wp2_with fail
   go_ret;exact ⟨ret_bool HIN.out.symm,rfl⟩
theorem room_any (k:Nat) (hk:k≤15) (w:World) :
  Calls Tryz.prog 184 #[.int .i64 k] w fun e w'=>e=.returned (.int .i64 (2^(15-k):Nat))∧w=w':=by
 go_enter Tryz.func184,Tryz.ntmps184
 go_wp2
 go_ret;refine ⟨ret_int ?_,rfl⟩
 have:∀k:Nat,k≤15→(32768/2^k:Int)=((2^(15-k):Nat):Int):=by decide
 exact this k hk
def row16 (f:Nat→Nat):Array Value:=((List.range 16).map fun j=>Value.int .i64 (f j:Nat)).toArray
def At16 (w:World) (b:Nat) (f:Nat→Nat):Prop:=w.heap[b]?=some (.cells (row16 f) 214 (0,0))
theorem row16_get (f:Nat→Nat) (j:Nat) (hj:j<16):(row16 f)[j]?=some (.int .i64 (f j:Nat)):=by
 unfold row16;simp [hj]
theorem row16_set (f:Nat→Nat) (j:Nat) (v:Nat):(row16 f).setIfInBounds j (.int .i64 (v:Nat))=row16 fun i=>if i=j then v else f i:=by
 unfold row16
 apply Array.ext_getElem?
 intro i
 by_cases hi:i<16
 ·by_cases hij:i=j
  ·subst hij;simp [hi]
  ·simp [hi,hij,Ne.symm hij]
 ·simp [hi]
theorem At16.cell {w:World} {b:Nat} {f:Nat→Nat} (h:At16 w b f) (j:Nat) (hj:j<16):w.cell? ⟨b,j,none⟩=some (.int .i64 (f j:Nat)):=by
 unfold At16 at h;rw [cell_of_row w b j _ _ _ h,row16_get f j hj]
theorem At16.frozen {w:World} {b:Nat} {f:Nat→Nat} (h:At16 w b f) (j:Nat):w.frozen? ⟨b,j,none⟩=false:=frozen_of_row w b j _ _ h
theorem At16.draws {w:World} {b:Nat} {f:Nat→Nat} (h:At16 w b f) (n:Nat):At16 (w.drewN n) b f:=h
theorem At16.set {w:World} {b:Nat} {f:Nat→Nat} (h:At16 w b f) (j v:Nat):At16 (w.setCell ⟨b,j,none⟩ (.int .i64 (v:Nat))) b fun i=>if i=j then v else f i:=by
 unfold At16 at *;rw [heap_setCell_same w b j _ _ _ h,row16_set]
theorem At16.other {w:World} {b c j:Nat} {v:Value} {f:Nat→Nat} (h:At16 w b f) (hc:b≠c):At16 (w.setCell ⟨c,j,none⟩ v) b f:=by
 unfold At16 at *;rw [heap_setCell_other w ⟨c,j,none⟩ b v hc];exact h
theorem row16_one (f:Nat→Nat):(row16 f).all (·.oneCell')=true:=by
 rw [Array.all_eq_true_iff_forall_mem];intro v hv;unfold row16 at hv;simp only [List.mem_toArray,List.mem_map] at hv;obtain ⟨j,_,rfl⟩:=hv
 rfl
theorem row16_size (f:Nat→Nat):(row16 f).size=16:=by simp [row16]
theorem info16:(Tryz.prog.info? 214).map (·.size)=some 16:=by kernel_rfl
theorem At16.setRow {w:World} {b:Nat} {f:Nat→Nat} (h:At16 w b f) (f':Nat→Nat):At16 (w.setRow b (row16 f')) b f':=by
 unfold At16 at *;exact setRow_heap w b _ _ _ _ h
theorem below_setRow {n b:Nat} {w w':World} (h:Below n w w') (hb:n≤b) (cs:Array Value):Below n w (w'.setRow b cs):=
 ⟨h.os,h.tape,h.output,by rw [setRow_size];exact h.size,fun k hk=>by rw [setRow_other w' b k cs (by omega)];exact h.block k hk⟩
theorem wpl_load16 {ops:Array Oper} {rest:List Oper} {o:Oper} {a:Act} {w:World} {Q:Exit→Act→World→Prop} (hgd:o.guard=none) (x:Operand) (ho:o.op=.load 214 x)
  (g:Nat) (hx:a.eval x=.pointer (some ⟨g,0,none⟩)) (f:Nat→Nat) (hg:At16 w g f) (h:wpList Tryz.prog ops Q rest (a.put o.dst (.agg (row16 f))) w):wpList Tryz.prog ops Q (o::rest) a w:=
 wpList_load_row hgd 214 x ho g hx _ _ _ _ hg Tryz.underlying214 rfl (by rw [row16_size];exact info16) h
theorem wpl_store16 {ops:Array Oper} {rest:List Oper} {o:Oper} {a:Act} {w:World} {Q:Exit→Act→World→Prop} (hgd:o.guard=none) (x y:Operand) (ho:o.op=.store 214 x y)
  (g:Nat) (f:Nat→Nat) (hx:a.eval x=.pointer (some ⟨g,0,none⟩)) (hy:a.eval y=.agg (row16 f)) (f0:Nat→Nat) (hg:At16 w g f0)
  (h:wpList Tryz.prog ops Q rest (a.put o.dst undef) (w.setRow g (row16 f))):wpList Tryz.prog ops Q (o::rest) a w:=
 wpList_store_row hgd 214 x y ho g _ hx hy _ _ hg (by rw [row16_size];exact info16) (by rw [row16_size,row16_size]) (row16_one f) h
theorem results16 {fn:Func} {p:Tmp} (h:fn.results=#[.cell p 214]) (tmps:Array Value) (w:World) (g:Nat) (f:Nat→Nat) (hp:tmps.getD p undef=.pointer (some ⟨g,0,none⟩)) (hg:At16 w g f) :
  (results fn tmps).run Tryz.prog w=.ok (.agg (row16 f)) w:=
 results_cell_row h tmps w g _ _ _ _ hp hg Tryz.underlying214 rfl (by rw [row16_size];exact info16)
theorem tally_any (a:Option Addr) (n cap:Nat) (L:List Nat) (w:World) (hn:L.length=n) (h:IsInts w a (L.map fun (x:Nat)=>(x:Int))) (hl:n≤1000000) (h15:∀x∈L,x≤15) :
  Calls Tryz.prog 176 #[.slice a n cap] w fun e w'=>e=.returned (.agg (row16 (cn L)))∧Below w.heap.size w w':=by
 have H:=hid h;have H15:=hid h15;clear h h15
 go_enter Tryz.func176,Tryz.ntmps176
 go_wp2_with fail
 go_loopw [8] (fun i wr=>∃k:Nat,k≤n∧i=.int .i64 k∧At16 wr (w.heap.size+1) (fun j=>(L.take k).count j)∧At16 wr w.heap.size (fun _=>0)∧Below w.heap.size w wr) (fun i _=>n-(intOf i).toNat)
 case atStart=>
  refine ⟨0,Nat.zero_le _,rfl,?_,?_,((Below.refl _ _).alloc (Nat.le_refl _) _).alloc (by simp) _⟩
  ·have:=heap_alloc_new (w.alloc (.cells (row16 fun _=>0) 214)) (.cells (row16 fun _=>0) 214)
   rw [World.size_alloc] at this;exact this
  ·exact heap_alloc2_old w _ _
 case round=>
  obtain ⟨k,hk,rfl,hat,hres,hbel⟩:=hrel
  by_cases hlt:k<n
  ·obtain ⟨b,off,rfl,hb,hc⟩:=H.out (by simp;omega)
   have hck:=hc k (by simp;omega)
   have hx15:=H15.out L[k] (List.getElem_mem (by omega))
   rw [List.getElem_map] at hck
   have HT:Hid (∀j,(L.take (k+1)).count j=if j=L[k] then (L.take k).count L[k]+1 else (L.take k).count j):=fun j=>by
    rw [List.take_succ_eq_append_getElem (by omega),List.count_append,List.count_singleton]
    by_cases e:j=L[k]
    ·subst e;simp
    ·simp [e,Ne.symm e]
   clear hc;have hcw:wr.cell? ⟨b,off+k,none⟩=some (.int .i64 (L[k]:Nat)):=(hbel.cell hb).trans hck;clear hck;generalize L[k]=x at *;have hcx:=hat.cell x (by omega)
   have hfx:=hat.frozen x;have hcl:(L.take k).count x≤1000000:=Nat.le_trans List.count_le_length (by simp;omega)
   have HA:=hid (hat.set x ((L.take k).count x+1));have HR:=hid (hres.other (j:=x) (v:=.int .i64 (((L.take k).count x+1:Nat):Int)) (Nat.ne_of_lt (Nat.lt_succ_self w.heap.size)));have HB:=hid (hbel.setCell (p:=⟨w.heap.size+1,x,none⟩) (Nat.le_succ _) (.int .i64 (((L.take k).count x+1:Nat):Int)));clear hat hres hbel;generalize (L.take k).count x=c at *
   go_wp2_with fail
   refine ⟨⟨k+1,by omega,by go_num,?_,HR.out,HB.out⟩,?_⟩
   ·have:=HA.out
    rw [←funext HT.out] at this;exact this
   ·simp [intOf];omega
  ·obtain rfl:k=n:=by omega
   have e:L.take k=L:=List.take_of_length_le (by omega)
   rw [e] at hat;have hf0:=hat.frozen 0;have hc0:=hat.cell 0 (by decide)
   have HA:=hid (hat.set 0 0);have HR:=hid (hres.other (c:=w.heap.size+1) (j:=0) (v:=.int .i64 ((0:Nat):Int)) (Nat.ne_of_lt (Nat.lt_succ_self w.heap.size)));have HB:=hid (hbel.setCell (p:=⟨w.heap.size+1,0,none⟩) (Nat.le_succ _) (.int .i64 ((0:Nat):Int)));clear hat hres hbel
   go_wp2_with (first | refine wpl_load16 rfl _ rfl _ rfl _ HA.out ?_ | refine wpl_store16 rfl _ _ rfl _ _ rfl rfl _ HR.out ?_)
   refine bodyPost_ret (results16 rfl _ _ _ _ rfl (HR.out.setRow _)) rfl ⟨?_,below_setRow HB.out (Nat.le_refl _) _⟩
   rfl
theorem cn_le (L:List Nat) (j:Nat):cn L j≤L.length:=by
 unfold cn
 split
 ·omega
 ·exact List.count_le_length
theorem fst_le (L:List Nat):∀j,fst L j≤(2^j-1)*(2*L.length):=by
 intro j
 induction j with
 | zero=>exact Nat.zero_le _
 | succ j ih=>
  have h1:=cn_le L j
  have h2:(2^(j+1)-1)*(2*L.length)=2*((2^j-1)*(2*L.length))+2*L.length:=by
   rw [Nat.sub_mul,Nat.sub_mul,Nat.pow_succ,Nat.one_mul]
   have:2*L.length≤2^j*(2*L.length):=Nat.le_mul_of_pos_left _ (Nat.pow_pos (by decide))
   rw [Nat.mul_comm (2^j) 2,Nat.mul_assoc];omega
  show 2*(fst L j+cn L j)≤_;omega
theorem fst_small (L:List Nat) (j:Nat) (hj:j≤15) (hl:L.length≤1000000):fst L j≤65534000000:=by
 refine Nat.le_trans (fst_le L j) ?_;have h1:(2:Nat)^j≤2^15:=Nat.pow_le_pow_right (by decide) hj
 exact Nat.le_trans (Nat.mul_le_mul (show 2^j-1≤32767 by omega) (show 2*L.length≤2000000 by omega)) (by decide)
theorem alloc3 (w:World) (A B C:Obj):(((w.alloc A).alloc B).alloc C).heap[w.heap.size]?=some A∧(((w.alloc A).alloc B).alloc C).heap[w.heap.size+1]?=some B∧(((w.alloc A).alloc B).alloc C).heap[w.heap.size+2]?=some C:=by
 refine ⟨?_,?_,?_⟩
 ·rw [heap_alloc_old _ _ (by simp;omega)];exact heap_alloc2_old w A B
 ·rw [heap_alloc_old _ _ (by simp)];exact heap_alloc2_new w A B
 ·have:=heap_alloc_new ((w.alloc A).alloc B) C
  rw [World.size_alloc,World.size_alloc] at this;exact this
theorem row16_congr {f g:Nat→Nat} (h:∀j,j<16→f j=g j):row16 f=row16 g:=by
 unfold row16
 congr 1
 apply List.map_congr_left
 intro j hj;rw [h j (by simpa using hj)]
theorem firsts_any (L:List Nat) (w:World) (hl:L.length≤1000000) :
  Calls Tryz.prog 175 #[.agg (row16 (cn L))] w fun e w'=>e=.returned (.agg (row16 (fst L)))∧Below w.heap.size w w':=by
 go_enter Tryz.func175,Tryz.ntmps175
 go_wp2_with fail
 go_loopw [5] (fun i wr=>∃k:Nat,k≤15∧i=.int .i64 k∧At16 wr (w.heap.size+2) (fun j=>if j≤k then fst L j else 0)∧At16 wr w.heap.size (cn L)∧At16 wr (w.heap.size+1) (fun _=>0)∧Below w.heap.size w wr) (fun i _=>15-(intOf i).toNat)
 case atStart=>
  obtain ⟨g0,g1,g2⟩:=alloc3 w (.cells (row16 (cn L)) 214) (.cells (row16 fun _=>0) 214) (.cells (row16 fun _=>0) 214)
  refine ⟨0,Nat.zero_le _,rfl,?_,g0,g1,(((Below.refl _ _).alloc (Nat.le_refl _) _).alloc (by simp) _).alloc (by simp;omega) _⟩
  unfold At16
  rw [row16_congr (f:=fun j=>if j≤0 then fst L j else 0) (g:=fun _=>0) (fun j _=>by
   show (if j≤0 then fst L j else 0)=0
   by_cases h:j≤0
   ·rw [if_pos h,show j=0 by omega];rfl
   ·rw [if_neg h])]
  exact g2
 case round=>
  obtain ⟨k,hk,rfl,hat,hbox,hres,hbel⟩:=hrel
  by_cases hlt:k<15
  ·have c1:=hat.cell k (by omega)
   have c2:=hbox.cell k (by omega)
   have c3:=hat.cell (k+1) (by omega)
   have f3:=hat.frozen (k+1);rw [if_pos (Nat.le_refl _)] at c1;have h1:=fst_small L k (by omega) hl
   have h2:=cn_le L k;have HF:Hid (fst L (k+1)=2*(fst L k+cn L k)):=rfl;have HAT:=hid hat;have HBX:=hid hbox;have HRS:=hid hres;have HBL:=hid hbel;clear hat hbox hres hbel;generalize fst L k=x at *;generalize cn L k=y at *;have hw1:IntKind.i64.wrap ((x:Int)+y)=(x:Int)+y:=IntWalk.i64_in _ (by omega)
   have hw2:wrap64 (((x:Int)+y)*2)=((x:Int)+y)*2:=IntWalk.wrap64_in _ (by omega)
   obtain ⟨z,hz⟩:∃z,2*(x+y)=z:=⟨_,rfl⟩;have HW:Hid (((x:Int)+y)*2=(z:Int)):=by show ((x:Int)+y)*2=(z:Int);omega
   rw [hz] at HF;clear hz
   go_wp2_with fail
   go_region
   rw [HW.out];have HA2:=hid ((HAT.out.set (k+1) z).draws 1);have HB2:=hid ((HBX.out.other (c:=w.heap.size+2) (j:=k+1) (v:=.int .i64 (z:Int)) (by omega)).draws 1)
   have HR2:=hid ((HRS.out.other (c:=w.heap.size+2) (j:=k+1) (v:=.int .i64 (z:Int)) (by omega)).draws 1)
   have HL2:=hid ((HBL.out.setCell (p:=⟨w.heap.size+2,k+1,none⟩) (by show w.heap.size≤w.heap.size+2;omega) (.int .i64 (z:Int))).drew)
   clear c1 c2 c3 f3 HAT HBX HRS HBL hw1 hw2
   go_wp2_with fail
   refine ⟨⟨k+1,by omega,by go_num,?_,HB2.out,HR2.out,HL2.out⟩,?_⟩
   ·have e:(fun j=>if j≤k+1 then fst L j else 0)=(fun i=>if i=k+1 then z else if i≤k then fst L i else 0):=by
     funext j
     by_cases h:j=k+1
     ·rw [if_pos h,h,if_pos (Nat.le_refl _),HF.out]
     ·rw [if_neg h]
      by_cases h2:j≤k
      ·rw [if_pos h2,if_pos (by omega)]
      ·rw [if_neg h2,if_neg (by omega)]
    rw [e];exact HA2.out
   ·simp [intOf];omega
  ·obtain rfl:k=15:=by omega
   have HA:=hid hat;have HR:=hid hres;have HB:=hid hbel;clear hat hres hbel hbox
   go_wp2_with (first | refine wpl_load16 rfl _ rfl _ rfl _ HA.out ?_ | refine wpl_store16 rfl _ _ rfl _ _ rfl rfl _ HR.out ?_)
   refine bodyPost_ret (results16 rfl _ _ _ _ rfl (HR.out.setRow _)) rfl ⟨?_,below_setRow HB.out (Nat.le_succ _) _⟩;rw [row16_congr (g:=fst L) (fun j hj=>by rw [if_pos (by omega)])]
theorem run_index16 (f:Nat→Nat) (k:Nat) (hk:k<16) (w:World):(Instr.index 214 (.agg (row16 f)) (.int .i64 k)).run Tryz.prog w=.ok (.int .i64 (f k:Nat)) w:=by
 have h1:(0:Int)≤(k:Int)∧(k:Int)<((16:Nat):Int):=by omega
 have hs:(sizeOf 3).run Tryz.prog w=.ok 1 w:=by kernel_rfl
 have hg:=row16_get f k hk;simp only [Instr.index,asIntOf,Sem.run_bind,Sem.run_pure,Result.andThen_ok,run_underlying Tryz.underlying214];rw [if_pos h1];simp [part,hs,hg,go_sem]
theorem wpl_index16 {ops:Array Oper} {rest:List Oper} {o:Oper} {a:Act} {w:World} {Q:Exit→Act→World→Prop} (hgd:o.guard=none) (x y:Operand) (ho:o.op=.index 214 x y)
  (f:Nat→Nat) (k:Nat) (hx:a.eval x=.agg (row16 f)) (hy:a.eval y=.int .i64 k) (hk:k<16) (h:wpList Tryz.prog ops Q rest (a.put o.dst (.int .i64 (f k:Nat))) w):wpList Tryz.prog ops Q (o::rest) a w:=by
 refine wpList_plain hgd fun K hK=>?_
 unfold Oper.wp execOp;simp only [ho,hx,hy,Sem.run_bind,run_index16 f k hk,Result.andThen_ok,Sem.run_pure];exact hK _ _ h
end Go.Proofs.YthbjllabgpaaaaaGreat.Huf
namespace Go.Proofs.YthbjllabgpaaaaaGreat.Huf
open Go.Lib (hid)
set_option maxHeartbeats 4000000
open Go.ChangeShapes Go.WideShapes Go.ChangeAt Go.RowKit
set_option linter.unusedVariables false
def nats (L:List Int):List Nat:=L.map Int.toNat
def fine (L:List Int):Bool:=decide (L.length≤320)&&allIn 15 L&&decide (used (nats L) 15≤32768)
def chk (L:List Int):Value:=if fine L then .tuple #[.int .i64 (32768-used (nats L) 15:Nat),.int .i64 0] else .tuple #[.int .i64 0,.int .i64 50]
theorem allIn_iff {m:Int} {L:List Int}:allIn m L=true↔∀x∈L,0≤x∧x≤m:=by
 unfold allIn;rw [List.all_eq_true]
 simp
theorem nats_cast {L:List Int} {m:Int} (h:allIn m L=true):L=(nats L).map fun (x:Nat)=>(x:Int):=by
 unfold nats;rw [List.map_map];have h2:=allIn_iff.1 h
 conv=>lhs;rw [←List.map_id L]
 apply List.map_congr_left
 intro x hx
 have:=(h2 x hx).1
 simp;omega
theorem nats_le {L:List Int} (h:allIn 15 L=true):∀x∈nats L,x≤15:=by
 intro x hx;obtain ⟨y,hy,rfl⟩:=List.mem_map.1 hx
 have:=allIn_iff.1 h y hy
 omega
theorem nats_length (L:List Int):(nats L).length=L.length:=by simp [nats]
theorem used_le (N:List Nat):∀l,l≤15→used N l≤l*(N.length*32768):=by
 intro l
 induction l with
 | zero=>intro _;exact Nat.zero_le _
 | succ l ih=>
  intro h;have h1:=ih (by omega)
  have h2:cn N (l+1)*2^(15-(l+1))≤N.length*32768:=Nat.mul_le_mul (cn_le N _) (by
   have:(2:Nat)^(15-(l+1))≤2^15:=Nat.pow_le_pow_right (by decide) (by omega)
   exact Nat.le_trans this (by decide))
  show used N l+cn N (l+1)*2^(15-(l+1))≤_;rw [Nat.add_mul,Nat.one_mul];omega
def usedB (N:List Nat):Nat→Nat
 | 0=>0
 | k+1=>used N k
theorem usedB_succ (N:List Nat) (k:Nat):usedB N (k+1)=usedB N k+cn N k*2^(15-k):=by
 cases k with
 | zero=>simp [usedB,used,cn]
 | succ k=>rfl
theorem usedB_le (N:List Nat) (k:Nat) (hk:k≤16) (hl:N.length≤320):usedB N k≤157286400:=by
 cases k with
 | zero=>exact Nat.zero_le _
 | succ k=>
  have h1:=used_le N k (by omega)
  have h2:k*(N.length*32768)≤15*(320*32768):=Nat.mul_le_mul (by omega) (Nat.mul_le_mul_right _ hl)
  exact Nat.le_trans h1 h2
theorem check_bad (a:Option Addr) (n cap:Nat) (L:List Int) (w:World) (hn:L.length=n) (h:IsInts w a L) (hl:n≤1000000) (hb:320<n∨allIn 15 L=false) :
  Calls Tryz.prog 174 #[.slice a n cap] w fun e w'=>e=.returned (.tuple #[.int .i64 0,.int .i64 50])∧w=w':=by
 have C1:=hid (within_any a n cap L 15 w hn h hl);clear h
 by_cases h1:320<n
 ·clear hb;have d1:decide (320<n)=true:=decide_eq_true h1;have d2:decide (320<(n:Int))=true:=decide_eq_true (by omega)
  go_enter Tryz.func174,Tryz.ntmps174
  go_wp2_with fail
  go_ret2;exact ⟨rfl,rfl⟩
 ·have h2:allIn 15 L=false:=by
   rcases hb with h | h;· omega
   ·exact h
  rw [h2] at C1;clear hb;have d1:decide (320<n)=false:=decide_eq_false h1;have d2:decide (320<(n:Int))=false:=decide_eq_false (by omega)
  go_enter Tryz.func174,Tryz.ntmps174
  go_wp2_with fail
  refine C1.out.mono ?_;rintro r w' ⟨rfl,rfl⟩
  go_wp2_with fail
  go_ret2;exact ⟨rfl,rfl⟩
theorem check_good (a:Option Addr) (n cap:Nat) (L:List Int) (w:World) (hn:L.length=n) (h:IsInts w a L) (hl:n≤320) (hb:allIn 15 L=true) :
  Calls Tryz.prog 174 #[.slice a n cap] w fun e w'=>e=.returned (chk L)∧Below w.heap.size w w':=by
 have C1:=hid (within_any a n cap L 15 w hn h (by omega))
 have HF:Hid (fine L=decide (used (nats L) 15≤32768)):=by
  show fine L=_;unfold fine;rw [hb,decide_eq_true (by omega)];simp
 have HC:Hid (chk L=if used (nats L) 15≤32768 then .tuple #[.int .i64 (32768-used (nats L) 15:Nat),.int .i64 0] else .tuple #[.int .i64 0,.int .i64 50]):=by
  show chk L=_;unfold chk;rw [HF.out];simp
 rw [hb] at C1;have hN:(nats L).length=n:=by rw [nats_length];exact hn
 have C2:=hid (tally_any a n cap (nats L) w hN (by rw [←nats_cast hb];exact h) (by omega) (nats_le hb))
 generalize nats L=N at *;clear h hb HF;have hcn:=cn_le N;have hus:=fun k (hk:k≤16)=>usedB_le N k hk (by omega)
 have hst:=usedB_succ N;have HCN:=hid hcn;have HUS:=hid hus;have HST:=hid hst;clear hcn hus hst
 go_enter Tryz.func174,Tryz.ntmps174
 go_wp2_with fail
 refine C1.out.mono ?_;rintro r w' ⟨rfl,rfl⟩
 go_wp2_with fail
 refine C2.out.mono ?_;rintro r w1 ⟨rfl,b1⟩
 go_wp2_with fail
 go_loop [4,17] (fun x i=>∃k:Nat,k≤16∧i=.int .i64 k∧x=.int .i64 (32768-(usedB N k:Nat))) (fun _ i=>16-(intOf i).toNat)
 case atStart=>exact ⟨0,Nat.zero_le _,rfl,rfl⟩
 case round=>
  obtain ⟨k,hk,rfl,rfl⟩:=hrel;have u0:=HUS.out k hk
  by_cases hlt:k<16
  ·have hg:=row16_get (cn N) k hlt;have u1:=HUS.out (k+1) (by omega)
   have e1:=HST.out k;have C3:=hid (room_any k (by omega) w1)
   have hc:=HCN.out k;generalize usedB N k=U at *;obtain ⟨U1,hU1⟩:∃U1,usedB N (k+1)=U1:=⟨_,rfl⟩;rw [hU1] at u1 e1;have HU1:=hid hU1;clear hU1;have hr:2^(15-k)≤32768:=Nat.le_trans (Nat.pow_le_pow_right (by decide) (show 15-k≤15 by omega)) (by decide)
   generalize (2:Nat)^(15-k)=R at *;obtain ⟨c,hcc⟩:∃c,cn N k=c:=⟨_,rfl⟩;rw [hcc] at e1 hc;have HCC:=hid hcc;clear hcc
   have HE:Hid ((32768:Int)-U-c*R=32768-U1):=by
    show (32768:Int)-U-c*R=32768-U1;rw [e1];push_cast;omega
   obtain ⟨m,hm⟩:∃m,c*R=m:=⟨_,rfl⟩;have hmi:(c:Int)*R=m:=by rw [←hm];push_cast;rfl
   have hw1:wrap64 (m:Int)=m:=IntWalk.wrap64_in _ (by omega)
   have hw2:wrap64 (32768-(U:Int)-m)=32768-(U:Int)-m:=IntWalk.wrap64_in _ (by omega)
   rw [hmi] at HE;have HWW:Hid (wrap64 (32768-(U1:Int))=32768-(U1:Int)):=IntWalk.wrap64_in _ (by omega)
   clear e1 hm u0 u1 hr hc
   go_wp2_with (refine wpl_index16 rfl _ _ rfl (cn N) k rfl rfl hlt ?_;rw [HCC.out])
   refine C3.out.mono ?_;rintro r w' ⟨rfl,rfl⟩
   go_wp2_with fail
   refine ⟨⟨k+1,by omega,by go_num,?_⟩,?_⟩
   ·rw [HE.out,HWW.out,HU1.out]
   ·simp [intOf];omega
  ·obtain rfl:k=16:=by omega
   have u15:usedB N 16=used N 15:=rfl;rw [u15] at u0 ⊢
   by_cases hov:used N 15≤32768
   ·have HX:Hid ((32768:Int)-(used N 15:Nat)=((32768-used N 15:Nat):Int)):=by
     show (32768:Int)-(used N 15:Nat)=_;omega
    have HC2:Hid (chk L=.tuple #[.int .i64 (32768-used N 15:Nat),.int .i64 0]):=by
     show chk L=_;rw [HC.out,if_pos hov]
    clear HC u0 u15;have hlt0:¬((32768:Int)-(used N 15:Nat)<0):=by omega
    generalize used N 15=U at *
    go_wp2_with fail
    go_ret2;rw [HC2.out,HX.out];exact ⟨rfl,b1⟩
   ·have HC2:Hid (chk L=.tuple #[.int .i64 0,.int .i64 50]):=by
     show chk L=_;rw [HC.out,if_neg hov]
    clear HC u0 u15;have hlt0:(32768:Int)-(used N 15:Nat)<0:=by omega
    generalize used N 15=U at *
    go_wp2_with fail
    go_ret2;rw [HC2.out];exact ⟨rfl,b1⟩
theorem chk_bad {L:List Int} (h:320<L.length∨allIn 15 L=false):chk L=.tuple #[.int .i64 0,.int .i64 50]:=by
 have:fine L=false:=by
  unfold fine;rcases h with h | h
  ·rw [decide_eq_false (by omega)];rfl
  ·rw [h];simp
 unfold chk;rw [this];rfl
theorem check_any (a:Option Addr) (n cap:Nat) (L:List Int) (w:World) (hn:L.length=n) (h:IsInts w a L) (hl:n≤1000000) :
  Calls Tryz.prog 174 #[.slice a n cap] w fun e w'=>e=.returned (chk L)∧Below w.heap.size w w':=by
 by_cases hb:320<n∨allIn 15 L=false
 ·rw [chk_bad (by rw [hn];exact hb)]
  refine (check_bad a n cap L w hn h hl hb).mono ?_;rintro e w' ⟨he,rfl⟩;exact ⟨he,Below.refl _ _⟩
 ·refine check_good a n cap L w hn h (by omega) ?_
  cases hx:allIn 15 L with
  | true=>rfl
  | false=>exact absurd (Or.inr hx) hb
end Go.Proofs.YthbjllabgpaaaaaGreat.Huf
namespace Go.Proofs.YthbjllabgpaaaaaGreat.Huf
open Go.Lib (hid)
set_option maxHeartbeats 4000000
open Go.ChangeShapes Go.WideShapes Go.ChangeAt Go.RowKit
set_option linter.unusedVariables false
def rowC (n:Nat) (F G:Nat→Nat):List Value:=(List.range (n*2)).map fun j=>if j%2=0 then Value.int .i64 (F (j/2):Nat) else Value.int .i64 (G (j/2):Nat)
theorem rowC_get (n:Nat) (F G:Nat→Nat) (i:Nat) (h:i<n):(rowC n F G)[i*2]?=some (.int .i64 (F i:Nat))∧(rowC n F G)[i*2+1]?=some (.int .i64 (G i:Nat)):=by
 unfold rowC
 constructor
 ·rw [List.getElem?_map,List.getElem?_range (by omega)]
  simp
 ·rw [List.getElem?_map,List.getElem?_range (by omega)]
  simp only [Option.map_some];rw [if_neg (by omega),show (i*2+1)/2=i by omega]
theorem rowC_set (n:Nat) (F G F' G':Nat→Nat) (i x y:Nat) (hx:F' i=x) (hy:G' i=y) (hF:∀j,j<n→j≠i→F' j=F j) (hG:∀j,j<n→j≠i→G' j=G j) :
  ((rowC n F G).set (i*2) (.int .i64 (x:Nat))).set (i*2+1) (.int .i64 (y:Nat))=rowC n F' G':=by
 apply List.ext_getElem?
 intro j;unfold rowC;rw [List.getElem?_set,List.getElem?_set];simp only [List.length_set,List.length_map,List.length_range,List.getElem?_map]
 by_cases hj:j<n*2
 ·rw [List.getElem?_range hj];simp only [Option.map_some]
  by_cases h1:i*2+1=j
  ·subst h1;rw [if_pos rfl,if_pos hj,if_neg (by omega),show (i*2+1)/2=i by omega,hy]
  ·rw [if_neg h1]
   by_cases h2:i*2=j
   ·subst h2;rw [if_pos rfl,if_pos (by omega),if_pos (by omega),show i*2/2=i by omega,hx]
   ·rw [if_neg h2,hF _ (by omega) (by omega),hG _ (by omega) (by omega)]
 ·have e:(List.range (n*2))[j]?=none:=by rw [List.getElem?_eq_none];simp;omega
  rw [e];simp only [Option.map_none]
  by_cases h1:i*2+1=j
  ·rw [if_pos h1,if_neg (by omega)]
  ·rw [if_neg h1]
   by_cases h2:i*2=j
   ·rw [if_pos h2,if_neg (by omega)]
   ·rw [if_neg h2]
theorem info_code:(Tryz.prog.info? 151).map (fun i=>(i.zero,i.size,i.bytes))=some (some (.agg #[.int .i64 0,.int .i64 0]),2,16):=by kernel_rfl
theorem info_parts {P:Program} {t:TypeId} {z:Value} {n m:Nat} (h:(P.info? t).map (fun i=>(i.zero,i.size,i.bytes))=some (some z,n,m)) :
  ∃i,P.info? t=some i∧i.zero=some z∧i.size=n∧i.bytes=m:=by
 cases hi:P.info? t with
 | none=>rw [hi] at h;simp at h
 | some i=>
  rw [hi] at h;simp only [Option.map_some,Option.some.injEq,Prod.mk.injEq] at h;exact ⟨i,rfl,h.1,h.2.1,h.2.2⟩
theorem madeC (n:Nat):(madeCells #[.int .i64 0,.int .i64 0] (n*2)).toList=rowC n (fun _=>0) (fun _=>0):=by
 apply List.ext_getElem?
 intro j;unfold madeCells rowC
 by_cases hj:j<n*2
 ·rw [List.getElem?_map,List.getElem?_range hj];simp [hj]
  have:j%2=0∨j%2=1:=by omega
  rcases this with h | h <;> simp [h]
 ·rw [List.getElem?_eq_none (by simp;omega),List.getElem?_eq_none (by simp;omega)]
def nxt (N:List Nat) (k l:Nat):Nat:=if l=0 then 0 else fst N l+(N.take k).count l
theorem codes_bad (a:Option Addr) (n cap:Nat) (L:List Int) (w:World) (hn:L.length=n) (h:IsInts w a L) (hl:n≤1000000) (hf:fine L=false) :
  Calls Tryz.prog 171 #[.slice a n cap] w fun e w'=>e=.returned (.tuple #[.slice none 0 0,.int .i64 50])∧Below w.heap.size w w':=by
 have C1:=hid (check_any a n cap L w hn h hl);have hc:chk L=.tuple #[.int .i64 0,.int .i64 50]:=by unfold chk;rw [hf];rfl
 rw [hc] at C1;clear h
 go_enter Tryz.func171,Tryz.ntmps171
 go_wp2_with fail
 refine C1.out.mono ?_;rintro r w1 ⟨rfl,b1⟩
 go_wp2_with fail
 go_ret2;exact ⟨rfl,b1⟩
theorem fine_parts {L:List Int} (h:fine L=true):L.length≤320∧allIn 15 L=true∧used (nats L) 15≤32768:=by
 unfold fine at h;simp only [Bool.and_eq_true,decide_eq_true_eq] at h;exact ⟨h.1.1,h.1.2,h.2⟩
set_option maxRecDepth 10000 in
theorem codes_good (a:Option Addr) (n cap:Nat) (L:List Int) (w:World) (hn:L.length=n) (h:IsInts w a L) (hf:fine L=true) :
  Calls Tryz.prog 171 #[.slice a n cap] w fun e w'=>∃b,e=.returned (.tuple #[.slice (some ⟨b,0,none⟩) n n,.int .i64 0])∧Below w.heap.size w w' ∧
   w'.ownsRow w.heap.size 151 2 (.slice (some ⟨b,0,none⟩) n n) n (rowC n (codeV (nats L)) (fun i=>(nats L).getD i 0)):=by
 obtain ⟨f1,f2,f3⟩:=fine_parts hf;have hl:n≤320:=by omega
 have hc:∃left:Int,chk L=.tuple #[.int .i64 left,.int .i64 0]:=⟨_,by unfold chk;rw [hf];rfl⟩
 obtain ⟨left,hleft⟩:=hc;have C1:=hid (check_any a n cap L w hn h (by omega))
 rw [hleft] at C1;clear hleft;have hN:(nats L).length=n:=by rw [nats_length];exact hn
 have hI:IsInts w a ((nats L).map fun (x:Nat)=>(x:Int)):=by rw [←nats_cast f2];exact h
 have h15:=nats_le f2;clear h hf f1 f2 f3 hn;generalize nats L=N at *;have HI:=hid hI;have H15:=hid h15;clear hI h15;obtain ⟨i0,hi,hz0,hz1,hz2⟩:=info_parts info_code
 go_enter Tryz.func171,Tryz.ntmps171
 go_wp2_with fail
 refine C1.out.mono ?_;rintro r w1 ⟨rfl,b1⟩;have B1:=hid b1;have I1:=hid (HI.out.below b1 (Nat.le_refl _));clear b1 C1
 go_wp2_with fail
 refine (tally_any a n cap N w1 hN I1.out (by omega) H15.out).mono ?_
 rintro r w2 ⟨rfl,b2⟩;have B2:=hid (B1.out.trans (b2.mono B1.out.size));clear b2 B1 I1
 go_wp2_with fail
 refine (firsts_any N w2 (by omega)).mono ?_
 rintro r w3 ⟨rfl,b3⟩;have B3:=hid (B2.out.trans (b3.mono B2.out.size));clear b3 B2;have HZ:=hid (show At16 (w3.alloc (.cells (row16 fun _=>0) 214)) w3.heap.size (fun _=>0) from heap_alloc_new _ _)
 go_wp2_with (first | (refine wpl_store16 rfl (.tmp 6) (.tmp 20) rfl w3.heap.size (fst N) rfl rfl (fun _=>0) ?_ ?_;exact HZ.out) | (at_make;refine wpList_make_full _ rfl _ _ 132 rfl w.heap.size 151 i0 (.agg #[.int .i64 0,.int .i64 0]) 2 Tryz.underlying132 hi hz0 hz1 .i64 .i64 _ _ n rfl rfl rfl rfl (by rw [hz2];omega) (by unfold maxLen;omega) (by have:=B3.out.size;simp;omega) ?_;intro w4 hown hgrow))
 have e3:((w3.alloc (.cells (row16 fun _=>0) 214)).setRow w3.heap.size (row16 (fst N))).heap.size=w3.heap.size+1:=by rw [setRow_size,World.size_alloc]
 have hA4:At16 w4 w3.heap.size (fst N):=by
  have h1:=HZ.out.setRow (fst N);unfold At16 at h1 ⊢;rw [hgrow.block _ (by show w3.heap.size<((w3.alloc (.cells (row16 fun _=>0) 214)).setRow w3.heap.size (row16 (fst N))).heap.size;rw [e3];omega) (by simp)]
  exact h1
 have hB4:Below w.heap.size w w4:=by
  have h1:Below w.heap.size w ((w3.alloc (.cells (row16 fun _=>0) 214)).setRow w3.heap.size (row16 (fst N))):=below_setRow (B3.out.alloc B3.out.size _) B3.out.size _
  exact h1.grown hgrow h1.size (fun k hk=>by cases hk)
 have hO4:w4.ownsRow w.heap.size 151 2 (.slice (some ⟨w3.heap.size+1,0,none⟩) n n) n (rowC n (fun _=>0) (fun _=>0)):=by
  rw [←madeC];have h1:=hown;rw [show ((w3.alloc (.cells #[.int .i64 0,.int .i64 0,.int .i64 0,.int .i64 0,.int .i64 0,.int .i64 0,.int .i64 0,.int .i64 0,.int .i64 0,.int .i64 0,.int .i64 0,.int .i64 0,.int .i64 0,.int .i64 0,.int .i64 0,.int .i64 0] 214)).setRow w3.heap.size (row16 (fst N))).heap.size=w3.heap.size+1 from e3] at h1
  exact h1
 have hX:=B3.out.size;clear hgrow hown HZ B3 e3;generalize w3.heap.size=X at *
 have HN0:Hid (nxt N 0=fst N):=by
  show nxt N 0=fst N
  funext l
  unfold nxt
  by_cases h:l=0
  ·rw [if_pos h,h];rfl
  ·rw [if_neg h];simp
 have HA4:=hid hA4;have HB4:=hid hB4;have HO4:=hid hO4;clear hA4 hB4 hO4
 go_loopw [26] (fun i wr=>∃k:Nat,k≤n∧i=.int .i64 k∧At16 wr X (nxt N k)∧Below w.heap.size w wr ∧
  wr.ownsRow w.heap.size 151 2 (.slice (some ⟨X+1,0,none⟩) n n) n (rowC n (fun i=>if i<k then codeV N i else 0) (fun i=>if i<k then N.getD i 0 else 0))) (fun i _=>n-(intOf i).toNat)
 case atStart=>exact ⟨0,Nat.zero_le _,rfl,by rw [HN0.out];exact HA4.out,HB4.out,HO4.out⟩
 case round=>
  obtain ⟨k,hk,rfl,hat,hbel,hrow⟩:=hrel;clear HA4 HB4 HO4 HN0
  by_cases hlt:k<n
  ·obtain ⟨b,off,rfl,hb,hc⟩:=HI.out (by simp;omega)
   have hck:=hc k (by simp;omega)
   rw [List.getElem_map] at hck;have hx15:=H15.out N[k] (List.getElem_mem (by omega))
   have hcw:wr.cell? ⟨b,off+k,none⟩=some (.int .i64 (N[k]:Nat)):=(hbel.cell hb).trans hck;have hgd:N.getD k 0=N[k]:=by rw [List.getD_eq_getElem?_getD,List.getElem?_eq_getElem (by omega)];rfl
   have htk:N.take (k+1)=N.take k++[N[k]]:=List.take_succ_eq_append_getElem (by omega)
   clear hck hc
   by_cases hx0:N[k]=0
   ·have hF:(fun i=>if i<k+1 then codeV N i else 0)=fun i=>if i<k then codeV N i else 0:=by
     funext i
     by_cases h:i=k
     ·rw [if_pos (by omega),if_neg (by omega),h];unfold codeV;rw [hgd,if_pos hx0]
     ·by_cases h2:i<k
      ·rw [if_pos (by omega),if_pos h2]
      ·rw [if_neg (by omega),if_neg h2]
    have hG:(fun i=>if i<k+1 then N.getD i 0 else 0)=fun i=>if i<k then N.getD i 0 else 0:=by
     funext i
     by_cases h:i=k
     ·rw [if_pos (by omega),if_neg (by omega),h,hgd,hx0]
     ·by_cases h2:i<k
      ·rw [if_pos (by omega),if_pos h2]
      ·rw [if_neg (by omega),if_neg h2]
    have hN':nxt N (k+1)=nxt N k:=by
     funext l
     unfold nxt
     by_cases h:l=0
     ·rw [if_pos h,if_pos h]
     ·rw [if_neg h,if_neg h,htk,List.count_append,List.count_singleton,hx0];simp [Ne.symm h]
    have H1:=hid hat;have H2:=hid hbel;have H3:=hid hrow;have HF:=hid hF;have HG:=hid hG;have HN':=hid hN';rw [hx0] at hcw;clear hat hbel hrow hF hG hN' hgd htk hx0 hx15
    go_wp2_with fail
    refine ⟨⟨k+1,by omega,by go_num,by rw [HN'.out];exact H1.out,H2.out,by rw [HF.out,HG.out];exact H3.out⟩,?_⟩
    simp [intOf];omega
   ·have hcv:codeV N k=nxt N k N[k]:=by unfold codeV nxt;rw [hgd]
    have hs1:=hrow.stored (k*2) (.int .i64 (codeV N k:Nat));have hs2:=hs1.1.stored (k*2+1) (.int .i64 (N[k]:Nat))
    rw [rowC_set n _ _ (fun i=>if i<k+1 then codeV N i else 0) (fun i=>if i<k+1 then N.getD i 0 else 0) k (codeV N k) N[k] (by simp) (by rw [←hgd];simp)
     (fun j _ hj=>by
      by_cases h2:j<k
      ·rw [if_pos (by omega),if_pos h2]
      ·rw [if_neg (by omega),if_neg h2])
     (fun j _ hj=>by
      by_cases h2:j<k
      ·rw [if_pos (by omega),if_pos h2]
      ·rw [if_neg (by omega),if_neg h2])] at hs2
    have hN':nxt N (k+1)=fun i=>if i=N[k] then nxt N k N[k]+1 else nxt N k i:=by
     funext l
     unfold nxt
     by_cases h:l=0
     ·rw [if_pos h,if_neg (by omega),if_pos h]
     ·rw [if_neg h,if_neg h,if_neg hx0,htk,List.count_append,List.count_singleton]
      by_cases e:l=N[k]
      ·subst e;simp;omega
      ·simp [e,Ne.symm e]
    have hsm:nxt N k N[k]≤70000000000:=by
     unfold nxt;rw [if_neg hx0];have h1:=fst_small N N[k] hx15 (by omega)
     have h2:(N.take k).count N[k]≤320:=Nat.le_trans List.count_le_length (by simp;omega)
     omega
    rw [hcv] at hs2;have HN':=hid hN';obtain ⟨d1,d2⟩:=rowC_get n (fun i=>if i<k then codeV N i else 0) (fun i=>if i<k then N.getD i 0 else 0) k hlt
    have c1:=hrow.cellAt (k*2) (by omega)
    have c2:=hrow.cellAt (k*2+1) (by omega)
    rw [d1] at c1;rw [d2] at c2;have f1:=hrow.frozenAt (k*2);have f2:=hrow.frozenAt (k*2+1);have c3:=hat.cell N[k] (by omega)
    have f3:=hat.frozen N[k];have H1:=hid (((hat.other (c:=X+1) (j:=k*2) (v:=.int .i64 (nxt N k N[k]:Nat)) (by omega)).other (c:=X+1) (j:=k*2+1) (v:=.int .i64 (N[k]:Nat)) (by omega)).set N[k] (nxt N k N[k]+1))
    have H2:=hid (((hbel.setCell (p:=⟨X+1,k*2,none⟩) (by show w.heap.size≤X+1;omega) (.int .i64 (nxt N k N[k]:Nat))).setCell (p:=⟨X+1,k*2+1,none⟩) (by show w.heap.size≤X+1;omega) (.int .i64 (N[k]:Nat))).setCell (p:=⟨X,N[k],none⟩) (by show w.heap.size≤X;omega) (.int .i64 ((nxt N k N[k]+1:Nat):Int)))
    have H3:=hid (ownsRow_setCell_other hs2.1 (a:=⟨X,N[k],none⟩) (by simp [Value.ownBlock]) (.int .i64 ((nxt N k N[k]+1:Nat):Int)))
    clear hat hbel hrow hcv hs1 hs2 d1 d2 hN' hgd htk;generalize hx:N[k]=x at *;have HX:=hid hx;clear hx;obtain ⟨v,hv⟩:∃v,nxt N k x=v:=⟨_,rfl⟩;rw [hv] at HN' hsm c3 H1 H2 H3;clear hv;have hw1:wrap64 ((v:Int)+1)=(v:Int)+1:=IntWalk.wrap64_in _ (by omega)
    have hx1:0<x:=by omega
    clear hsm
    go_wp2_with fail
    refine ⟨⟨k+1,by omega,by go_num,by rw [HN'.out];exact H1.out,H2.out,H3.out⟩,?_⟩
    simp [intOf];omega
  ·obtain rfl:k=n:=by omega
   have e1:rowC k (fun i=>if i<k then codeV N i else 0) (fun i=>if i<k then N.getD i 0 else 0)=rowC k (codeV N) (fun i=>N.getD i 0):=by
    unfold rowC
    apply List.map_congr_left
    intro j hj
    have:j<k*2:=by simpa using hj
    have:j/2<k:=by omega
    simp only [this,if_true]
   rw [e1] at hrow;have H2:=hid hbel;have H3:=hid hrow;clear hat hbel hrow e1
   go_wp2_with fail
   go_ret2;exact ⟨_,rfl,H2.out,H3.out⟩
end Go.Proofs.YthbjllabgpaaaaaGreat.Huf
namespace Go.Proofs.YthbjllabgpaaaaaGreat.Huf
open Go.Lib (hid)
set_option maxHeartbeats 4000000
open Go.ChangeShapes Go.WideShapes Go.ChangeAt Go.RowKit
set_option linter.unusedVariables false
theorem step_append_near {P:Program} {ops:Array Oper} {o:Oper} {a:Act} {w:World} {K:Act→World→Prop} {Q:Exit→Act→World→Prop} {E:Prop}
  (hg:o.guard=none) (s x:Operand) (t:TypeId) (hop:o.op=Op.call { callee:=Callee.builtin Builtin.append,args:=#[s,x],argTypes:=#[t,t] })
  (e:TypeId) (i:TypeInfo) (z:Value) (size bytes:Nat) (ht:P.underlying t=some (.slice e)) (hi:P.info? e=some i) (hz:i.zero=some z)
  (hsize:i.size=size) (hby:i.bytes=bytes) (hzs:z.cells.size=size) (hsz:0<size)
  (v:Value) (n:Nat) (xs:List Value) (hs:a.eval s=v) (hown:w.ownsRow 0 e size v n xs)
  (ad:Addr) (m c:Nat) (news:List Value) (hx:a.eval x=.slice (some ad) m c) (hl:news.length=m*size) (hnews:∀j u,news[j]?=some u→w.cell? (ad.add j)=some u) (h1:∀u∈news,u.oneCell'=true)
  (h63:n+m≤maxLen) (hbytes:(n+m)*bytes≤140737488355328)
  (hK:∀v' w',w'.ownsRow 0 e size v' (n+m) (xs++news)→w.grownBy w' v.ownBlock→Bit.Near w v v'→K (a.put o.dst v') w') :
  if Region.wanted o (yielded ops a.tmps)=true then Oper.wp P o a w K Q else E:=by
 have hw:Region.wanted o (yielded ops a.tmps)=true:=by simp [Region.wanted,hg]
 rw [if_pos hw];obtain ⟨v',w',hrun,r1,r2,r3⟩:=Bit.run_append_near (P:=P) w t o.type e i z size bytes ht hi hz hsize hby hzs hsz v n xs hown ad m c news hl hnews h1 h63 hbytes;unfold Oper.wp;simp [execOp,hop,resolve,invoke,builtin,hs,hx,hrun,Result.andThen];exact hK v' w' r1 r2 r3
def decRow (S:Nat→Value) (f:Nat→Nat) (t:Nat):Array Value:=((List.range 16).map S++((List.range 16).map fun j=>Value.int .i64 (f j:Nat))++[Value.int .i64 (t:Nat)]).toArray
theorem decRow_sym (S:Nat→Value) (f:Nat→Nat) (t j:Nat) (h:j<16):(decRow S f t)[j]?=some (S j):=by
 unfold decRow;rw [List.getElem?_toArray,List.append_assoc,List.getElem?_append_left (by simp;omega)]
 simp [h]
theorem decRow_fst (S:Nat→Value) (f:Nat→Nat) (t j:Nat) (h:j<16):(decRow S f t)[16+j]?=some (.int .i64 (f j:Nat)):=by
 unfold decRow;rw [List.getElem?_toArray,List.append_assoc,List.getElem?_append_right (by simp)]
 simp only [List.length_map,List.length_range,Nat.add_sub_cancel_left];rw [List.getElem?_append_left (by simp;omega)]
 simp [h]
theorem decRow_taken (S:Nat→Value) (f:Nat→Nat) (t:Nat):(decRow S f t)[32]?=some (.int .i64 (t:Nat)):=by
 unfold decRow;rw [List.getElem?_toArray,List.getElem?_append_right (by simp)]
 simp
theorem decRow_set (S:Nat→Value) (f:Nat→Nat) (t j:Nat) (h:j<16) (v:Value):(decRow S f t).setIfInBounds j v=decRow (fun i=>if i=j then v else S i) f t:=by
 have e:((List.range 16).map S).set j v=(List.range 16).map (fun i=>if i=j then v else S i):=by
  apply List.ext_getElem?
  intro i;rw [List.getElem?_set]
  by_cases hi:i<16
  ·by_cases hij:j=i
   ·subst hij;simp [hi]
   ·simp [hi,hij,Ne.symm hij]
  ·by_cases hij:j=i
   ·subst hij;omega
   ·simp [hij,hi]
 unfold decRow;rw [List.setIfInBounds_toArray,List.append_assoc,List.set_append_left _ _ (by simp;omega),e,List.append_assoc]
theorem built_dec (f:Nat→Nat) (t:Nat):Tryz.prog.built 219 [(1,.agg (row16 f)),(2,.int .i64 (t:Nat))]=some (decRow (fun _=>.slice none 0 0) f t):=by
 kernel_rfl
theorem wpl_build_dec {ops:Array Oper} {rest:List Oper} {o:Oper} {a:Act} {w:World} {Q:Exit→Act→World→Prop} (hg:o.guard=none) (x y:Operand) (ho:o.op=.build 219 #[(1,x),(2,y)])
  (f:Nat→Nat) (t:Nat) (hx:a.eval x=.agg (row16 f)) (hy:a.eval y=.int .i64 (t:Nat))
  (h:wpList Tryz.prog ops Q rest (a.put o.dst (.agg (decRow (fun _=>.slice none 0 0) f t))) w):wpList Tryz.prog ops Q (o::rest) a w:=by
 have e:(#[(1,x),(2,y)].map fun (p:Nat×Operand)=>(p.1,a.eval p.2)).toList=[(1,.agg (row16 f)),(2,.int .i64 (t:Nat))]:=by simp [hx,hy]
 refine wpList_build hg _ _ ho ?_ ?_
 ·show (Tryz.prog.built 219 (#[(1,x),(2,y)].map fun (p:Nat×Operand)=>(p.1,a.eval p.2)).toList).isSome=true
  rw [e,built_dec];rfl
 ·show wpList _ _ _ _ (a.put o.dst (.agg ((Tryz.prog.built 219 (#[(1,x),(2,y)].map fun (p:Nat×Operand)=>(p.1,a.eval p.2)).toList).getD #[]))) w
  rw [e,built_dec];exact h
def cellsN (l:List Nat):List Value:=l.map fun (x:Nat)=>Value.int .i64 (x:Nat)
theorem cellsN_length (l:List Nat):(cellsN l).length=l.length:=by simp [cellsN]
theorem cellsN_append (l m:List Nat):cellsN (l++m)=cellsN l++cellsN m:=by simp [cellsN]
structure DecAt (w:World) (D:Nat) (S:Nat→Value) (f:Nat→Nat) (t:Nat) (R:Nat→List Nat):Prop where
 blk:w.heap[D]?=some (.cells (decRow S f t) 219 (0,0))
 row:∀l,l<16→w.ownsRow 0 3 1 (S l) (R l).length (cellsN (R l))
 off:∀l k,l<16→(S l).ownBlock=some k→D<k
 apart:∀l m k,l<16→m<16→(S l).ownBlock=some k→(S m).ownBlock=some k→l=m
theorem DecAt.lt {w:World} {D:Nat} {S:Nat→Value} {f:Nat→Nat} {t:Nat} {R:Nat→List Nat} (h:DecAt w D S f t R):D<w.heap.size:=(Array.getElem?_eq_some_iff.1 h.blk).1
theorem DecAt.below {w w':World} {D n:Nat} {S:Nat→Value} {f:Nat→Nat} {t:Nat} {R:Nat→List Nat} (h:DecAt w D S f t R) (k:Below n w w') (hn:w.heap.size≤n):DecAt w' D S f t R:=by
 have hl:=h.lt;refine ⟨by rw [k.block D (by omega)];exact h.blk,fun l hl=>?_,h.off,h.apart⟩
 exact Bit.ownsRow_block (h.row l hl) fun j hj=>k.block j (by have:=((h.row l hl).lt j hj).2;omega)
def symsOf (N:List Nat) (k l:Nat):List Nat:=if l=0 then [] else (List.range k).filter fun i=>N.getD i 0==l
theorem symsOf_succ (N:List Nat) (k l:Nat):symsOf N (k+1) l=if l≠0∧N.getD k 0=l then symsOf N k l++[k] else symsOf N k l:=by
 unfold symsOf
 by_cases h0:l=0
 ·rw [if_pos h0,if_pos h0,if_neg (by omega)]
 ·rw [if_neg h0,if_neg h0,List.range_succ,List.filter_append]
  by_cases h:N.getD k 0=l
  ·rw [if_pos ⟨h0,h⟩];simp only [List.filter_cons,List.filter_nil];rw [if_pos (by rw [h];simp)]
  ·rw [if_neg (by rintro ⟨_,h2⟩;exact h h2)];simp only [List.filter_cons,List.filter_nil];rw [if_neg (by simpa using h)];simp
theorem symsOf_length (N:List Nat) (k l:Nat):(symsOf N k l).length≤k:=by
 unfold symsOf
 split
 ·exact Nat.zero_le _
 ·exact Nat.le_trans (List.length_filter_le _ _) (by simp)
theorem info_int:(Tryz.prog.info? 3).map (fun i=>(i.zero,i.size,i.bytes))=some (some (.int .i64 0),1,8):=by kernel_rfl
theorem cellsN_one (l:List Nat):∀u∈cellsN l,u.oneCell'=true:=by
 intro u hu;obtain ⟨x,_,rfl⟩:=List.mem_map.1 hu
 rfl
theorem own_form {w:World} {base size n:Nat} {e:TypeId} {v:Value} {xs:List Value} (h:w.ownsRow base e size v n xs) (hn:0<n):∃g cap,v=.slice (some ⟨g,0,none⟩) n cap:=by
 rcases h.2 with ⟨_,h0⟩ | ⟨g,cap,cur,rfl,_⟩
 ·omega
 ·exact ⟨g,cap,rfl⟩
open Go.Proofs.YthbjllabgpaaaaaGreat.RegTwo
theorem eval_tmp {a:Act} {t:Nat} {v:Value} (h:a.tmps[t]?=some v):a.eval (.tmp t)=v:=by
 show a.tmps.getD t undef=v;rw [Array.getD_eq_getD_getElem?,h];rfl
theorem needed_ne {md:Region.Mode} {ops:Array Oper} {i j:Nat} (h:needed md ops i j=true):i≠j:=by
 rintro rfl;unfold needed at h;simp at h
theorem lead_ne {md:Region.Mode} {ops:Array Oper} {i j:Nat} (h:mayLead md ops i j=true):i≠j:=by
 rintro rfl;unfold mayLead at h;simp at h
theorem wp_append_near {P:Program} {o:Oper} {a:Act} {w:World} {K:Act→World→Prop} {Q:Exit→Act→World→Prop}
  (s x:Operand) (t:TypeId) (hop:o.op=Op.call { callee:=Callee.builtin Builtin.append,args:=#[s,x],argTypes:=#[t,t] })
  (e:TypeId) (i:TypeInfo) (z:Value) (size bytes:Nat) (ht:P.underlying t=some (.slice e)) (hi:P.info? e=some i) (hz:i.zero=some z)
  (hsize:i.size=size) (hby:i.bytes=bytes) (hzs:z.cells.size=size) (hsz:0<size)
  (v:Value) (n:Nat) (xs:List Value) (hs:a.eval s=v) (hown:w.ownsRow 0 e size v n xs)
  (ad:Addr) (m c:Nat) (news:List Value) (hx:a.eval x=.slice (some ad) m c) (hl:news.length=m*size) (hnews:∀j u,news[j]?=some u→w.cell? (ad.add j)=some u) (h1:∀u∈news,u.oneCell'=true)
  (h63:n+m≤maxLen) (hbytes:(n+m)*bytes≤140737488355328)
  (hK:∀v' w',w'.ownsRow 0 e size v' (n+m) (xs++news)→w.grownBy w' v.ownBlock→Bit.Near w v v'→K (a.put o.dst v') w'):o.wp P a w K Q:=by
 obtain ⟨v',w',hrun,r1,r2,r3⟩:=Bit.run_append_near (P:=P) w t o.type e i z size bytes ht hi hz hsize hby hzs hsz v n xs hown ad m c news hl hnews h1 h63 hbytes;unfold Oper.wp;simp [execOp,hop,resolve,invoke,builtin,hs,hx,hrun,Result.andThen];exact hK v' w' r1 r2 r3
theorem lit_at {w:World} {g k:Nat} (h:w.cell? ⟨g,0,none⟩=some (.int .i64 (k:Nat))):∀j u,(cellsN [k])[j]?=some u→w.cell? ((⟨g,0,none⟩:Addr).add j)=some u:=by
 intro j u hj
 match j,hj with
 | 0,hj=>
  simp [cellsN] at hj;subst hj;rw [Oct.addr_add];exact h
 | j+1,hj=>simp [cellsN] at hj
def N7 (u v:Value) (_:World):Prop:=v=u
def N9 (wr:World) (k:Nat) (v:Value) (w:World):Prop:=∃g,v=.slice (some ⟨g,0,none⟩) 1 1∧wr.heap.size≤g∧w.cell? ⟨g,0,none⟩=some (.int .i64 (k:Nat))∧g<w.heap.size
theorem N9.alloc {wr w:World} {k:Nat} {v:Value} (h:N9 wr k v w) (o:Obj):N9 wr k v (w.alloc o):=by
 obtain ⟨g,a,b,c,d⟩:=h;exact ⟨g,a,b,(((Below.refl w.heap.size w).alloc (Nat.le_refl _) o).cell (p:=⟨g,0,none⟩) d).trans c,by simp;omega⟩
theorem N9.grown {wr w w':World} {k:Nat} {v:Value} {row:Option Nat} (h:N9 wr k v w) (hg:w.grownBy w' row) (hr:∀j,row=some j→j<wr.heap.size):N9 wr k v w':=by
 obtain ⟨g,a,b,c,d⟩:=h;exact ⟨g,a,b,(World.cell?_of_block (a:=⟨g,0,none⟩) (hg.block g d (fun e=>by have:=hr g e.symm;omega))).trans c,Nat.lt_of_lt_of_le d hg.size⟩
theorem N9.setCell {wr w:World} {k D:Nat} {v:Value} (h:N9 wr k v w) (hD:D<wr.heap.size) (j:Nat) (u:Value):N9 wr k v (w.setCell ⟨D,j,none⟩ u):=by
 obtain ⟨g,a,b,c,d⟩:=h;exact ⟨g,a,b,(World.cell?_of_block (a:=⟨g,0,none⟩) (heap_setCell_other w ⟨D,j,none⟩ g u (by show g≠D;omega))).trans c,by simpa using d⟩
def N10 (wr:World) (u:Value) (R:List Nat) (k:Nat) (v:Value) (w:World):Prop:=w.ownsRow 0 3 1 v (R.length+1) (cellsN (R++[k]))∧Bit.Near wr u v∧wr.grownBy w u.ownBlock
theorem N10.alloc {wr w:World} {k:Nat} {u v:Value} {R:List Nat} (h:N10 wr u R k v w) (o:Obj):N10 wr u R k v (w.alloc o):=
 ⟨h.1.alloc o,h.2.1,⟨h.2.2.os,h.2.2.tape,h.2.2.output,by have:=h.2.2.size;simp;omega,fun j hj hr=>by
  have hs:=h.2.2.size;have e:(w.alloc o).heap[j]?=w.heap[j]?:=Below.heap_alloc w o j (by omega)
  rw [e];exact h.2.2.block j hj hr⟩⟩
def N14 (w wr:World) (D:Nat) (f:Nat→Nat) (U:Nat) (N:List Nat) (k:Nat) (v:Value) (w':World):Prop:=∃S,DecAt w' D S f U (symsOf N (k+1))∧Below w.heap.size w w'
def newUse (wr:World) (D x k:Nat) (u:Value) (R:List Nat):Nat→Value→World→Prop
 | 0=>fun v _=>v=.pointer (some ⟨D,0,none⟩)
 | 1=>fun v _=>v=.int .i64 (x:Nat)
 | 2=>fun v _=>v=.pointer (some ⟨D,0,none⟩)
 | 3=>fun v _=>v=.int .i64 (x:Nat)
 | 4=>fun v _=>v=.pointer (some ⟨D,0,none⟩)
 | 5=>fun v _=>v=.pointer (some ⟨D,0,none⟩)
 | 6=>fun v _=>v=.pointer (some ⟨D,x,none⟩)
 | 7=>N7 u
 | 8=>fun v _=>v=.int .i64 (k:Nat)
 | 9=>N9 wr k
 | 10=>N10 wr u R k
 | 11=>fun v _=>v=.pointer (some ⟨D,0,none⟩)
 | 12=>fun v _=>v=.pointer (some ⟨D,0,none⟩)
 | 13=>fun v _=>v=.pointer (some ⟨D,x,none⟩)
 | 14=>fun v _=>v=undef
 | _=>fun _ _=>True
def newFin (w wr:World) (D:Nat) (f:Nat→Nat) (U:Nat) (N:List Nat) (k:Nat):Nat→Value→World→Prop
 | 14=>N14 w wr D f U N k
 | _=>fun _ _=>True
theorem newUse_keep {wr W W':World} {D x k:Nat} {u:Value} {R:List Nat} (j:Nat) (u0:Value) (h9:j=9→∀v,N9 wr k v W→N9 wr k v W') (h10:j=10→∀v,N10 wr u R k v W→N10 wr u R k v W')
  (h:newUse wr D x k u R j u0 W):newUse wr D x k u R j u0 W':=by
 match j,h9,h10,h with
 | 9,h9,_,h=>exact h9 rfl _ h
 | 10,_,h10,h=>exact h10 rfl _ h
 | 0,_,_,h=>exact h
 | 1,_,_,h=>exact h
 | 2,_,_,h=>exact h
 | 3,_,_,h=>exact h
 | 4,_,_,h=>exact h
 | 5,_,_,h=>exact h
 | 6,_,_,h=>exact h
 | 7,_,_,h=>exact h
 | 8,_,_,h=>exact h
 | 11,_,_,h=>exact h
 | 12,_,_,h=>exact h
 | 13,_,_,h=>exact h
 | 14,_,_,h=>exact h
 | _+15,_,_,_=>trivial
theorem newFin_keep {w wr W W':World} {D k:Nat} {f:Nat→Nat} {U:Nat} {N:List Nat} (j:Nat) (u0:Value) (h14:j=14→False)
  (h:newFin w wr D f U N k j u0 W):newFin w wr D f U N k j u0 W':=by
 unfold newFin at *
 split
 ·exact (h14 rfl).elim
 ·trivial
theorem new_bad (a:Option Addr) (n cap:Nat) (L:List Int) (w:World) (hn:L.length=n) (h:IsInts w a L) (hl:n≤1000000) (hf:fine L=false) :
  Calls Tryz.prog 158 #[.slice a n cap] w fun e w'=>e=.returned (.tuple #[.pointer none,.int .i64 50])∧Below w.heap.size w w':=by
 have C1:=hid (check_any a n cap L w hn h hl);have hc:chk L=.tuple #[.int .i64 0,.int .i64 50]:=by unfold chk;rw [hf];rfl
 rw [hc] at C1;clear h
 go_enter Tryz.func158,Tryz.ntmps158
 go_wp2_with fail
 refine C1.out.mono ?_;rintro r w1 ⟨rfl,b1⟩
 go_wp2_with fail
 go_ret2;exact ⟨rfl,b1⟩
set_option maxRecDepth 10000 in
theorem new_good (a:Option Addr) (n cap:Nat) (L:List Int) (w:World) (hn:L.length=n) (h:IsInts w a L) (hf:fine L=true) :
  Calls Tryz.prog 158 #[.slice a n cap] w fun e w'=>∃D S,e=.returned (.tuple #[.pointer (some ⟨D,0,none⟩),.int .i64 0])∧Below w.heap.size w w' ∧
   w.heap.size≤D∧DecAt w' D S (fst (nats L)) (used (nats L) 15) (symsOf (nats L) n):=by
 obtain ⟨f1,f2,f3⟩:=fine_parts hf;have hl:n≤320:=by omega
 have hchk:chk L=.tuple #[.int .i64 (32768-used (nats L) 15:Nat),.int .i64 0]:=by unfold chk;rw [hf,if_pos rfl]
 have C1:=hid (check_any a n cap L w hn h (by omega))
 rw [hchk] at C1;clear hchk;have hN:(nats L).length=n:=by rw [nats_length];exact hn
 have hI:IsInts w a ((nats L).map fun (x:Nat)=>(x:Int)):=by rw [←nats_cast f2];exact h
 have h15:=nats_le f2;clear h hf f1 f2 hn;generalize nats L=N at *;have HI:=hid hI;have H15:=hid h15;obtain ⟨U,hU⟩:∃U,used N 15=U:=⟨_,rfl⟩;rw [hU] at C1 f3 ⊢
 have HW:Hid (wrap64 (32768-((32768-U:Nat):Int))=(U:Int)):=by
  show wrap64 (32768-((32768-U:Nat):Int))=(U:Int);rw [show 32768-((32768-U:Nat):Int)=(U:Int) by omega]
  exact IntWalk.wrap64_in _ (by omega)
 obtain ⟨M,hM⟩:∃M,32768-U=M:=⟨_,rfl⟩;rw [hM] at C1 HW;clear hI h15 hU hM f3;obtain ⟨i0,hi,hz0,hz1,hz2⟩:=info_parts info_int
 go_enter Tryz.func158,Tryz.ntmps158
 go_wp2_with fail
 refine C1.out.mono ?_;rintro r w1 ⟨rfl,b1⟩;have B1:=hid b1;have I1:=hid (HI.out.below b1 (Nat.le_refl _));clear b1 C1
 go_wp2_with fail
 refine (tally_any a n cap N w1 hN I1.out (by omega) H15.out).mono ?_
 rintro r w2 ⟨rfl,b2⟩;have B2:=hid (B1.out.trans (b2.mono B1.out.size));clear b2 B1 I1
 go_wp2_with fail
 refine (firsts_any N w2 (by omega)).mono ?_
 rintro r w3 ⟨rfl,b3⟩;have B3:=hid (B2.out.trans (b3.mono B2.out.size));clear b3 B2;have HE:=hid (congrArg (Value.int .i64) HW.out)
 go_wp2_with (refine wpl_build_dec rfl (.tmp 19) (.tmp 21) rfl (fst N) U rfl HE.out ?_)
 have hD0:DecAt (w3.alloc (.cells (decRow (fun _=>.slice none 0 0) (fst N) U) 219)) w3.heap.size (fun _=>.slice none 0 0) (fst N) U (symsOf N 0):=by
  refine ⟨heap_alloc_new _ _,fun l _=>?_,fun l k _ h=>(by cases h),fun l m k _ _ h=>(by cases h)⟩
  have e:symsOf N 0 l=[]:=by unfold symsOf;split <;> rfl
  rw [e];exact World.ownsRow_nil _ _ _ _
 have hB0:=B3.out.alloc B3.out.size (.cells (decRow (fun _=>.slice none 0 0) (fst N) U) 219)
 have hX:=B3.out.size;have HD0:=hid hD0;have HB0:=hid hB0;clear hD0 hB0 B3;generalize w3.heap.size=D at *
 go_loopw [26] (fun i wr=>∃(k:Nat) (S:Nat→Value),k≤n∧i=.int .i64 k∧DecAt wr D S (fst N) U (symsOf N k)∧Below w.heap.size w wr) (fun i _=>n-(intOf i).toNat)
 case atStart=>exact ⟨0,_,Nat.zero_le _,rfl,HD0.out,HB0.out⟩
 case round=>
  obtain ⟨k,S,hk,rfl,hdec,hbel⟩:=hrel;clear HD0 HB0
  by_cases hlt:k<n
  ·obtain ⟨b,off,rfl,hb,hc⟩:=HI.out (by simp;omega)
   have hck:=hc k (by simp;omega)
   rw [List.getElem_map] at hck;have hx15:=H15.out N[k] (List.getElem_mem (by omega))
   have hcw:wr.cell? ⟨b,off+k,none⟩=some (.int .i64 (N[k]:Nat)):=(hbel.cell hb).trans hck;have hgd:N.getD k 0=N[k]:=by rw [List.getD_eq_getElem?_getD,List.getElem?_eq_getElem (by omega)];rfl
   clear hck hc
   by_cases hx0:N[k]=0
   ·have hR:symsOf N (k+1)=symsOf N k:=by
     funext l
     rw [symsOf_succ,if_neg (by rw [hgd,hx0];omega)]
    have H1:=hid hdec;have H2:=hid hbel;have HR:=hid hR;rw [hx0] at hcw;clear hdec hbel hR hgd hx0 hx15
    go_wp2_with fail
    refine ⟨⟨k+1,S,by omega,by go_num,by rw [HR.out];exact H1.out,H2.out⟩,?_⟩
    simp [intOf];omega
   ·have hR:symsOf N (k+1)=fun l=>if l=N[k] then symsOf N k N[k]++[k] else symsOf N k l:=by
     funext l
     rw [symsOf_succ,hgd]
     by_cases h:l=N[k]
     ·rw [if_pos ⟨by omega,h.symm⟩,if_pos h,h]
     ·rw [if_neg (by rintro ⟨_,h2⟩;exact h h2.symm),if_neg h]
    have HR:=hid hR;clear hgd hR;have hrl:=symsOf_length N k N[k];generalize N[k]=x at *;have hx1:0<x:=by omega
    have hrow:=hdec.row x (by omega)
    have hcl:wr.cell? ⟨D,x,none⟩=some (S x):=by rw [cell_of_row wr D x _ _ _ hdec.blk,decRow_sym _ _ _ _ (by omega)]
    have hfz:wr.frozen? ⟨D,x,none⟩=false:=frozen_of_row wr D x _ _ hdec.blk;have HROW:=hid hrow;have HDEC:=hid hdec;have HBEL:=hid hbel;have hDlt:=hdec.lt;have HNE:Hid ((S x).ownBlock≠some D):=fun h=>by have:=hdec.off x D (by omega) h;omega
    clear hrow hdec hbel;generalize hsx:S x=u at *;generalize hrr:symsOf N k x=R at *;have HSX:=hid hsx;have HRR:=hid hrr;clear hsx hrr;have hxi1:(0:Int)≤(x:Int):=by omega
    have hxi2:(x:Int)<16:=by omega
    go_wp2_with fail
    have HCL:Hid (∀W,Below wr.heap.size wr W→W.cell? ⟨D,x,none⟩=some u):=fun W h=>(h.cell (p:=⟨D,x,none⟩) hDlt).trans hcl
    have HROW':Hid (∀W,Below wr.heap.size wr W→W.ownsRow 0 3 1 u R.length (cellsN R)):=fun W h=>Bit.ownsRow_block HROW.out fun j hj=>h.block j (HROW.out.lt j hj).2
    have H9:Hid (∀W,Below wr.heap.size wr W→wr.heap.size≤W.heap.size):=fun W h=>h.size
    have HUL:Hid (∀j,u.ownBlock=some j→j<wr.heap.size):=fun j hj=>(HROW.out.lt j hj).2
    have HDL:=hid hDlt
    have H10:Hid (∀W v9 w9,Below wr.heap.size wr W→w9.ownsRow 0 3 1 v9 (R.length+1) (cellsN R++cellsN [k])→W.grownBy w9 u.ownBlock→Bit.Near W u v9→N10 wr u R k v9 w9):=fun W v9 w9 hW o9 g9 n9=>
     ⟨by rw [cellsN_append];exact o9,fun j hj=>by
      rcases n9 j hj with h | h
      ·exact .inl h
      ·exact .inr (Nat.le_trans hW.size h),⟨g9.os.trans hW.os,g9.tape.trans hW.tape,g9.output.trans hW.output,Nat.le_trans hW.size g9.size,fun j hj hr=>(g9.block j (Nat.lt_of_lt_of_le hj hW.size) hr).trans (hW.block j hj)⟩⟩
    have H14:Hid (∀W v,N10 wr u R k v W→W.cell? ⟨D,x,none⟩=some u∧W.frozen? ⟨D,x,none⟩=false∧∃gb cp,v=.slice (some ⟨gb,0,none⟩) (R.length+1) cp):=fun W v h=>
     ⟨(World.cell?_of_block (a:=⟨D,x,none⟩) (h.2.2.block D hDlt (fun e=>HNE.out e.symm))).trans hcl,(World.frozen?_of_block (a:=⟨D,x,none⟩) (h.2.2.block D hDlt (fun e=>HNE.out e.symm))).trans hfz,own_form h.1 (by omega)⟩
    have HF:Hid (∀W v,N10 wr u R k v W→N14 w wr D (fst N) U N k undef (W.setCell ⟨D,x,none⟩ v)):=by
     intro W v h;have hdec:=HDEC.out;have hbel:=HBEL.out
     have hold:∀l j,l<16→l≠x→(S l).ownBlock=some j→j≠D∧W.heap[j]?=wr.heap[j]?:=fun l j hl hlx hj=>
      ⟨fun e=>by have:=hdec.off l j hl hj;omega,h.2.2.block j ((hdec.row l hl).lt j hj).2 (fun e=>hlx (hdec.apart l x j hl (by omega) hj (by rw [HSX.out];exact e.symm)))⟩
     have hvD:∀j,v.ownBlock=some j→D<j:=fun j hj=>by
      rcases h.2.1 j hj with e | e
      ·exact hdec.off x j (by omega) (by rw [HSX.out];exact e)
      ·omega
     have hset:∀j,j≠D→(W.setCell ⟨D,x,none⟩ v).heap[j]?=W.heap[j]?:=fun j hj=>heap_setCell_other W ⟨D,x,none⟩ j v hj
     refine ⟨fun i=>if i=x then v else S i,⟨?_,fun l hl=>?_,fun l j hl hj=>?_,fun l m j hl hm hj hk'=>?_⟩,?_⟩
     ·have e1:W.heap[D]?=wr.heap[D]?:=h.2.2.block D hDlt (fun e=>HNE.out e.symm)
      rw [heap_setCell_same W D x _ _ v (e1.trans hdec.blk),decRow_set _ _ _ _ (by omega)]
     ·rw [HR.out]
      by_cases hlx:l=x
      ·simp only [hlx,if_true];rw [List.length_append,List.length_singleton];exact Bit.ownsRow_block h.1 fun j hj=>hset j (by have:=hvD j hj;omega)
      ·simp only [hlx,if_false];exact Bit.ownsRow_block (hdec.row l hl) fun j hj=>(hset j (hold l j hl hlx hj).1).trans (hold l j hl hlx hj).2
     ·by_cases hlx:l=x
      ·simp only [hlx,if_true] at hj;exact hvD j hj
      ·simp only [hlx,if_false] at hj;exact hdec.off l j hl hj
     ·have hnew:∀l,l<16→l≠x→(S l).ownBlock=some j→v.ownBlock=some j→False:=fun l hl hlx hj hv=>by
       rcases h.2.1 j hv with e | e
       ·exact hlx (hdec.apart l x j hl (by omega) hj (by rw [HSX.out];exact e))
       ·have:=((hdec.row l hl).lt j hj).2;omega
      by_cases hlx:l=x
      ·by_cases hmx:m=x
       ·omega
       ·simp only [hlx,if_true] at hj;simp only [hmx,if_false] at hk';exact (hnew m hm hmx hk' hj).elim
      ·by_cases hmx:m=x
       ·simp only [hlx,if_false] at hj;simp only [hmx,if_true] at hk';exact (hnew l hl hlx hj hk').elim
       ·simp only [hlx,if_false] at hj;simp only [hmx,if_false] at hk';exact hdec.apart l m j hl hm hj hk'
     ·have hb2:Below w.heap.size w W:=hbel.grown h.2.2 hbel.size (fun j hj=>by
       have:=hdec.off x j (by omega) (by rw [HSX.out];exact hj);omega)
      exact hb2.setCell (p:=⟨D,x,none⟩) hX v
    clear HROW HBEL hcl hfz hDlt HNE hcw HSX HRR HR HDEC;have HROW:=HROW';clear HROW';refine region_ops (n:=49) (by kernel_rfl) (newUse wr D x k u R) (newFin w wr D (fst N) U N k) (fun ℓ W=>ℓ 10=false→Below wr.heap.size wr W) (by kernel_rfl) (by kernel_rfl) (by rfl) (by kernel_rfl) (fun _=>(Below.refl _ _).drew) ⟨?_,?_,?_,?_,?_,?_,?_,?_,?_,?_,?_,?_,?_,?_,?_,trivial⟩ ?_
    ·intro ℓ act W hl hr hd hS hsame hdeps;have e6:act.tmps[6]?=some (.pointer (some ⟨D,0,none⟩)):=hsame 6 (by kernel_rfl)
     clear hsame hdeps;refine ⟨wanted_none (by rfl),fun K hK=>?_⟩
     go_simp;exact hK _ _ (by rfl) trivial hS (fun _ _ _ h=>h) (fun _ _ _ h=>h)
    ·intro ℓ act W hl hr hd hS hsame hdeps;have e8:act.tmps[8]?=some (.int .i64 (x:Nat)):=hsame 8 (by kernel_rfl)
     clear hsame hdeps;refine ⟨wanted_none (by rfl),fun K hK=>?_⟩
     go_simp;exact hK _ _ (by rfl) trivial hS (fun _ _ _ h=>h) (fun _ _ _ h=>h)
    ·intro ℓ act W hl hr hd hS hsame hdeps;have e6:act.tmps[6]?=some (.pointer (some ⟨D,0,none⟩)):=hsame 6 (by kernel_rfl)
     clear hsame hdeps;refine ⟨wanted_none (by rfl),fun K hK=>?_⟩
     go_simp;exact hK _ _ (by rfl) trivial hS (fun _ _ _ h=>h) (fun _ _ _ h=>h)
    ·intro ℓ act W hl hr hd hS hsame hdeps;have e8:act.tmps[8]?=some (.int .i64 (x:Nat)):=hsame 8 (by kernel_rfl)
     clear hsame hdeps;refine ⟨wanted_none (by rfl),fun K hK=>?_⟩
     go_simp;exact hK _ _ (by rfl) trivial hS (fun _ _ _ h=>h) (fun _ _ _ h=>h)
    ·intro ℓ act W hl hr hd hS hsame hdeps;obtain ⟨x35,e35,y35⟩:=hdeps ⟨2,.data⟩ (by simp) (by rfl) (by rfl) 35 (by rfl)
     replace y35:x35=.pointer (some ⟨D,0,none⟩):=y35
     subst y35;clear hsame hdeps;refine ⟨wanted_none (by rfl),fun K hK=>?_⟩
     go_simp;exact hK _ _ (by rfl) trivial hS (fun _ _ _ h=>h) (fun _ _ _ h=>h)
    ·intro ℓ act W hl hr hd hS hsame hdeps;obtain ⟨x37,e37,y37⟩:=hdeps ⟨4,.data⟩ (by simp) (by rfl) (by rfl) 37 (by rfl)
     replace y37:x37=.pointer (some ⟨D,0,none⟩):=y37
     subst y37;clear hsame hdeps;refine ⟨wanted_none (by rfl),fun K hK=>?_⟩
     go_simp;exact hK _ _ (by rfl) trivial hS (fun _ _ _ h=>h) (fun _ _ _ h=>h)
    ·intro ℓ act W hl hr hd hS hsame hdeps;obtain ⟨x38,e38,y38⟩:=hdeps ⟨5,.data⟩ (by simp) (by rfl) (by rfl) 38 (by rfl)
     replace y38:x38=.pointer (some ⟨D,0,none⟩):=y38
     subst y38;obtain ⟨x36,e36,y36⟩:=hdeps ⟨3,.data⟩ (by simp) (by rfl) (by rfl) 36 (by rfl)
     replace y36:x36=.int .i64 (x:Nat):=y36
     subst y36;clear hsame hdeps;refine ⟨wanted_none (by rfl),fun K hK=>?_⟩
     go_simp;exact hK _ _ (by rfl) trivial hS (fun _ _ _ h=>h) (fun _ _ _ h=>h)
    ·intro ℓ act W hl hr hd hS hsame hdeps;obtain ⟨x39,e39,y39⟩:=hdeps ⟨6,.data⟩ (by simp) (by rfl) (by rfl) 39 (by rfl)
     replace y39:x39=.pointer (some ⟨D,x,none⟩):=y39
     subst y39;clear hsame hdeps;refine ⟨wanted_none (by rfl),fun K hK=>?_⟩
     have hcl:=HCL.out W (hS (hr 10 (by kernel_rfl)))
     go_simp;exact hK _ _ (by rfl) trivial hS (fun _ _ _ h=>h) (fun _ _ _ h=>h)
    ·intro ℓ act W hl hr hd hS hsame hdeps;have e7:act.tmps[7]?=some (.int .i64 (k:Nat)):=hsame 7 (by kernel_rfl)
     clear hsame hdeps;refine ⟨wanted_none (by rfl),fun K hK=>?_⟩
     go_simp;exact hK _ _ (by rfl) trivial hS (fun _ _ _ h=>h) (fun _ _ _ h=>h)
    ·intro ℓ act W hl hr hd hS hsame hdeps;obtain ⟨x41,e41,y41⟩:=hdeps ⟨8,.data⟩ (by simp) (by rfl) (by rfl) 41 (by rfl)
     replace y41:x41=.int .i64 (k:Nat):=y41
     subst y41;clear hsame hdeps;refine ⟨wanted_none (by rfl),fun K hK=>?_⟩
     have hb:=fun h=>(hS h).size
     go_simp;exact hK _ _ ⟨_,rfl,H9.out _ (hS (hr 10 (by kernel_rfl))),(cell_of_row _ _ 0 _ _ _ (heap_alloc_new _ _)).trans rfl,by simp⟩ trivial (fun h=>(hS h).alloc (hb h) _) (fun j u0 _ h=>newUse_keep j u0 (fun _ v h=>h.alloc _) (fun _ v h=>h.alloc _) h) (fun j u0 hm h=>newFin_keep j u0 (fun e=>by subst e;exact Bool.noConfusion ((show mayLead .any _ 9 14=false by kernel_rfl).symm.trans hm)) h)
    ·intro ℓ act W hl hr hd hS hsame hdeps;obtain ⟨x40,e40,y40⟩:=hdeps ⟨7,.data⟩ (by simp) (by rfl) (by rfl) 40 (by rfl)
     replace y40:x40=u:=y40
     rw [y40] at e40;obtain ⟨x42,e42,y42⟩:=hdeps ⟨9,.data⟩ (by simp) (by rfl) (by rfl) 42 (by rfl)
     obtain ⟨g42,y42,l42,c42,m42⟩:=(y42:N9 wr k x42 W);subst y42;clear hsame hdeps;refine ⟨wanted_none (by rfl),fun K hK=>?_⟩
     have hW:=hS hl;refine wp_append_near (.tmp 40) (.tmp 42) 92 rfl 3 i0 (.int .i64 0) 1 8 Tryz.underlying92 hi hz0 hz1 hz2 rfl (by decide) u R.length (cellsN R) (eval_tmp e40) (HROW.out W hW) ⟨g42,0,none⟩ 1 1 (cellsN [k]) (eval_tmp e42) rfl (lit_at c42) (cellsN_one _) (by unfold maxLen;omega) (by omega) ?_
     intro v9 w9 o9 g9 n9;exact hK _ _ (H10.out W v9 w9 hW o9 g9 n9) trivial (fun h=>by cases h) (fun j u0 hm h=>newUse_keep j u0 (fun _ v h=>h.grown g9 HUL.out) (fun e v h=>absurd e.symm (needed_ne hm)) h) (fun j u0 hm h=>newFin_keep j u0 (fun e=>by subst e;exact Bool.noConfusion ((show mayLead .any _ 10 14=false by kernel_rfl).symm.trans hm)) h)
    ·intro ℓ act W hl hr hd hS hsame hdeps;obtain ⟨x33,e33,y33⟩:=hdeps ⟨0,.data⟩ (by simp) (by rfl) (by rfl) 33 (by rfl)
     replace y33:x33=.pointer (some ⟨D,0,none⟩):=y33
     subst y33;clear hsame hdeps;refine ⟨wanted_none (by rfl),fun K hK=>?_⟩
     go_simp;exact hK _ _ (by rfl) trivial hS (fun _ _ _ h=>h) (fun _ _ _ h=>h)
    ·intro ℓ act W hl hr hd hS hsame hdeps;obtain ⟨x44,e44,y44⟩:=hdeps ⟨11,.data⟩ (by simp) (by rfl) (by rfl) 44 (by rfl)
     replace y44:x44=.pointer (some ⟨D,0,none⟩):=y44
     subst y44;clear hsame hdeps;refine ⟨wanted_none (by rfl),fun K hK=>?_⟩
     go_simp;exact hK _ _ (by rfl) trivial hS (fun _ _ _ h=>h) (fun _ _ _ h=>h)
    ·intro ℓ act W hl hr hd hS hsame hdeps;obtain ⟨x45,e45,y45⟩:=hdeps ⟨12,.data⟩ (by simp) (by rfl) (by rfl) 45 (by rfl)
     replace y45:x45=.pointer (some ⟨D,0,none⟩):=y45
     subst y45;obtain ⟨x34,e34,y34⟩:=hdeps ⟨1,.data⟩ (by simp) (by rfl) (by rfl) 34 (by rfl)
     replace y34:x34=.int .i64 (x:Nat):=y34
     subst y34;clear hsame hdeps;refine ⟨wanted_none (by rfl),fun K hK=>?_⟩
     go_simp;exact hK _ _ (by rfl) trivial hS (fun _ _ _ h=>h) (fun _ _ _ h=>h)
    ·intro ℓ act W hl hr hd hS hsame hdeps;obtain ⟨x46,e46,y46⟩:=hdeps ⟨13,.data⟩ (by simp) (by rfl) (by rfl) 46 (by rfl)
     replace y46:x46=.pointer (some ⟨D,x,none⟩):=y46
     subst y46;obtain ⟨x43,e43,y43⟩:=hdeps ⟨10,.data⟩ (by simp) (by rfl) (by rfl) 43 (by rfl)
     obtain ⟨o43,n43,g43⟩:=(y43:N10 wr u R k x43 W);clear hsame hdeps;refine ⟨wanted_none (by rfl),fun K hK=>?_⟩
     obtain ⟨hc14,hf14,gb,cp,hv9⟩:=H14.out W x43 ⟨o43,n43,g43⟩;rw [hv9] at e43;go_simp;have hfin:=HF.out W x43 ⟨o43,n43,g43⟩;rw [hv9] at hfin;exact hK _ _ (by rfl) hfin (fun h=>by have h10:=hd 10 (by kernel_rfl);exact absurd (h10.symm.trans h) (by decide)) (fun j u0 hm h=>newUse_keep j u0 (fun _ v h=>h.setCell HDL.out _ _) (fun e v h=>by subst e;exact Bool.noConfusion ((show needed .any _ 14 10=false by kernel_rfl).symm.trans hm)) h) (fun j u0 hm h=>newFin_keep j u0 (fun e=>absurd e.symm (lead_ne hm)) h)
    ·intro act W hd hz hsame hdone;obtain ⟨_,fin14⟩:∃v,newFin w wr D (fst N) U N k 14 v W:=by obtain ⟨v,_,h⟩:=hdone 14 (by decide);exact ⟨v,h⟩
     obtain ⟨S2,d2,b2⟩:=fin14;clear hdone;obtain ⟨tm,df⟩:=act;obtain rfl:df=[]:=hd;have q0:=getD_same (hsame 0 (by kernel_rfl))
     have q1:=getD_same (hsame 1 (by kernel_rfl))
     have q2:=getD_same (hsame 2 (by kernel_rfl))
     have q3:=getD_same (hsame 3 (by kernel_rfl))
     have q4:=getD_same (hsame 4 (by kernel_rfl))
     have q5:=getD_same (hsame 5 (by kernel_rfl))
     have q6:=getD_same (hsame 6 (by kernel_rfl))
     have q7:=getD_same (hsame 7 (by kernel_rfl))
     have q8:=getD_same (hsame 8 (by kernel_rfl))
     have q9:=getD_same (hsame 9 (by kernel_rfl))
     have q10:=getD_same (hsame 10 (by kernel_rfl))
     have q11:=getD_same (hsame 11 (by kernel_rfl))
     have q12:=getD_same (hsame 12 (by kernel_rfl))
     have q13:=getD_same (hsame 13 (by kernel_rfl))
     have q14:=getD_same (hsame 14 (by kernel_rfl))
     have q15:=getD_same (hsame 15 (by kernel_rfl))
     have q16:=getD_same (hsame 16 (by kernel_rfl))
     have q17:=getD_same (hsame 17 (by kernel_rfl))
     have q18:=getD_same (hsame 18 (by kernel_rfl))
     have q19:=getD_same (hsame 19 (by kernel_rfl))
     have q20:=getD_same (hsame 20 (by kernel_rfl))
     have q21:=getD_same (hsame 21 (by kernel_rfl))
     have q22:=getD_same (hsame 22 (by kernel_rfl))
     have q23:=getD_same (hsame 23 (by kernel_rfl))
     have q24:=getD_same (hsame 24 (by kernel_rfl))
     have q25:=getD_same (hsame 25 (by kernel_rfl))
     have q26:=getD_same (hsame 26 (by kernel_rfl))
     have q27:=getD_same (hsame 27 (by kernel_rfl))
     have q28:=getD_same (hsame 28 (by kernel_rfl))
     have q29:=getD_same (hsame 29 (by kernel_rfl))
     have q30:=getD_same (hsame 30 (by kernel_rfl))
     have q31:=getD_same (hsame 31 (by kernel_rfl))
     have q32:=getD_same (hsame 32 (by kernel_rfl))
     have q47:=getD_same (hsame 47 (by kernel_rfl))
     have q48:=getD_same (hsame 48 (by kernel_rfl))
     clear hsame;rw [arr_all tm 49 hz,show List.range 49=[0,1,2,3,4,5,6,7,8,9,10,11,12,13,14,15,16,17,18,19,20,21,22,23,24,25,26,27,28,29,30,31,32,33,34,35,36,37,38,39,40,41,42,43,44,45,46,47,48] from rfl]
     simp only [List.map_cons,List.map_nil,List.getElem_toArray,List.getElem_cons_zero,List.getElem_cons_succ,q0,q1,q2,q3,q4,q5,q6,q7,q8,q9,q10,q11,q12,q13,q14,q15,q16,q17,q18,q19,q20,q21,q22,q23,q24,q25,q26,q27,q28,q29,q30,q31,q32,q47,q48];clear q0 q1 q2 q3 q4 q5 q6 q7 q8 q9 q10 q11 q12 q13 q14 q15 q16 q17 q18 q19 q20 q21 q22 q23 q24 q25 q26 q27 q28 q29 q30 q31 q32 q47 q48 hz;generalize tm.getD 33 undef=z33;generalize tm.getD 34 undef=z34;generalize tm.getD 35 undef=z35;generalize tm.getD 36 undef=z36;generalize tm.getD 37 undef=z37;generalize tm.getD 38 undef=z38;generalize tm.getD 39 undef=z39;generalize tm.getD 40 undef=z40;generalize tm.getD 41 undef=z41;generalize tm.getD 42 undef=z42;generalize tm.getD 43 undef=z43;generalize tm.getD 44 undef=z44;generalize tm.getD 45 undef=z45;generalize tm.getD 46 undef=z46;have D2:=hid d2;have B2:=hid b2;clear d2 b2 HCL H9 HUL HDL H10 H14 HF HROW
     go_wp2_with fail
     refine ⟨⟨k+1,S2,by omega,by go_num,D2.out,B2.out⟩,?_⟩
     simp [intOf];omega
  ·obtain rfl:k=n:=by omega
   have H1:=hid hdec;have H2:=hid hbel;clear hdec hbel
   go_wp2_with fail
   go_ret2;exact ⟨_,S,rfl,H2.out,hX,H1.out⟩
end Go.Proofs.YthbjllabgpaaaaaGreat.Huf
namespace Go.Proofs.YthbjllabgpaaaaaGreat.Huf
open Go.Lib (hid)
set_option maxHeartbeats 4000000
open Go.ChangeShapes Go.WideShapes Go.ChangeAt Go.RowKit
open Go.Proofs.YthbjllabgpaaaaaGreat.Bit (RdAt tb tat rV rI rOk errI rbits_any rerr_any)
set_option linter.unusedVariables false
theorem DecAt.cells {w:World} {D:Nat} {S:Nat→Value} {f:Nat→Nat} {t:Nat} {R:Nat→List Nat} (h:DecAt w D S f t R) :
  (∀j,j<16→w.cell? ⟨D,j,none⟩=some (S j))∧(∀j,j<16→w.cell? ⟨D,16+j,none⟩=some (.int .i64 (f j:Nat)))∧w.cell? ⟨D,32,none⟩=some (.int .i64 (t:Nat)):=by
 refine ⟨fun j hj=>?_,fun j hj=>?_,?_⟩
 ·rw [cell_of_row w D j _ _ _ h.blk,decRow_sym _ _ _ _ hj]
 ·rw [cell_of_row w D (16+j) _ _ _ h.blk,decRow_fst _ _ _ _ hj]
 ·rw [cell_of_row w D 32 _ _ _ h.blk,decRow_taken]
theorem DecAt.draws {w:World} {D:Nat} {S:Nat→Value} {f:Nat→Nat} {t:Nat} {R:Nat→List Nat} (h:DecAt w D S f t R) (n:Nat):DecAt (w.drewN n) D S f t R:=
 ⟨h.blk,fun l hl=>h.row l hl,h.off,h.apart⟩
theorem quiet_w {P:Program} {f:FuncId} {args:Array Value} {w:World} {n:Nat} {v:Value}
  (h:Calls P f args (w.drewN n) fun e w'=>e=.returned v∧w.drewN n=w'):Calls P f args (w.drewN n) fun e w''=>e=.returned v∧∃m,w''=w.drewN m:=
 h.mono fun _ _ ⟨he,hm⟩=>⟨he,n,hm.symm⟩
theorem begins_any (D:Nat) (S:Nat→Value) (f:Nat→Nat) (t:Nat) (R:Nat→List Nat) (v k:Nat) (w:World) (h:DecAt w D S f t R) (hk:k≤15) (hv:v<65536) (ht:t≤32768) :
  Calls Tryz.prog 177 #[.pointer (some ⟨D,0,none⟩),.int .i64 v,.int .i64 k] w fun e w'=>e=.returned (.bool (decide (v*2^(15-k)<t)))∧∃n,w'=w.drewN n:=by
 have hc:=h.cells.2.2;have hr:2^(15-k)≤32768:=Nat.le_trans (Nat.pow_le_pow_right (by decide) (show 15-k≤15 by omega)) (by decide)
 have C1:=hid (fun n=>room_any k hk (w.drewN n))
 generalize (2:Nat)^(15-k)=r at *;have hm:v*r≤65536*32768:=Nat.mul_le_mul (by omega) hr
 obtain ⟨m,hmm⟩:∃m,v*r=m:=⟨_,rfl⟩;rw [hmm] at hm ⊢;have hmi:(v:Int)*r=(m:Int):=by rw [←hmm];push_cast;rfl
 have hw1:IntKind.i64.wrap ((v:Int)*r)=(m:Int):=by rw [hmi];exact IntWalk.i64_in _ (by omega)
 clear h hr hm hmm hv ht hmi
 go_enter Tryz.func177,Tryz.ntmps177
 go_wp2_with fail
 go_quiet ((go_at_call 184;exact quiet_w (C1.out _)))
 go_wp2_with fail
 go_ret;exact ⟨rfl,_,rfl⟩
theorem count_filter (N:List Nat) (l:Nat):∀k,k≤N.length→((List.range k).filter fun i=>N.getD i 0==l).length=(N.take k).count l:=by
 intro k
 induction k with
 | zero=>intro _;simp
 | succ k ih=>
  intro hk;rw [List.range_succ,List.filter_append,List.length_append,ih (by omega),List.take_succ_eq_append_getElem (by omega),List.count_append]
  have e:N.getD k 0=N[k]:=by rw [List.getD_eq_getElem?_getD,List.getElem?_eq_getElem (by omega)];rfl
  simp only [List.filter_cons,List.filter_nil,e,List.count_singleton]
  by_cases h:N[k]=l
  ·simp [h]
  ·simp [h]
theorem symsOf_count (N:List Nat) (l:Nat):(symsOf N N.length l).length=cn N l:=by
 unfold symsOf cn
 by_cases h:l=0
 ·rw [if_pos h,if_pos h];rfl
 ·rw [if_neg h,if_neg h,count_filter N l _ (Nat.le_refl _),List.take_length]
def nxG (N:List Nat) (T:List Bool) (i:Nat) (bad:Bool):Nat→Nat→Nat→Nat×Int×Nat×Bool
 | 0,k,_=>(0,3,i+k,bad)
 | f+1,k,v=>
  if v*2^(15-k)<used N 15 then
   if bad=true∨T.length≤i+k then (0,2,i+k,true)
   else if 2*v+(tat T (i+k)).toNat<top N (k+1) then ((symsOf N N.length (k+1)).getD (2*v+(tat T (i+k)).toNat-fst N (k+1)) 0,0,i+k+1,bad)
   else nxG N T i bad f (k+1) (2*v+(tat T (i+k)).toNat)
  else (0,3,i+k,bad)
theorem DecAt.grown {w w':World} {D b:Nat} {S:Nat→Value} {f:Nat→Nat} {t:Nat} {R:Nat→List Nat} (h:DecAt w D S f t R) (k:w.grownBy w' (some b)) {c:Array Value} {T:TypeId} {fz:Nat×Nat}
  (hb:w.heap[b]?=some (.cells c T fz)) (h1:T≠219) (h2:T≠3):DecAt w' D S f t R:=by
 have hD:D≠b:=by
  rintro rfl
  have:=h.blk
  rw [hb] at this;simp only [Option.some.injEq,Obj.cells.injEq] at this;exact h1 this.2.1
 refine ⟨by rw [k.block D h.lt (by simp;exact hD)];exact h.blk,fun l hl=>?_,h.off,h.apart⟩
 refine Bit.ownsRow_block (h.row l hl) fun j hj=>k.block j ((h.row l hl).lt j hj).2 ?_
 rintro e;rcases (h.row l hl).2 with ⟨e1,_⟩ | ⟨g,cap,cur,e1,_,hg,_⟩
 ·rw [e1] at hj;cases hj
 ·rw [e1] at hj;simp only [Value.ownBlock,Option.some.injEq] at hj e;subst hj e;rw [hb] at hg;simp only [Option.some.injEq,Obj.cells.injEq] at hg;exact h2 hg.2.1
theorem DecAt.syms {w:World} {D:Nat} {S:Nat→Value} {f:Nat→Nat} {t:Nat} {R:Nat→List Nat} (h:DecAt w D S f t R) (l:Nat) (hl:l<16) :
  ∃a cap,S l=.slice a (R l).length cap∧∀j (hj:j<(R l).length),∃g,a=some ⟨g,0,none⟩∧w.cell? ⟨g,j,none⟩=some (.int .i64 (((R l)[j]:Nat):Int)):=by
 have hr:=h.row l hl;rcases hr.2 with ⟨e1,e2⟩ | ⟨g,cap,cur,e1,_,hg,_⟩
 ·exact ⟨none,0,by rw [e1,e2],fun j hj=>by omega⟩
 ·refine ⟨some ⟨g,0,none⟩,cap,e1,fun j hj=>⟨g,rfl,?_⟩⟩
  rw [e1] at hr;rw [hr.cellAt j (by omega)]
  simp [cellsN,hj]
theorem rV_one (T:List Bool) (i:Nat) (h:i<T.length):rV T i false 1=(tat T i).toNat∧rI T i false 1=i+1∧rOk T i false 1=true:=by
 have hok:rOk T i false 1=true:=by unfold rOk;simp;omega
 refine ⟨?_,by unfold rI;rw [if_pos hok],hok⟩
 unfold rV;rw [if_pos hok,Bit.take_range T i 1 (by omega)]
 simp [Bit.num]
theorem rV_bad (T:List Bool) (i:Nat) (e:Bool) (h:e=true∨T.length≤i):rV T i e 1=0∧rI T i e 1=i∧rOk T i e 1=false:=by
 have hok:rOk T i e 1=false:=by
  unfold rOk;rcases h with h | h
  ·subst h;rfl
  ·cases e
   ·simp;omega
   ·rfl
 exact ⟨by unfold rV;rw [if_neg (by simp [hok])],by unfold rI;rw [if_neg (by simp [hok])],hok⟩
theorem or_bit (d β:Nat) (hd:d%2=0) (hd2:d<2^62) (hβ:β<2):bits .or .i64 (d:Int) (β:Int)=((d+β:Nat):Int):=by
 have h:=Bit.i64_or β d 1 (by simpa using hβ) (by simpa using hd) hd2 (by decide)
 have e:bits .or .i64 (d:Int) (β:Int)=bits .or .i64 (β:Int) (d:Int):=by
  show IntKind.i64.wrap ((BitVec.ofInt 64 (d:Int) ||| BitVec.ofInt 64 (β:Int)).toNat:Int)=IntKind.i64.wrap ((BitVec.ofInt 64 (β:Int) ||| BitVec.ofInt 64 (d:Int)).toNat:Int);rw [BitVec.or_comm]
 rw [e,h,Nat.add_comm]
theorem tops (N:List Nat) (k:Nat):top N (k+1)=fst N (k+1)+cn N (k+1):=rfl
set_option maxRecDepth 10000 in
theorem next_any (D:Nat) (S:Nat→Value) (N:List Nat) (b:Nat) (t:ByteArray) (i:Nat) (e:Bool) (w:World) (h:DecAt w D S (fst N) (used N 15) (symsOf N N.length)) (hr:RdAt 107 w b t i e)
  (hi:i≤(tb t).length) (ht:t.size≤1000000) (hN:N.length≤320) (hU:used N 15≤32768) :
  Calls Tryz.prog 159 #[.pointer (some ⟨D,0,none⟩),.pointer (some ⟨b,0,none⟩)] w fun r w'=>
   r=.returned (.tuple #[.int .i64 (nxG N (tb t) i e 15 0 0).1,.int .i64 (nxG N (tb t) i e 15 0 0).2.1]) ∧
   RdAt 107 w' b t (nxG N (tb t) i e 15 0 0).2.2.1 (nxG N (tb t) i e 15 0 0).2.2.2∧w.grownBy w' (some b):=by
 generalize hres:nxG N (tb t) i e 15 0 0=res at *;have HRES:=hid hres;have H0:=hid h;have HR0:=hid hr;have HT:Hid (t.size≤1099511627776):=by show t.size≤1099511627776;omega
 have HUU:=hid hU;have hL:(tb t).length≤8000000:=by rw [Bit.tb_length];omega
 have HL:=hid hL;clear hres h hr hU hL ht
 go_enter Tryz.func159,Tryz.ntmps159
 go_wp2_with fail
 go_loopw [6,10] (fun x c wr=>∃k v:Nat,k≤15∧c=.int .i64 k∧x=.int .i64 v∧v<2^k∧top N k≤v∧i+k≤(tb t).length∧RdAt 107 wr b t (i+k) e∧w.grownBy wr (some b) ∧
  nxG N (tb t) i e (15-k) k v=res) (fun _ c _=>15-(intOf c).toNat)
 case atStart=>exact ⟨0,0,by omega,rfl,rfl,by decide,by simp [top,fst,cn],hi,HR0.out,World.grownBy.refl _ _,HRES.out⟩
 case round=>
  obtain ⟨k,v,hk,rfl,rfl,hv,htop,hik,hrd,hg,hnx⟩:=hrel;clear HRES
  by_cases hlt:k<15
  ·obtain ⟨f,hf⟩:∃f,15-k=f+1:=⟨15-k-1,by omega⟩
   rw [hf] at hnx;have hv15:v<32768:=Nat.lt_of_lt_of_le hv (Nat.le_trans (Nat.pow_le_pow_right (by decide) hk) (by decide))
   have hd:DecAt wr D S (fst N) (used N 15) (symsOf N N.length):=H0.out.grown hg HR0.out (by decide) (by decide)
   have B1:=hid (begins_any D S _ _ _ v k wr hd (by omega) (by omega) HUU.out)
   unfold nxG at hnx
   by_cases hbg:v*2^(15-k)<used N 15
   ·rw [if_pos hbg] at hnx;rw [decide_eq_true hbg] at B1;have C1:=hid (fun n=>rbits_any b t (i+k) e 1 (wr.drewN n) hrd hik HT.out)
    have e1:Bit.cnt 1=1:=rfl;rw [e1] at C1
    by_cases hbad:e=true∨(tb t).length≤i+k
    ·rw [if_pos hbad] at hnx;obtain ⟨r1,r2,r3⟩:=rV_bad (tb t) (i+k) e hbad;rw [r1,r2,r3] at C1;have HNX:=hid hnx;have HG:=hid hg;obtain ⟨dv,hdv⟩:∃dv,2*v=dv:=⟨_,rfl⟩;have hw1:wrap64 ((v:Int)*2)=(dv:Int):=by rw [show (v:Int)*2=(dv:Int) by omega];exact IntWalk.wrap64_in _ (by omega)
     have hor:=or_bit dv 0 (by omega) (by omega) (by omega)
     clear hnx hg hrd hd hbg hbad hv htop hik hv15 hdv
     go_wp2_with fail
     refine B1.out.mono ?_;rintro r w1 ⟨rfl,n1,rfl⟩
     go_wp2_with fail
     refine (C1.out n1).mono ?_;rintro r w2 ⟨rfl,hrd2,hg2⟩
     go_wp2_with fail
     refine (rerr_any b t (i+k) true w2 hrd2).mono ?_;rintro r w3 ⟨rfl,rfl⟩
     go_wp2_with fail
     go_ret2;subst HNX;exact ⟨rfl,hrd2,Bit.rgrown_trans HG.out (Bit.rgrown_from_drewN hg2)⟩
    ·rw [if_neg hbad] at hnx
     obtain ⟨rfl,hik2⟩:e=false∧i+k<(tb t).length:=by
      cases e
      ·exact ⟨rfl,by simp at hbad;omega⟩
      ·simp at hbad
     obtain ⟨r1,r2,r3⟩:=rV_one (tb t) (i+k) hik2;rw [r1,r2,r3] at C1;have hβ:(tat (tb t) (i+k)).toNat<2:=(tat (tb t) (i+k)).toNat_lt;generalize (tat (tb t) (i+k)).toNat=β at *;obtain ⟨dv,hdv⟩:∃dv,2*v=dv:=⟨_,rfl⟩;rw [hdv] at hnx;have hw1:wrap64 ((v:Int)*2)=(dv:Int):=by rw [show (v:Int)*2=(dv:Int) by omega];exact IntWalk.wrap64_in _ (by omega)
     have hor:=or_bit dv β (by omega) (by omega) hβ
     obtain ⟨x,hx⟩:∃x,dv+β=x:=⟨_,rfl⟩;rw [hx] at hnx hor;have hx1:fst N (k+1)≤x:=by rw [fst_top];omega
     have hx2:x<2^(k+1):=by rw [Nat.pow_succ];omega
     have hx3:x<65536:=by omega
     obtain ⟨ix,hix⟩:∃ix,x-fst N (k+1)=ix:=⟨_,rfl⟩;have hw2:wrap64 ((x:Int)-(fst N (k+1):Nat))=(ix:Int):=by rw [show (x:Int)-(fst N (k+1):Nat)=(ix:Int) by omega];exact IntWalk.wrap64_in _ (by omega)
     rw [hix] at hnx;have HNX:=hid hnx;have HG:=hid hg;have HD:=hid hd;have HX2:=hid hx2;have HIK:=hid hik2;have hcn:=symsOf_count N (k+1);have htp:=tops N (k+1-1);rw [Nat.add_sub_cancel] at htp
     have HTP:Hid (x<top N (k+1)↔ix<(symsOf N N.length (k+1)).length):=by
      show x<top N (k+1)↔ix<(symsOf N N.length (k+1)).length;rw [hcn,htp];omega
     clear hnx hg hd hbg hbad hv htop hik hik2 hv15 hdv hx hx2 hcn htp hβ hx1 hx3;have HIX:=hid hix;clear hix
     go_wp2_with fail
     refine B1.out.mono ?_;rintro r w1 ⟨rfl,n1,rfl⟩
     go_wp2_with fail
     refine (C1.out n1).mono ?_;rintro r w2 ⟨rfl,hrd2,hg2⟩;have HG2:=hid hg2;have HRD2:=hid hrd2;have hd2:=(HD.out.draws n1).grown hg2 (show (wr.drewN n1).heap[b]?=_ from hrd) (by decide) (by decide)
     obtain ⟨d0,d1,_⟩:=hd2.cells;have c1:=d1 (k+1) (by omega)
     have c2:=d0 (k+1) (by omega)
     obtain ⟨sa,scap,hsl,hcells⟩:=hd2.syms (k+1) (by omega)
     rw [hsl] at c2;clear d0 d1 hd2 hsl hg2 HD;generalize symsOf N N.length (k+1)=SY at *;have HC:=hid hcells;clear hcells;generalize fst N (k+1)=f1 at *;obtain ⟨sl,hsl⟩:∃sl,SY.length=sl:=⟨_,rfl⟩;rw [hsl] at c2 HTP;have HSL:=hid hsl;clear hsl
     by_cases hin:ix<sl
     ·have hxt:x<top N (k+1):=HTP.out.2 hin;obtain ⟨g,hsa,hcg⟩:=HC.out ix (by rw [HSL.out];exact hin)
      have hsy:SY.getD ix 0=SY[ix]'(by rw [HSL.out];exact hin):=by
       rw [List.getD_eq_getElem?_getD,List.getElem?_eq_getElem (by rw [HSL.out];exact hin)];rfl
      rw [←hsy] at hcg
      have HNX2:Hid ((SY.getD ix 0,(0:Int),i+k+1,false)=res):=by
       have:=HNX.out
       rw [if_pos hxt] at this;exact this
      generalize SY.getD ix 0=sym at *;subst hsa;clear hxt hsy HNX HTP HC hrd hrd2
      go_wp2_with fail
      refine (rerr_any b t (i+k+1) false w2 HRD2.out).mono ?_;rintro r w3 ⟨rfl,rfl⟩
      go_wp2_with fail
      go_ret2;subst HNX2;exact ⟨rfl,HRD2.out,Bit.rgrown_trans HG.out (Bit.rgrown_from_drewN HG2.out)⟩
     ·have hxt:¬x<top N (k+1):=fun h=>hin (HTP.out.1 h)
      have HNX2:Hid (nxG N (tb t) i false f (k+1) x=res):=by
       have:=HNX.out
       rw [if_neg hxt] at this;exact this
      have HXT:=hid hxt;have hin2:¬((ix:Int)<(sl:Int)):=by omega
      clear hxt HNX HTP HC hrd hrd2
      go_wp2_with fail
      refine (rerr_any b t (i+k+1) false w2 HRD2.out).mono ?_;rintro r w3 ⟨rfl,rfl⟩
      go_wp2_with fail
      refine ⟨⟨k+1,x,by omega,by go_num,rfl,HX2.out,Nat.le_of_not_lt HXT.out,by have:=HIK.out;omega,HRD2.out,Bit.rgrown_trans HG.out (Bit.rgrown_from_drewN HG2.out),?_⟩,?_⟩
      ·rw [show 15-(k+1)=f by omega];exact HNX2.out
      ·simp [intOf];omega
   ·rw [if_neg hbg] at hnx;rw [decide_eq_false hbg] at B1;have HNX:=hid hnx;have HG:=hid hg;have HRD:=hid hrd;clear hnx hg hrd hd hbg hv htop hik hv15
    go_wp2_with fail
    refine B1.out.mono ?_;rintro r w1 ⟨rfl,n1,rfl⟩
    go_wp2_with fail
    go_ret2;have HNX:=HNX.out;subst HNX;exact ⟨rfl,HRD.out,Bit.rgrown_drewN HG.out _⟩
  ·obtain rfl:k=15:=by omega
   have HNX:=hid hnx;have HG:=hid hg;have HRD:=hid hrd;clear hnx hg hrd hv htop hik
   go_wp2_with fail
   go_ret2;have HNX:=HNX.out;subst HNX;exact ⟨rfl,HRD.out,HG.out⟩
end Go.Proofs.YthbjllabgpaaaaaGreat.Huf
namespace Go.Proofs.YthbjllabgpaaaaaGreat.Huf
open Go.Lib (hid)
set_option maxHeartbeats 4000000
open Go.ChangeShapes Go.WideShapes Go.ChangeAt Go.RowKit
set_option linter.unusedVariables false
theorem power_any (n P:Nat) (w:World) (hP:2^n=P) (hn:n≤15):Calls Tryz.prog 109 #[.int .i64 n] w fun e w'=>e=.returned (.int .i64 P)∧w=w':=by
 go_enter Tryz.func109,Tryz.ntmps109
 go_wp2_with fail
 go_loop [3,4] (fun p i=>∃k Q:Nat,k≤n∧i=.int .i64 k∧p=.int .i64 Q∧2^k=Q) (fun _ i=>n-(intOf i).toNat)
 case atStart=>exact ⟨0,1,Nat.zero_le _,rfl,rfl,rfl⟩
 case round=>
  obtain ⟨k,Q,hk,rfl,rfl,hQ⟩:=hrel;have hQ2:Q≤32768:=by rw [←hQ];exact Nat.le_trans (Nat.pow_le_pow_right (by decide) (show k≤15 by omega)) (by decide)
  have HQ:=hid hQ;have HP:=hid hP;clear hQ hP
  by_cases hlt:k<n
  ·have hlt':(k:Int)<n:=by omega
   go_wp2_with fail
   refine ⟨⟨k+1,Q*2,by omega,by go_num,by go_num,by rw [Nat.pow_succ,HQ.out]⟩,?_⟩
   simp [intOf];omega
  ·obtain rfl:k=n:=by omega
   obtain rfl:Q=P:=HQ.out.symm.trans HP.out
   go_wp2_with fail
   go_ret;exact ⟨rfl,rfl⟩
def gU (l:Nat):Nat:=if l=0 then 0 else 2^(15-l)
theorem gU_le (l:Nat):gU l≤32768:=by
 unfold gU
 split
 ·omega
 ·exact Nat.le_trans (Nat.pow_le_pow_right (by decide) (show 15-l≤15 by omega)) (by decide)
theorem totU_le:∀(l:List Nat),tot gU l≤l.length*32768
 | []=>by simp [tot]
 | x::r=>by have:=totU_le r;have:=gU_le x;simp only [tot,List.length_cons];omega
set_option maxRecDepth 10000 in
theorem refCheck_any (a:Option Addr) (n cap:Nat) (L:List Int) (w:World) (hn:L.length=n) (h:IsInts w a L) (hl:n≤1000000) :
  Calls Tryz.prog 83 #[.slice a n cap] w fun e w'=>e=.returned (chk L)∧w=w':=by
 have H:=hid h;clear h
 by_cases hb:320<n
 ·have hc:chk L=.tuple #[.int .i64 0,.int .i64 50]:=by
   unfold chk fine;rw [if_neg];simp;omega
  have hb':(320:Int)<n:=by omega
  rw [hc]
  go_enter Tryz.func83,Tryz.ntmps83
  go_wp2_with fail
  go_ret2;exact ⟨rfl,rfl⟩
 ·have hb':¬((320:Int)<n):=by omega
  generalize hres:chk L=res;have HR:=hid hres;clear hres
  go_enter Tryz.func83,Tryz.ntmps83
  go_wp2_with fail
  go_loop [4,5] (fun v i=>∃k T:Nat,k≤n∧i=.int .i64 k∧allIn 15 (L.take k)=true∧tot gU (nats (L.take k))=T∧v=.int .i64 (32768-(T:Int))) (fun _ i=>n-(intOf i).toNat)
  case atStart=>exact ⟨0,0,Nat.zero_le _,rfl,rfl,rfl,rfl⟩
  case round=>
   obtain ⟨k,T,hk,rfl,hal,hT,rfl⟩:=hrel
   have hTl:T≤10485760:=by
    have:=totU_le (nats (L.take k))
    rw [nats_length,List.length_take,hT] at this;omega
   have HA:=hid hal;have HT:=hid hT;clear hal hT
   by_cases hlt:k<n
   ·have hlt':(k:Int)<n:=by omega
    obtain ⟨b,off,rfl,hbl,hc⟩:=H.out (by omega)
    have hck:=hc k (by omega)
    have TA:=hid (allIn_take 15 L k (by omega))
    have TN:Hid (nats (L.take (k+1))=nats (L.take k)++[L[k].toNat]):=hid (by
     unfold nats;rw [List.take_succ_eq_append_getElem (by omega),List.map_append];rfl)
    have FB:Hid (L[k]<0∨15<L[k]→res=.tuple #[.int .i64 0,.int .i64 50]):=hid (fun h=>by
     rw [←HR.out];unfold chk fine;rw [allIn_false 15 L k (by omega) h];simp)
    generalize L[k]=x at *;clear hc
    by_cases h0:x<0
    ·obtain rfl:=FB.out (.inl h0)
     go_wp2_with fail
     go_ret2;exact ⟨rfl,rfl⟩
    ·by_cases h15:15<x
     ·obtain rfl:=FB.out (.inr h15);have d0:decide (x<0)=false:=by simp;omega
      go_wp2_with fail
      go_ret2;exact ⟨rfl,rfl⟩
     ·obtain ⟨y,rfl⟩:∃y:Nat,x=y:=⟨x.toNat,by omega⟩
      have HA2:Hid (allIn 15 (L.take (k+1))=true):=hid (by rw [TA.out,HA.out];simp;omega)
      have HT2:Hid (tot gU (nats (L.take (k+1)))=T+gU y):=hid (by rw [TN.out,tot_append,HT.out];simp [tot])
      clear TA TN FB HA HT
      by_cases hy:y=0
      ·subst hy;have HT3:Hid (tot gU (nats (L.take (k+1)))=T):=hid (by rw [HT2.out];rfl)
       go_wp2_with fail
       refine ⟨⟨k+1,T,by omega,by go_num,HA2.out,HT3.out,rfl⟩,?_⟩
       simp [intOf];omega
      ·obtain ⟨e,he⟩:∃e,15-y=e:=⟨_,rfl⟩;obtain ⟨P,hP⟩:∃P,2^e=P:=⟨_,rfl⟩;have HT3:Hid (tot gU (nats (L.take (k+1)))=T+P):=hid (by rw [HT2.out];unfold gU;rw [if_neg hy,he,hP])
       have hPb:P≤32768:=by rw [←hP];exact Nat.le_trans (Nat.pow_le_pow_right (by decide) (show e≤15 by omega)) (by decide)
       have C:=fun w=>hid (power_any e P w hP (by omega))
       have e15:15-(y:Int)=e:=by omega
       have hy0:(0:Int)<y:=by omega
       clear hP HT2 he
       go_wp2_with fail
       refine (C _).out.mono ?_;rintro r w' ⟨rfl,rfl⟩
       go_wp2_with fail
       refine ⟨⟨k+1,T+P,by omega,by go_num,HA2.out,HT3.out,by congr 1;omega⟩,?_⟩
       simp [intOf];omega
   ·obtain rfl:k=n:=by omega
    have HU:Hid (used (nats L) 15=T∧allIn 15 L=true):=hid (by
     have h1:=HA.out;have h2:=HT.out;rw [List.take_of_length_le (by omega)] at h1 h2
     exact ⟨by rw [used_all _ (nats_le h1)];exact h2,h1⟩)
    by_cases hneg:32768<T
    ·have hr:res=.tuple #[.int .i64 0,.int .i64 50]:=by
      rw [←HR.out];unfold chk fine;rw [HU.out.1];rw [if_neg];simp;omega
     subst hr;have hneg':32768-(T:Int)<0:=by omega
     go_wp2_with fail
     go_ret2;exact ⟨rfl,rfl⟩
    ·have hr:res=.tuple #[.int .i64 (32768-(T:Int)),.int .i64 0]:=by
      rw [←HR.out];unfold chk fine;rw [HU.out.1,HU.out.2,if_pos (by simp;omega)]
      rw [show ((32768-T:Nat):Int)=32768-(T:Int) by omega]
     subst hr;have hneg':¬(32768-(T:Int)<0):=by omega
     go_wp2_with fail
     go_ret2;exact ⟨rfl,rfl⟩
end Go.Proofs.YthbjllabgpaaaaaGreat.Huf
namespace Go.Proofs.YthbjllabgpaaaaaGreat.Huf
open Go.Lib (hid)
set_option maxHeartbeats 4000000
open Go.ChangeShapes Go.WideShapes Go.ChangeAt Go.RowKit
set_option linter.unusedVariables false
theorem rowC_congr (n:Nat) (F G F' G':Nat→Nat) (h:∀i,i<n→F i=F' i∧G i=G' i):rowC n F G=rowC n F' G':=by
 unfold rowC
 apply List.map_congr_left
 intro j hj
 have:j<n*2:=by simpa using hj
 rw [(h (j/2) (by omega)).1,(h (j/2) (by omega)).2]
def doneA (N:List Nat) (l k i:Nat):Bool:=decide (N.getD i 0≠0)&&(decide (N.getD i 0<l)||(decide (N.getD i 0=l)&&decide (i<k)))
def cdA (N:List Nat) (l k i:Nat):Nat:=if doneA N l k i then codeV N i else 0
def lnA (N:List Nat) (l k i:Nat):Nat:=if doneA N l k i then N.getD i 0 else 0
theorem doneA_next (N:List Nat) (l n i:Nat) (h:i<n):doneA N l n i=doneA N (l+1) 0 i:=by
 unfold doneA;rw [Bool.eq_iff_iff]
 simp
 omega
theorem doneA_same (N:List Nat) (l k i:Nat) (h:i≠k∨N.getD k 0≠l):doneA N l (k+1) i=doneA N l k i:=by
 unfold doneA;rw [Bool.eq_iff_iff]
 simp
 rcases h with h | h
 ·omega
 ·by_cases e:i=k
  ·subst e;simp at h;omega
  ·omega
set_option maxRecDepth 10000 in
theorem refCodes_any (a:Option Addr) (n cap:Nat) (N:List Nat) (w:World) (hn:N.length=n) (h:IsInts w a (N.map fun (x:Nat)=>(x:Int))) (hl:n≤320) (h15:∀x∈N,x≤15) :
  Calls Tryz.prog 84 #[.slice a n cap] w fun e w'=>∃b,e=.returned (.slice (some ⟨b,0,none⟩) n n)∧Below w.heap.size w w' ∧
   w'.ownsRow w.heap.size 151 2 (.slice (some ⟨b,0,none⟩) n n) n (rowC n (codeV N) (fun i=>N.getD i 0)):=by
 obtain ⟨i0,hi,hz0,hz1,hz2⟩:=info_parts info_code;have HI:=hid h;have H15:=hid h15;clear h h15
 go_enter Tryz.func84,Tryz.ntmps84
 go_wp2_with (at_make;refine wpList_make_full _ rfl _ _ 132 rfl w.heap.size 151 i0 (.agg #[.int .i64 0,.int .i64 0]) 2 Tryz.underlying132 hi hz0 hz1 .i64 .i64 _ _ n rfl rfl rfl rfl (by rw [hz2];omega) (by unfold maxLen;omega) (by omega) ?_;intro w2 hown hgrow)
 have HB2:=hid (show Below w.heap.size w w2 from (Below.refl _ _).grown hgrow (Nat.le_refl _) (fun k hk=>by cases hk))
 have HO2:Hid (w2.ownsRow w.heap.size 151 2 (.slice (some ⟨w.heap.size,0,none⟩) n n) n (rowC n (cdA N 1 0) (lnA N 1 0))):=hid (by
  rw [rowC_congr n (cdA N 1 0) (lnA N 1 0) (fun _=>0) (fun _=>0) (fun i _=>by
   have:doneA N 1 0 i=false:=by unfold doneA;simp
   unfold cdA lnA;rw [this];exact ⟨rfl,rfl⟩),←madeC]
  exact hown)
 have HZ:Hid (w.heap.size≤w.heap.size):=hid (Nat.le_refl _);clear hown hgrow;generalize hX:w.heap.size=X at HO2 HZ ⊢;have HX:=hid hX;clear hX
 go_loopw [4,5] (fun v i wr=>∃l T:Nat,1≤l∧l≤16∧i=.int .i64 l∧v=.int .i64 T∧top N (l-1)=T∧Below w.heap.size w wr ∧
  wr.ownsRow X 151 2 (.slice (some ⟨X,0,none⟩) n n) n (rowC n (cdA N l 0) (lnA N l 0))) (fun _ i _=>16-(intOf i).toNat)
 case atStart=>exact ⟨1,0,by omega,by omega,rfl,rfl,by simp [top,fst,cn],HB2.out,HO2.out⟩
 case round=>
  obtain ⟨l,T,hl1,hl2,rfl,rfl,hT,hb,ho⟩:=hrel;clear HB2 HO2 HZ;have HB:=hid hb;have HO:=hid ho;have HT:=hid hT;clear hb ho hT
  by_cases hlt:l≤15
  ·have hlt':(l:Int)≤15:=by omega
   obtain ⟨F,hF⟩:∃F,fst N l=F:=⟨_,rfl⟩
   have hFT:T*2=F:=by
    rw [←hF,←HT.out];obtain ⟨m,rfl⟩:∃m,l=m+1:=⟨l-1,by omega⟩
    show (fst N m+cn N m)*2=2*(fst N m+cn N m);omega
   have hFb:F≤65534000000:=by rw [←hF];exact fst_small N l hlt (by omega)
   have hFI:(T:Int)*2=F:=by omega
   have HF:=hid hF;clear hF
   go_wp2_with fail
   go_loopw [4,6] (fun v i wx=>∃k Y:Nat,k≤n∧i=.int .i64 k∧v=.int .i64 Y∧F+(N.take k).count l=Y∧Below w.heap.size w wx ∧
    wx.ownsRow X 151 2 (.slice (some ⟨X,0,none⟩) n n) n (rowC n (cdA N l k) (lnA N l k))) (fun _ i _=>n-(intOf i).toNat)
   case atStart=>exact ⟨0,F,Nat.zero_le _,rfl,rfl,by simp,HB.out,HO.out⟩
   case round=>
    obtain ⟨k,Y,hk,rfl,rfl,hY,hb,ho⟩:=hrel;clear HB HO;have HB:=hid hb;have HO:=hid ho
    have hYb:Y≤65534000320:=by
     have:(N.take k).count l≤n:=Nat.le_trans List.count_le_length (by simp;omega)
     omega
    have HY:=hid hY;clear hb ho hY
    by_cases hkn:k<n
    ·have hkn':(k:Int)<n:=by omega
     obtain ⟨b,off,rfl,hbl,hc⟩:=HI.out (by simp;omega)
     have hck:=hc k (by simp;omega)
     rw [List.getElem_map] at hck;have hcw:=(HB.out.cell (p:=⟨b,off+k,none⟩) hbl).trans hck;have hgd:N.getD k 0=N[k]:=by rw [List.getD_eq_getElem?_getD,List.getElem?_eq_getElem (by omega)];rfl
     have htk:N.take (k+1)=N.take k++[N[k]]:=List.take_succ_eq_append_getElem (by omega)
     have HG:=hid hgd
     have HTK:Hid ((N.take (k+1)).count l=(N.take k).count l+if N[k]=l then 1 else 0):=hid (by
      rw [htk,List.count_append,List.count_singleton];simp [beq_iff_eq])
     clear hc hck hgd htk;generalize N[k]=x at *
     by_cases hx:x=l
     ·subst hx;have hcv:codeV N k=Y:=by unfold codeV;rw [HG.out,if_neg (by omega),HF.out];exact HY.out
      have hs1:=HO.out.stored (k*2) (.int .i64 (Y:Nat));have hs2:=hs1.1.stored (k*2+1) (.int .i64 (x:Nat));have hdn:doneA N x (k+1) k=true:=by unfold doneA;rw [HG.out];simp;omega
      rw [rowC_set n _ _ (cdA N x (k+1)) (lnA N x (k+1)) k Y x (by unfold cdA;rw [hdn,if_pos rfl,hcv]) (by unfold lnA;rw [hdn,if_pos rfl,HG.out])
       (fun j _ hj=>by unfold cdA;rw [doneA_same N x k j (.inl hj)]) (fun j _ hj=>by unfold lnA;rw [doneA_same N x k j (.inl hj)])] at hs2
      obtain ⟨d1,d2⟩:=rowC_get n (cdA N x k) (lnA N x k) k hkn;have c1:=HO.out.cellAt (k*2) (by omega)
      have c2:=HO.out.cellAt (k*2+1) (by omega)
      rw [d1] at c1;rw [d2] at c2;have f1:=HO.out.frozenAt (k*2);have f2:=HO.out.frozenAt (k*2+1);have HY2:Hid (F+(N.take (k+1)).count x=Y+1):=hid (by rw [HTK.out,if_pos rfl,←Nat.add_assoc,HY.out])
      have H2:=hid ((HB.out.setCell (p:=⟨X,k*2,none⟩) (by show w.heap.size≤X;rw [HX.out];exact Nat.le_refl _) (.int .i64 (Y:Nat))).setCell (p:=⟨X,k*2+1,none⟩) (by show w.heap.size≤X;rw [HX.out];exact Nat.le_refl _) (.int .i64 (x:Nat)))
      have H3:=hid hs2.1;clear hs1 hs2 d1 d2 hdn hcv HO HB HTK HG
      go_wp2_with fail
      refine ⟨⟨k+1,Y+1,by omega,by go_num,by go_num,HY2.out,H2.out,H3.out⟩,?_⟩
      simp [intOf];omega
     ·have HY2:Hid (F+(N.take (k+1)).count l=Y):=hid (by rw [HTK.out,if_neg hx];exact HY.out)
      have H3:=hid HO.out;rw [rowC_congr n (cdA N l k) (lnA N l k) (cdA N l (k+1)) (lnA N l (k+1)) (fun i _=>by unfold cdA lnA;rw [doneA_same N l k i (.inr (by rw [HG.out];exact hx))];exact ⟨rfl,rfl⟩)] at H3
      have hx':((x:Int)==(l:Int))=false:=by simp;omega
      clear HO
      go_wp2_with fail
      refine ⟨⟨k+1,Y,by omega,by go_num,rfl,HY2.out,HB.out,H3.out⟩,?_⟩
      simp [intOf];omega
    ·obtain rfl:k=n:=by omega
     have HT2:Hid (top N (l+1-1)=Y):=hid (by
      show fst N l+cn N l=Y;rw [HF.out,←HY.out,List.take_of_length_le (by omega)]
      unfold cn;rw [if_neg (by omega)])
     have H3:=hid HO.out;rw [rowC_congr k (cdA N l k) (lnA N l k) (cdA N (l+1) 0) (lnA N (l+1) 0) (fun i hi=>by unfold cdA lnA;rw [doneA_next N l k i hi];exact ⟨rfl,rfl⟩)] at H3
     clear HO
     go_wp2_with fail
     refine ⟨⟨l+1,Y,by omega,by omega,by go_num,rfl,HT2.out,HB.out,H3.out⟩,?_⟩
     simp [intOf];omega
  ·obtain rfl:l=16:=by omega
   have H3:=hid HO.out
   rw [rowC_congr n (cdA N 16 0) (lnA N 16 0) (codeV N) (fun i=>N.getD i 0) (fun i hi=>by
    have h1:N.getD i 0≤15:=by
     rw [List.getD_eq_getElem?_getD,List.getElem?_eq_getElem (by omega)];exact H15.out _ (List.getElem_mem _)
    unfold cdA lnA
    by_cases h0:N.getD i 0=0
    ·have hd:doneA N 16 0 i=false:=by unfold doneA;rw [h0];rfl
     rw [hd];unfold codeV;rw [if_pos h0,h0];exact ⟨rfl,rfl⟩
    ·have hd:doneA N 16 0 i=true:=by unfold doneA;rw [decide_eq_true h0,decide_eq_true (show N.getD i 0<16 by omega)];rfl
     rw [hd];exact ⟨rfl,rfl⟩)] at H3
   clear HO
   go_wp2_with fail
   go_ret;refine ⟨X,rfl,HB.out,?_⟩;rw [HX.out];exact H3.out
end Go.Proofs.YthbjllabgpaaaaaGreat.Huf
namespace Go.Proofs.YthbjllabgpaaaaaGreat.Huf
open Go.Lib (hid)
set_option maxHeartbeats 4000000
open Go.ChangeShapes Go.WideShapes Go.ChangeAt Go.RowKit
set_option linter.unusedVariables false
theorem quiet_f {P:Program} {f:FuncId} {args:Array Value} {w:World} {n:Nat} {v:Value}
  (h:Calls P f args (w.drewN n) fun e w'=>e=.returned v∧w.drewN n=w'):Calls P f args (w.drewN n) fun e w''=>e=.returned v∧∃m,w''=w.drewN m:=
 h.mono fun _ _ ⟨he,hm⟩=>⟨he,n,hm.symm⟩
def IsBits (w:World) (a:Option Addr) (l:List Bool):Prop:=
 0<l.length→∃b off,a=some ⟨b,off,none⟩∧b<w.heap.size∧∀i (h:i<l.length),w.cell? ⟨b,off+i,none⟩=some (.bool l[i])
theorem IsBits.below {w w':World} {a:Option Addr} {l:List Bool} {n:Nat} (h:IsBits w a l) (k:Below n w w') (hn:w.heap.size≤n):IsBits w' a l:=by
 intro h0;obtain ⟨b,off,e,hb,hc⟩:=h h0;exact ⟨b,off,e,Nat.lt_of_lt_of_le hb k.size,fun i hi=>(k.cell (by show b<n;omega)).trans (hc i hi)⟩
def bitV (c l i:Nat):Bool:=decide (c/2^(l-1-i)%2=1)
theorem refBit_any (c l i:Nat) (w:World) (hi:i<l) (hl:l≤15) (hc:c<32768) :
  Calls Tryz.prog 156 #[.agg #[.int .i64 c,.int .i64 l],.int .i64 i] w fun e w'=>e=.returned (.bool (bitV c l i))∧Below w.heap.size w w':=by
 obtain ⟨E,hE⟩:∃E,l-1-i=E:=⟨_,rfl⟩;obtain ⟨P,hP⟩:∃P,2^E=P:=⟨_,rfl⟩;obtain ⟨q,hq⟩:∃q,c/P=q:=⟨_,rfl⟩;obtain ⟨m,hm⟩:∃m,q%2=m:=⟨_,rfl⟩;have HV:Hid (bitV c l i=decide (m=1)):=hid (by unfold bitV;rw [hE,hP,hq,hm])
 have CP:=hid (fun (w:World) (n:Nat)=>power_any E P (w.drewN n) hP (by omega))
 have hPb:1≤P:=by rw [←hP];exact Nat.pow_pos (by decide)
 have hP0:((P:Int)==0)=false:=by simp;omega
 have hP0':¬((P:Int)=0):=by omega
 have hPb2:P≤32768:=by rw [←hP];exact Nat.le_trans (Nat.pow_le_pow_right (by decide) (show E≤15 by omega)) (by decide)
 have w1:IntKind.i64.wrap ((l:Int)-1)=(l:Int)-1:=IntWalk.i64_in _ (by omega)
 have w2:IntKind.i64.wrap ((l:Int)-1-i)=E:=by rw [show (l:Int)-1-i=E by omega];exact IntWalk.i64_in _ (by omega)
 have hqb:q≤32768:=by rw [←hq];exact Nat.le_trans (Nat.div_le_self _ _) (by omega)
 have t1:(c:Int).tdiv P=q:=by rw [←hq];simp
 have t2:IntKind.i64.wrap (q:Int)=q:=IntWalk.i64_in _ (by omega)
 have t3:(q:Int).tmod 2=m:=by rw [←hm,Int.tmod_eq_emod_of_nonneg (by omega)];omega
 have t4:IntKind.i64.wrap (m:Int)=m:=IntWalk.i64_in _ (by omega)
 rw [HV.out];clear HV hE hP hq hm hPb
 go_enter Tryz.func156,Tryz.ntmps156
 go_wp2_with fail
 go_quiet ((go_at_call 109;exact quiet_f (CP.out _ _)))
 go_wp2_with fail
 go_ret
 have hb:((m:Int)==1)=decide (m=1):=by
  by_cases h:m=1
  ·subst h;rfl
  ·rw [decide_eq_false h];simp;omega
 have bA:=(Below.refl w.heap.size w).alloc (Nat.le_refl _) (.cells #[.int .i64 c,.int .i64 l] 151);refine ⟨?_,bA.os,bA.tape,bA.output,bA.size,bA.block⟩;show Ending.returned (.bool ((m:Int)==1))=_;rw [hb]
set_option maxRecDepth 10000 in
theorem refBegins_any (c l n cap:Nat) (a:Option Addr) (bs:List Bool) (w:World) (hn:bs.length=n) (hl:l≤15) (hc:c<32768) (hb:IsBits w a bs) (hnm:n≤1000) :
  Calls Tryz.prog 131 #[.agg #[.int .i64 c,.int .i64 l],.slice a n cap] w fun e w'=>e=.returned (.bool (decide (n≤l)&&(List.range n).all fun i=>bitV c l i==bs.getD i false))∧Below w.heap.size w w':=by
 have HB:=hid hb;clear hb
 by_cases h1:l<n
 ·have h1':(l:Int)<n:=by omega
  rw [decide_eq_false (show ¬n≤l by omega)]
  go_enter Tryz.func131,Tryz.ntmps131
  go_wp2_with fail
  go_ret;exact ⟨rfl,(Below.refl _ _).alloc (Nat.le_refl _) _⟩
 have h1':¬((l:Int)<n):=by omega
 rw [decide_eq_true (show n≤l by omega),Bool.true_and]
 generalize hres:((List.range n).all fun i=>bitV c l i==bs.getD i false)=res
 have HR:=hid hres;clear hres
 go_enter Tryz.func131,Tryz.ntmps131
 go_wp2_with fail
 go_loopw [5] (fun i wr=>∃k:Nat,k≤n∧i=.int .i64 k∧((List.range k).all fun i=>bitV c l i==bs.getD i false)=true∧Below (w.heap.size+1) (w.alloc (.cells #[.int .i64 c,.int .i64 l] 151)) wr) (fun i _=>n-(intOf i).toNat)
 case atStart=>exact ⟨0,Nat.zero_le _,rfl,rfl,Below.refl _ _⟩
 case round=>
  obtain ⟨k,hk,rfl,hall,hbe⟩:=hrel;have HA:=hid hall;have HBE:=hid hbe;have HBW:Hid (Below w.heap.size w wr):=hid (((Below.refl _ _).alloc (Nat.le_refl _) _).trans (hbe.mono (Nat.le_succ _)));clear hall hbe
  by_cases hlt:k<n
  ·have hlt':(k:Int)<n:=by omega
   obtain ⟨b,off,rfl,hbl,hcs⟩:=HB.out (by omega)
   have e2:=(HBW.out.cell (p:=⟨b,off+k,none⟩) hbl).trans (hcs k (by omega))
   have nA:=heap_alloc_new w (.cells #[.int .i64 c,.int .i64 l] 151);have e0:wr.cell? ⟨w.heap.size,0,none⟩=some (.int .i64 c):=(HBE.out.cell (p:=⟨w.heap.size,0,none⟩) (Nat.lt_succ_self _)).trans ((cell_of_row _ _ 0 _ _ _ nA).trans rfl);have e1:wr.cell? ⟨w.heap.size,1,none⟩=some (.int .i64 l):=(HBE.out.cell (p:=⟨w.heap.size,1,none⟩) (Nat.lt_succ_self _)).trans ((cell_of_row _ _ 1 _ _ _ nA).trans rfl);have hgd:bs.getD k false=bs[k]:=by rw [List.getD_eq_getElem?_getD,List.getElem?_eq_getElem (by omega)];rfl
   have HST:Hid (((List.range (k+1)).all fun i=>bitV c l i==bs.getD i false)=(bitV c l k==bs[k])):=hid (by
    rw [List.range_succ,List.all_append,HA.out,Bool.true_and,←hgd];simp)
   have HNO:Hid (bitV c l k≠bs[k]→res=false):=hid (fun hne=>by
    rw [←HR.out,List.all_eq_false];refine ⟨k,List.mem_range.2 hlt,?_⟩;rw [hgd];simpa using hne)
   have CB:=hid (fun w=>refBit_any c l k w (by omega) hl hc)
   have hsz:w.heap.size<wr.heap.size:=by
    have h:=HBE.out.size;simp at h;omega
   have hbl2:b<wr.heap.size:=Nat.lt_of_lt_of_le hbl HBW.out.size;clear hcs nA hgd;generalize bs[k]=bk at *;generalize bitV c l k=bv at *;obtain ⟨B0,hB0⟩:∃B0,w.heap.size=B0:=⟨_,rfl⟩;have HB0:=hid hB0;rw [hB0] at e0 e1 hsz ⊢;clear hB0
   go_wp2_with fail
   go_region_held3 (fun w'=>w'.cell? ⟨B0,0,none⟩=some (.int .i64 c)∧w'.cell? ⟨B0,1,none⟩=some (.int .i64 l)∧w'.cell? ⟨b,off+k,none⟩=some (.bool bk)) (first | exact ⟨e0,e1,e2⟩ | exact hk2)
    (first
     | (go_at_call 156;refine (CB.out _).mono ?_;rintro r w2 ⟨rfl,b2⟩;have b2':Below wr.heap.size wr w2:=⟨b2.os,b2.tape,b2.output,b2.size,b2.block⟩;have hk2:w2.cell? ⟨B0,0,none⟩=some (.int .i64 c)∧w2.cell? ⟨B0,1,none⟩=some (.int .i64 l)∧w2.cell? ⟨b,off+k,none⟩=some (.bool bk):=⟨(b2'.cell (p:=⟨B0,0,none⟩) hsz).trans e0,(b2'.cell (p:=⟨B0,1,none⟩) hsz).trans e1,(b2'.cell (p:=⟨b,off+k,none⟩) hbl2).trans e2⟩))
   have B2:=hid (HBE.out.trans (b2'.mono (show w.heap.size+1≤wr.heap.size by have:=HB0.out;omega)))
   have B3:=hid (HBW.out.trans (b2'.mono HBW.out.size));clear hk2 e0 e1 e2 HBE HBW CB b2 b2';have EQ:bv=bk→Hid (((List.range (k+1)).all fun i=>bitV c l i==bs.getD i false)=true):=fun h=>hid (by rw [HST.out,h];simp)
   have HEQ:=hid EQ;clear HST EQ;rw [HB0.out] at B2
   cases bv <;> cases bk
   ·have HN:=HEQ.out rfl;clear HNO HEQ
    go_wp2_with fail
    refine ⟨⟨k+1,by omega,by go_num,HN.out,B2.out⟩,?_⟩
    simp [intOf];omega
   ·obtain rfl:=HNO.out (by decide)
    clear HNO HEQ
    go_wp2_with fail
    go_ret;exact ⟨rfl,B3.out⟩
   ·obtain rfl:=HNO.out (by decide)
    clear HNO HEQ
    go_wp2_with fail
    go_ret;exact ⟨rfl,B3.out⟩
   ·have HN:=HEQ.out rfl;clear HNO HEQ
    go_wp2_with fail
    refine ⟨⟨k+1,by omega,by go_num,HN.out,B2.out⟩,?_⟩
    simp [intOf];omega
  ·obtain rfl:k=n:=by omega
   obtain rfl:true=res:=HA.out.symm.trans HR.out
   go_wp2_with fail
   go_ret;exact ⟨rfl,HBW.out⟩
theorem begV (c l:Nat) (bs:List Bool) (hc:c<2^l):(decide (bs.length≤l)&&(List.range bs.length).all fun i=>bitV c l i==bs.getD i false)=decide (bs.length≤l∧c/2^(l-bs.length)=bigN bs):=by
 by_cases h:bs.length≤l
 ·rw [decide_eq_true h,Bool.true_and];have hb:=begins_iff c l hc bs.length bs rfl h;rw [Bool.eq_iff_iff,List.all_eq_true,decide_eq_true_eq]
  constructor
  ·intro h2;refine ⟨h,hb.1 fun i hi=>?_⟩
   have h3:=h2 i (List.mem_range.2 hi);rw [List.getD_eq_getElem?_getD,List.getElem?_eq_getElem hi] at h3
   simpa [bitV] using h3
  ·rintro ⟨_,h2⟩ i hi;have hi':=List.mem_range.1 hi;have h3:=hb.2 h2 i hi';rw [List.getD_eq_getElem?_getD,List.getElem?_eq_getElem hi']
   simpa [bitV] using h3
 ·rw [decide_eq_false h,Bool.false_and,decide_eq_false (fun h2=>h h2.1)]
theorem findAt_zero (N:List Nat) (k v n:Nat) (s:Int) (j:Nat) (hj:N.length-(n+1)=j) (h:N.getD j 0=0):findAt N k v (n+1) s=findAt N k v n s:=by
 conv=>lhs;unfold findAt
 simp only [hj];rw [if_pos h]
theorem findAt_is (N:List Nat) (k v n:Nat) (s:Int) (j:Nat) (hj:N.length-(n+1)=j) (h:N.getD j 0≠0) (h2:N.getD j 0=k∧codeV N j=v):findAt N k v (n+1) s=j:=by
 conv=>lhs;unfold findAt
 simp only [hj];rw [if_neg h,if_pos h2]
theorem findAt_begins (N:List Nat) (k v n:Nat) (s:Int) (j:Nat) (hj:N.length-(n+1)=j) (h:N.getD j 0≠0) (h2:k<N.getD j 0∧codeV N j/2^(N.getD j 0-k)=v):findAt N k v (n+1) s=findAt N k v n (-1):=by
 conv=>lhs;unfold findAt
 simp only [hj];rw [if_neg h,if_neg (by omega),if_pos h2]
theorem findAt_none (N:List Nat) (k v n:Nat) (s:Int) (j:Nat) (hj:N.length-(n+1)=j) (h:N.getD j 0≠0) (h2:¬(N.getD j 0=k∧codeV N j=v)) (h3:¬(k<N.getD j 0∧codeV N j/2^(N.getD j 0-k)=v)):findAt N k v (n+1) s=findAt N k v n s:=by
 conv=>lhs;unfold findAt
 simp only [hj];rw [if_neg h,if_neg h2,if_neg h3]
set_option maxRecDepth 10000 in
theorem find_any (bc n k cap:Nat) (a:Option Addr) (N:List Nat) (bs:List Bool) (w:World) (hn:N.length=n) (hk:bs.length=k) (hl:n≤320) (hkm:k≤1000) (h15:∀x∈N,x≤15) (hsm:∀i,i<N.length→codeV N i<2^N.getD i 0)
  (ho:w.ownsRow 0 151 2 (.slice (some ⟨bc,0,none⟩) n n) n (rowC n (codeV N) (fun i=>N.getD i 0))) (hb:IsBits w a bs) :
  Calls Tryz.prog 110 #[.slice (some ⟨bc,0,none⟩) n n,.slice a k cap] w fun e w'=>e=.returned (.int .i64 (findV N k (bigN bs)))∧Below w.heap.size w w':=by
 have HO:=hid ho;have HB:=hid hb;have HS:=hid hsm;have H15:=hid h15;unfold findV;rw [hn];generalize hres:findAt N k (bigN bs) n (-2)=res;have HR:=hid hres;clear ho hb hsm h15 hres
 go_enter Tryz.func110,Tryz.ntmps110
 go_wp2_with fail
 go_loopw [5,6] (fun v i wr=>∃j:Nat,∃s:Int,j≤n∧i=.int .i64 j∧v=.int .i64 s∧findAt N k (bigN bs) (n-j) s=res∧Below w.heap.size w wr) (fun _ i _=>n-(intOf i).toNat)
 case atStart=>exact ⟨0,-2,Nat.zero_le _,rfl,rfl,HR.out,Below.refl _ _⟩
 case round=>
  obtain ⟨j,s,hj,rfl,rfl,hf,hbe⟩:=hrel;have HF:=hid hf;have HBE:=hid hbe;clear hf hbe
  by_cases hlt:j<n
  ·have hlt':(j:Int)<n:=by omega
   have hbc:bc<w.heap.size:=(HO.out.lt bc rfl).2;have dj:=rowC_get n (codeV N) (fun i=>N.getD i 0) j hlt
   have a1:=(HBE.out.cell (p:=⟨bc,j*2,none⟩) hbc).trans ((HO.out.cellAt (j*2) (by omega)).trans dj.1)
   have a2:=(HBE.out.cell (p:=⟨bc,j*2+1,none⟩) hbc).trans ((HO.out.cellAt (j*2+1) (by omega)).trans dj.2)
   have l15:N.getD j 0≤15:=by
    rw [List.getD_eq_getElem?_getD,List.getElem?_eq_getElem (by omega)];exact H15.out _ (List.getElem_mem _)
   have hsm:=HS.out j (by omega)
   have hsz:codeV N j<32768:=Nat.lt_of_lt_of_le hsm (Nat.le_trans (Nat.pow_le_pow_right (by decide) l15) (by decide))
   have CB:=hid (refBegins_any (codeV N j) (N.getD j 0) k cap a bs wr hk l15 hsz (HB.out.below HBE.out (Nat.le_refl _)) hkm);have hbv:=begV (codeV N j) (N.getD j 0) bs hsm;rw [hk] at hbv;rw [hbv] at CB;obtain ⟨m,hm,hm2⟩:∃m,n-j=m+1∧n-(j+1)=m:=⟨n-j-1,by omega,by omega⟩
   rw [hm] at HF;have hNj:N.length-(m+1)=j:=by omega
   have Z0:=hid (findAt_zero N k (bigN bs) m s j hNj);have Z1:=hid (findAt_is N k (bigN bs) m s j hNj);have Z2:=hid (findAt_begins N k (bigN bs) m s j hNj);have Z3:=hid (findAt_none N k (bigN bs) m s j hNj);rw [←hm2] at HF Z0 Z1 Z2 Z3;clear dj hbv hsm hm hm2 hNj;generalize N.getD j 0=l at *;generalize codeV N j=c at *
   by_cases h0:l=0
   ·subst h0;have HN:Hid (findAt N k (bigN bs) (n-(j+1)) s=res):=hid ((Z0.out rfl).symm.trans HF.out);clear Z0 Z1 Z2 Z3 CB
    go_wp2_with fail
    refine ⟨⟨j+1,s,by omega,by go_num,rfl,HN.out,HBE.out⟩,?_⟩
    simp [intOf];omega
   ·have h0':((l:Int)==0)=false:=by simp;omega
    by_cases hi:k≤l∧c/2^(l-k)=bigN bs
    ·rw [decide_eq_true hi] at CB
     by_cases hlk:l=k
     ·have hr:(j:Int)=res:=(Z1.out h0 ⟨hlk,by have:=hi.2;rwa [hlk,Nat.sub_self,Nat.pow_zero,Nat.div_one] at this⟩).symm.trans HF.out
      have hlk':((l:Int)==k)=true:=by simp;omega
      subst hr;clear Z0 Z1 Z2 Z3 hlk hi h0
      go_wp2_with fail
      refine CB.out.mono ?_;rintro r w2 ⟨rfl,b2⟩;have B2:=hid (HBE.out.trans (b2.mono HBE.out.size));have a3:=(b2.cell (p:=⟨bc,j*2+1,none⟩) (by have:=HBE.out.size;show bc<wr.heap.size;omega)).trans a2
      clear b2 CB HBE
      go_wp2_with fail
      go_ret;exact ⟨rfl,B2.out⟩
     ·have hlk':((l:Int)==k)=false:=by simp;omega
      have HN:Hid (findAt N k (bigN bs) (n-(j+1)) (-1)=res):=hid ((Z2.out h0 ⟨by omega,hi.2⟩).symm.trans HF.out)
      clear Z0 Z1 Z2 Z3 hlk hi h0
      go_wp2_with fail
      refine CB.out.mono ?_;rintro r w2 ⟨rfl,b2⟩;have B2:=hid (HBE.out.trans (b2.mono HBE.out.size));have a3:=(b2.cell (p:=⟨bc,j*2+1,none⟩) (by have:=HBE.out.size;show bc<wr.heap.size;omega)).trans a2
      clear b2 CB HBE
      go_wp2_with fail
      refine ⟨⟨j+1,-1,by omega,by go_num,rfl,HN.out,B2.out⟩,?_⟩
      simp [intOf];omega
    ·rw [decide_eq_false hi] at CB;have HN:Hid (findAt N k (bigN bs) (n-(j+1)) s=res):=hid ((Z3.out h0 (fun h=>hi ⟨by omega,by rw [h.1,Nat.sub_self,Nat.pow_zero,Nat.div_one];exact h.2⟩) (fun h=>hi ⟨by omega,h.2⟩)).symm.trans HF.out)
     clear Z0 Z1 Z2 Z3 hi h0
     go_wp2_with fail
     refine CB.out.mono ?_;rintro r w2 ⟨rfl,b2⟩;have B2:=hid (HBE.out.trans (b2.mono HBE.out.size));clear b2 CB HBE
     go_wp2_with fail
     refine ⟨⟨j+1,s,by omega,by go_num,rfl,HN.out,B2.out⟩,?_⟩
     simp [intOf];omega
  ·obtain rfl:j=n:=by omega
   rw [Nat.sub_self] at HF;have hr:s=res:=HF.out;subst hr
   go_wp2_with fail
   go_ret;exact ⟨rfl,HBE.out⟩
end Go.Proofs.YthbjllabgpaaaaaGreat.Huf
namespace Go.Proofs.YthbjllabgpaaaaaGreat.Huf
open Go.Lib (hid)
set_option maxHeartbeats 4000000
open Go.ChangeShapes Go.WideShapes Go.ChangeAt Go.RowKit
open Go.Proofs.YthbjllabgpaaaaaGreat.Bit (tat)
set_option linter.unusedVariables false
def nextB (T:List Bool) (i m:Nat):List Bool:=(T.drop i).take m
theorem nextB_length (T:List Bool) (i m:Nat) (h:i+m≤T.length):(nextB T i m).length=m:=by unfold nextB;rw [List.length_take,List.length_drop];omega
theorem nextB_succ (T:List Bool) (i m:Nat) (h:i+m<T.length):bigN (nextB T i (m+1))=2*bigN (nextB T i m)+(tat T (i+m)).toNat:=by
 have e:nextB T i (m+1)=nextB T i m++[tat T (i+m)]:=by
  unfold nextB tat;rw [List.take_succ_eq_append_getElem (by rw [List.length_drop];omega),List.getElem_drop]
  simp [h]
 rw [e,bigN_snoc]
theorem filter_at (p:Nat→Bool):∀(n i:Nat),i<n→p i=true→((List.range n).filter p)[((List.range i).filter p).length]?=some i
 | 0,i,h,_=>by omega
 | n+1,i,h,hp=>by
  rw [List.range_succ,List.filter_append]
  by_cases e:i=n
  ·subst e;rw [List.getElem?_append_right (Nat.le_refl _),Nat.sub_self];simp [hp]
  ·have ih:=filter_at p n i (by omega) hp
   rw [List.getElem?_append_left (List.getElem?_eq_some_iff.1 ih).1,ih]
theorem count_range (N:List Nat) (l:Nat):∀i,i≤N.length→((List.range i).filter fun j=>N.getD j 0==l).length=(N.take i).count l
 | 0,_=>rfl
 | i+1,h=>by
  rw [List.range_succ,List.filter_append,List.length_append,count_range N l i (by omega),List.take_succ_eq_append_getElem (by omega),List.count_append]
  have g:N.getD i 0=N[i]:=by rw [List.getD_eq_getElem?_getD,List.getElem?_eq_getElem (by omega)];rfl
  by_cases e:N[i]=l
  ·simp only [List.filter_cons,List.filter_nil,g,e];simp
  ·simp only [List.filter_cons,List.filter_nil,g,List.count_singleton];simp [e]
theorem sym_at (N:List Nat) (i l v:Nat) (hi:i<N.length) (hl:N[i]=l) (h1:1≤l) (hv:codeV N i=v):(symsOf N N.length l).getD (v-fst N l) 0=i:=by
 have g:N.getD i 0=l:=by rw [List.getD_eq_getElem?_getD,List.getElem?_eq_getElem hi];exact hl
 have hc:v-fst N l=(N.take i).count l:=by
  rw [←hv];unfold codeV;rw [g,if_neg (by omega)];omega
 unfold symsOf;rw [if_neg (by omega),hc,←count_range N l i (by omega),List.getD_eq_getElem?_getD,filter_at _ N.length i hi (by rw [g];simp)]
 rfl
def Stop (N:List Nat) (T:List Bool) (i m:Nat) (r:Nat×Int×Nat×Bool):Prop:=
 (findV N m (bigN (nextB T i m)) = -1∧i+m=T.length∧r.1=0∧r.2.1=2)∨(findV N m (bigN (nextB T i m)) = -2∧r.1=0∧r.2.1=3) ∨
 (∃s:Nat,findV N m (bigN (nextB T i m))=(s:Int)∧r=(s,0,i+m,false))
theorem nx_spec (N:List Nat) (T:List Bool) (i:Nat) (h15:∀x∈N,x≤15):∀(f k v:Nat),f+k=15→v=bigN (nextB T i k)→i+k≤T.length→top N k≤v →
  ∃m,k≤m∧m≤15∧i+m≤T.length∧(∀q,k≤q→q<m→findV N q (bigN (nextB T i q)) = -1∧i+q<T.length)∧Stop N T i m (nxG N T i false f k v):=by
 intro f
 induction f with
 | zero=>
  intro k v hfk hv hik htop;have hk:k=15:=by omega
  subst hk;refine ⟨15,Nat.le_refl _,Nat.le_refl _,hik,fun q h1 h2=>by omega,.inr (.inl ⟨?_,rfl,rfl⟩)⟩
  rw [←hv,findV_none N h15 15 v (by omega) (.inr (by omega))]
  have ht:=top_used N 15 (Nat.le_refl _);rw [if_neg (by simp at ht ⊢;omega)]
 | succ f ih=>
  intro k v hfk hv hik htop;have hn:=findV_none N h15 k v (by omega) (.inr (by omega))
  unfold nxG
  by_cases hu:v*2^(15-k)<used N 15
  ·rw [if_pos ⟨htop,hu⟩] at hn;rw [if_pos hu]
   by_cases he:T.length≤i+k
   ·rw [if_pos (.inr he)];refine ⟨k,Nat.le_refl _,by omega,hik,fun q h1 h2=>by omega,.inl ⟨?_,by omega,rfl,rfl⟩⟩
    rw [←hv];exact hn
   ·rw [if_neg (by simp;omega)]
    have hs:=nextB_succ T i k (by omega)
    rw [←hv] at hs;obtain ⟨v',hv'⟩:∃v',2*v+(tat T (i+k)).toNat=v':=⟨_,rfl⟩;rw [hv'] at hs ⊢;have hft:=fst_top N k;have hge:fst N (k+1)≤v':=by rw [hft,←hv'];omega
    by_cases ht:v'<top N (k+1)
    ·rw [if_pos ht];obtain ⟨i0,hi0,e0,c0⟩:=(is_code N (k+1) v' (by omega)).2 ⟨hge,ht⟩
     refine ⟨k+1,by omega,by omega,by omega,fun q h1 h2=>?_,.inr (.inr ⟨i0,?_,?_⟩)⟩
     ·obtain rfl:q=k:=by omega
      rw [←hv];exact ⟨hn,by omega⟩
     ·rw [hs];exact findV_code N h15 i0 (k+1) v' hi0 (by omega) e0 c0
     ·rw [sym_at N i0 (k+1) v' hi0 e0 (by omega) c0];rfl
    ·rw [if_neg ht];obtain ⟨m,m1,m2,m3,m4,m5⟩:=ih (k+1) v' (by omega) hs.symm (by omega) (by omega)
     refine ⟨m,by omega,m2,m3,fun q h1 h2=>?_,m5⟩
     by_cases hq:q=k
     ·subst hq;rw [←hv];exact ⟨hn,by omega⟩
     ·exact m4 q (by omega) h2
  ·rw [if_neg (fun h=>hu h.2)] at hn
   rw [if_neg hu];refine ⟨k,Nat.le_refl _,by omega,hik,fun q h1 h2=>by omega,.inr (.inl ⟨?_,rfl,rfl⟩)⟩
   rw [←hv];exact hn
end Go.Proofs.YthbjllabgpaaaaaGreat.Huf
