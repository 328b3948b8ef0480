/-
  A region that leaves its order open, by what holds of each operation's value: each operation is looked at once, in whatever order they come. Nothing of the program is named here.
-/
import Derived.Orders
import Derived.WalkKit
namespace Go.Proofs.YthbjllabgpaaaaaGreat.RegInv
open Go
def dstOf (ops:Array Oper) (i:Nat):Option Tmp:=(ops[i]?).bind (·.dst)
def left (ops:Array Oper) (listed:Array Bool):Nat:=((List.range ops.size).filter fun i=>!listed.getD i true).length
section
variable {P:Program} {ops:Array Oper} {Q:Exit→Act→World→Prop} {md:Region.Mode}
theorem filter_less {p q:Nat→Bool} (i:Nat) (hp:p i=true) (hq:q i=false) (hn:∀j,j≠i→q j=p j):∀(l:List Nat),l.Nodup→i∈l→(l.filter q).length+1=(l.filter p).length:=by
 intro l
 induction l with
 | nil=>intro _ h;simp at h
 | cons a r ih=>
  intro hd hi;obtain ⟨h1,h2⟩:=List.nodup_cons.1 hd
  by_cases e:a=i
  ·subst e
   have:r.filter q=r.filter p:=List.filter_congr (fun j hj=>hn j (by rintro rfl;exact h1 hj))
   simp [hp,hq,this]
  ·have hi':i∈r:=by
    rcases List.mem_cons.1 hi with h | h
    ·exact absurd h.symm e
    ·exact h
   have:=ih h2 hi'
   by_cases hpa:p a
   ·simp [hpa,hn a e];omega
   ·simp [hpa,hn a e];omega
theorem left_set (listed:Array Bool) (hs:listed.size=ops.size) (i:Nat) (hi:i∈Region.ready md ops listed):left ops (listed.setIfInBounds i true)+1=left ops listed:=by
 obtain ⟨h0,o,ho,_⟩:=mem_ready.1 hi;have hlt:i<ops.size:=(Array.getElem?_eq_some_iff.1 ho).1;unfold left;refine filter_less i (by simp [h0]) ?_ ?_ _ List.nodup_range (List.mem_range.2 hlt)
 ·have:i<listed.size:=by omega
  simp [this]
 ·intro j hj;rw [getD_set_ne true (Ne.symm hj)]
theorem all_of_none (hd2:∀i o,ops[i]?=some o→∀e∈o.after,Region.binds md e=true→e.on<i) (listed:Array Bool) (hs:listed.size=ops.size) (h:Region.ready md ops listed=[]) :
  ∀i,i<ops.size→listed.getD i false=true:=by
 intro i
 induction i using Nat.strongRecOn with
 | ind i ih=>
  intro hi
  apply Classical.byContradiction
  intro hn;have hi':i<listed.size:=by omega
  have h0:listed.getD i true=false:=by
   simp [hi'] at hn ⊢;exact hn
  obtain ⟨o,ho⟩:∃o,ops[i]?=some o:=⟨ops[i],by simp [hi]⟩
  have:i∈Region.ready md ops listed:=mem_ready.2 ⟨h0,o,ho,fun e he hb=>by
   have hlt:=hd2 i o ho e he hb;exact ih e.on hlt (by omega)⟩
  rw [h] at this
  cases this
theorem none_of_left (listed:Array Bool) (h:left ops listed=0):Region.ready md ops listed=[]:=by
 apply List.eq_nil_iff_forall_not_mem.2
 intro i hi;obtain ⟨h0,o,ho,_⟩:=mem_ready.1 hi;have hlt:i<ops.size:=(Array.getElem?_eq_some_iff.1 ho).1;unfold left at h
 have:=List.length_eq_zero_iff.1 h
 have hm:i∈(List.range ops.size).filter fun i=>!listed.getD i true:=List.mem_filter.2 ⟨List.mem_range.2 hlt,by simp [h0]⟩
 rw [this] at hm
 cases hm
structure Inv (ops:Array Oper) (a1:Act) (val:Nat→Value→World→Prop) (S:World→Prop) (listed:Array Bool) (a:Act) (w:World):Prop where
 s:S w
 defers:a.defers=a1.defers
 size:a.tmps.size=a1.tmps.size
 same:∀t,(∀i,listed.getD i false=true→dstOf ops i≠some t)→a.tmps[t]?=a1.tmps[t]?
 done:∀i t,listed.getD i false=true→dstOf ops i=some t→∃v,a.tmps[t]?=some v∧val i v w
theorem wpAny_inv (a1:Act) (val:Nat→Value→World→Prop) (S:World→Prop)
  (hd1:∀i j t,dstOf ops i=some t→dstOf ops j=some t→i=j)
  (hd2:∀i o,ops[i]?=some o→∀e∈o.after,Region.binds md e=true→e.on<i)
  (hd3:∀i t,dstOf ops i=some t→t<a1.tmps.size)
  (hstep:∀i o,ops[i]?=some o→∀a w,S w→(∀t,(∀j,dstOf ops j≠some t)→a.tmps[t]?=a1.tmps[t]?) →
   (∀e∈o.after,Region.binds md e=true→∀t,dstOf ops e.on=some t→∃v,a.tmps[t]?=some v∧val e.on v w) →
   Region.wanted o (yielded ops a.tmps)=true∧o.wp P a w (fun a' w'=>∃v,a'=a.put o.dst v∧val i v w'∧S w'∧∀j u,val j u w→val j u w') Q)
  (hend:∀a w,S w→a.defers=a1.defers→a.tmps.size=a1.tmps.size→(∀t,(∀i,dstOf ops i≠some t)→a.tmps[t]?=a1.tmps[t]?) →
   (∀i t,dstOf ops i=some t→∃v,a.tmps[t]?=some v∧val i v w)→Q .normal a w) :
  ∀(fuel:Nat) (listed:Array Bool) (a:Act) (w:World),listed.size=ops.size→left ops listed≤fuel→Inv ops a1 val S listed a w→wpAny P md ops Q fuel listed a w:=by
 have hfin:∀(listed:Array Bool) (a:Act) (w:World),listed.size=ops.size→Inv ops a1 val S listed a w→Region.ready md ops listed=[]→Q .normal a w:=by
  intro listed a w hs I hr;have hall:=all_of_none hd2 listed hs hr
  have hlt:∀i t,dstOf ops i=some t→i<ops.size:=by
   intro i t h
   apply Classical.byContradiction
   intro hn;unfold dstOf at h;rw [Array.getElem?_eq_none (Nat.le_of_not_lt hn)] at h
   cases h
  exact hend a w I.s I.defers I.size (fun t ht=>I.same t fun i _=>ht i) (fun i t h=>I.done i t (hall i (hlt i t h)) h)
 intro fuel
 induction fuel with
 | zero=>
  intro listed a w hs hl I;have hr:=none_of_left (ops:=ops) (md:=md) listed (by omega)
  exact ⟨hr,hfin listed a w hs I hr⟩
 | succ fuel ih=>
  intro listed a w hs hl I;refine ⟨hfin listed a w hs I,fun i hi=>?_⟩
  have hcount:=left_set listed hs i hi;obtain ⟨h0,o,ho,hdeps⟩:=mem_ready.1 hi;have hlt:i<ops.size:=(Array.getElem?_eq_some_iff.1 ho).1;obtain ⟨hw,hwp⟩:=hstep i o ho a w I.s (fun t ht=>I.same t fun j _=>ht j) (fun e he hb t ht=>I.done e.on t (hdeps e he hb) ht)
  unfold wpOp;simp only [ho,hw,if_true];refine .inl (Oper.wp_mono ?_ hwp);rintro a' w' ⟨v,rfl,hv,hS,hk⟩;refine ih _ _ _ (by simpa using hs) (by omega) ?_
  have hnew:∀j,(listed.setIfInBounds i true).getD j false=true→j=i∨listed.getD j false=true:=by
   intro j hj
   by_cases e:i=j
   ·exact .inl e.symm
   ·rw [getD_set_ne false e] at hj;exact .inr hj
  have hold:∀j,listed.getD j false=true→(listed.setIfInBounds i true).getD j false=true:=fun j hj=>getD_set_true hj
  have hme:(listed.setIfInBounds i true).getD i false=true:=by
   have:i<listed.size:=by omega
   simp [this]
  have hdst:dstOf ops i=o.dst:=by unfold dstOf;rw [ho];rfl
  have hni:listed.getD i false≠true:=by
   have:i<listed.size:=by omega
   simp [this] at h0 ⊢;exact h0
  cases hd:o.dst with
  | none=>
   show Inv ops a1 val S _ a w'
   exact ⟨hS,I.defers,I.size,fun t ht=>I.same t fun j hj=>ht j (hold j hj),fun j t hj ht=>by
    rcases hnew j hj with rfl | hj
    ·rw [hdst,hd] at ht;cases ht
    ·obtain ⟨u,hu,hv⟩:=I.done j t hj ht;exact ⟨u,hu,hk j u hv⟩⟩
  | some t0=>
   have ht0:t0<a.tmps.size:=by rw [I.size];exact hd3 i t0 (by rw [hdst,hd])
   show Inv ops a1 val S _ { a with tmps:=a.tmps.setIfInBounds t0 v } w'
   refine ⟨hS,I.defers,by simpa using I.size,fun t ht=>?_,fun j t hj ht=>?_⟩
   ·have hne:t0≠t:=by
     rintro rfl;exact ht i hme (by rw [hdst,hd])
    show (a.tmps.setIfInBounds t0 v)[t]?=_;rw [Array.getElem?_setIfInBounds_ne hne];exact I.same t fun j hj=>ht j (hold j hj)
   ·rcases hnew j hj with rfl | hj
    ·rw [hdst,hd] at ht
     cases ht
     exact ⟨v,by show (a.tmps.setIfInBounds t0 v)[t0]?=_;simp [ht0],hv⟩
    ·obtain ⟨u,hu,hv2⟩:=I.done j t hj ht
     have hne:t0≠t:=by
      rintro rfl
      have:=hd1 i j t0 (by rw [hdst,hd]) ht
      subst this;exact hni hj
     refine ⟨u,?_,hk j u hv2⟩;show (a.tmps.setIfInBounds t0 v)[t]?=_;rw [Array.getElem?_setIfInBounds_ne hne];exact hu
theorem region_inv {id:Nat} {a1:Act} {w:World} (hm:P.follows .mixedOrders=true) (val:Nat→Value→World→Prop) (S:World→Prop)
  (hd1:∀i j t,dstOf ops i=some t→dstOf ops j=some t→i=j)
  (hd2:∀i o,ops[i]?=some o→∀e∈o.after,Region.binds .any e=true→e.on<i)
  (hd3:∀i t,dstOf ops i=some t→t<a1.tmps.size)
  (hS:S w.drew)
  (hstep:∀i o,ops[i]?=some o→∀a w,S w→(∀t,(∀j,dstOf ops j≠some t)→a.tmps[t]?=a1.tmps[t]?) →
   (∀e∈o.after,Region.binds .any e=true→∀t,dstOf ops e.on=some t→∃v,a.tmps[t]?=some v∧val e.on v w) →
   Region.wanted o (yielded ops a.tmps)=true∧o.wp P a w (fun a' w'=>∃v,a'=a.put o.dst v∧val i v w'∧S w'∧∀j u,val j u w→val j u w') Q)
  (hend:∀a w,S w→a.defers=a1.defers→a.tmps.size=a1.tmps.size→(∀t,(∀i,dstOf ops i≠some t)→a.tmps[t]?=a1.tmps[t]?) →
   (∀i t,dstOf ops i=some t→∃v,a.tmps[t]?=some v∧val i v w)→Q .normal a w) :
  (Code.region id ops true).wp P Q a1 w:=by
 refine wp_region_any hm (wpAny_inv a1 val S hd1 hd2 hd3 hstep hend _ _ _ _ (by simp) ?_ ?_)
 ·unfold left;refine Nat.le_trans (List.length_filter_le _ _) ?_
  simp
 ·have hf:∀i,(Array.replicate ops.size false).getD i false≠true:=by
   intro i
   by_cases h:i<ops.size <;> simp [h]
  exact ⟨hS,rfl,rfl,fun _ _=>rfl,fun i t h=>absurd h (hf i)⟩
/-! ### The side conditions, to be computed; the operations, one by one. -/
def okDst (ops:Array Oper):Bool:=(List.range ops.size).all fun i=>(List.range ops.size).all fun j=>i==j||dstOf ops i==none||dstOf ops i != dstOf ops j
def okDep (md:Region.Mode) (ops:Array Oper):Bool:=(List.range ops.size).all fun i=>((ops[i]?).map fun o=>o.after.toList.all fun e=>!Region.binds md e||decide (e.on<i)).getD true
def okSize (n:Nat) (ops:Array Oper):Bool:=(List.range ops.size).all fun i=>((dstOf ops i).map fun t=>decide (t<n)).getD true
def notDst (ops:Array Oper) (t:Tmp):Bool:=(List.range ops.size).all fun i=>dstOf ops i != some t
theorem dst_lt {i t:Nat} (h:dstOf ops i=some t):i<ops.size:=by
 apply Classical.byContradiction
 intro hn;unfold dstOf at h;rw [Array.getElem?_eq_none (Nat.le_of_not_lt hn)] at h
 cases h
theorem okDst_spec (h:okDst ops=true):∀i j t,dstOf ops i=some t→dstOf ops j=some t→i=j:=by
 intro i j t hi hj;unfold okDst at h;rw [List.all_eq_true] at h;have h1:=h i (List.mem_range.2 (dst_lt hi));rw [List.all_eq_true] at h1;have h2:=h1 j (List.mem_range.2 (dst_lt hj));rw [hi,hj] at h2
 simpa using h2
theorem okDep_spec (h:okDep md ops=true):∀i o,ops[i]?=some o→∀e∈o.after,Region.binds md e=true→e.on<i:=by
 intro i o ho e he hb;unfold okDep at h;rw [List.all_eq_true] at h;have h1:=h i (List.mem_range.2 (Array.getElem?_eq_some_iff.1 ho).1);rw [ho] at h1;simp only [Option.map_some,Option.getD_some] at h1;rw [List.all_eq_true] at h1;have h2:=h1 e (Array.mem_toList_iff.2 he);rw [hb] at h2
 simpa using h2
theorem okSize_spec {n:Nat} (h:okSize n ops=true):∀i t,dstOf ops i=some t→t<n:=by
 intro i t hi;unfold okSize at h;rw [List.all_eq_true] at h;have h1:=h i (List.mem_range.2 (dst_lt hi));rw [hi] at h1
 simpa using h1
theorem notDst_spec {t:Tmp} (h:notDst ops t=true):∀j,dstOf ops j≠some t:=by
 intro j hj;unfold notDst at h;rw [List.all_eq_true] at h;have h1:=h j (List.mem_range.2 (dst_lt hj));rw [hj] at h1;simp at h1
def StepOk (P:Program) (ops:Array Oper) (Q:Exit→Act→World→Prop) (a1:Act) (val:Nat→Value→World→Prop) (S:World→Prop) (i:Nat) (o:Oper):Prop:=
 ∀a w,S w→(∀t,notDst ops t=true→a.tmps[t]?=a1.tmps[t]?) →
  (∀e∈o.after,Region.binds .any e=true→∀t,dstOf ops e.on=some t→∃v,a.tmps[t]?=some v∧val e.on v w) →
  Region.wanted o (yielded ops a.tmps)=true∧∀K:Act→World→Prop,(∀v w',val i v w'→S w'→(∀j u,val j u w→val j u w')→K (a.put o.dst v) w')→o.wp P a w K Q
def StepsOk (P:Program) (ops:Array Oper) (Q:Exit→Act→World→Prop) (a1:Act) (val:Nat→Value→World→Prop) (S:World→Prop):Nat→List Oper→Prop
 | _,[]=>True
 | i,o::r=>StepOk P ops Q a1 val S i o∧StepsOk P ops Q a1 val S (i+1) r
theorem StepsOk.get {a1:Act} {val:Nat→Value→World→Prop} {S:World→Prop}:∀(l:List Oper) (k i:Nat) (o:Oper),StepsOk P ops Q a1 val S k l→l[i]?=some o→StepOk P ops Q a1 val S (k+i) o
 | [],_,_,_,_,h=>by simp at h
 | x::r,k,0,o,⟨h1,_⟩,h=>by
  simp at h;subst h;exact h1
 | x::r,k,i+1,o,⟨_,h2⟩,h=>by
  have:=StepsOk.get r (k+1) i o h2 (by simpa using h)
  rw [show k+(i+1)=k+1+i by omega]
  exact this
theorem wanted_none {o:Oper} {f:Nat→Option Bool} (h:o.guard=none):Region.wanted o f=true:=by
 unfold Region.wanted;rw [h]
theorem region_ops {id n:Nat} {a1:Act} {w:World} (hm:P.follows .mixedOrders=true) (val:Nat→Value→World→Prop) (S:World→Prop)
  (h1:okDst ops=true) (h2:okDep .any ops=true) (hn:a1.tmps.size=n) (h3:okSize n ops=true) (hS:S w.drew) (hsteps:StepsOk P ops Q a1 val S 0 ops.toList)
  (hend:∀a w,S w→a.defers=a1.defers→a.tmps.size=a1.tmps.size→(∀t,notDst ops t=true→a.tmps[t]?=a1.tmps[t]?) →
   (∀i t,dstOf ops i=some t→∃v,a.tmps[t]?=some v∧val i v w)→Q .normal a w) :
  (Code.region id ops true).wp P Q a1 w:=by
 subst hn;refine region_inv hm val S (okDst_spec h1) (okDep_spec h2) (okSize_spec h3) hS ?_ ?_
 ·intro i o ho a w hw hsame hdeps;have hg:=StepsOk.get ops.toList 0 i o hsteps (by rw [Array.getElem?_toList];exact ho)
  rw [Nat.zero_add] at hg;obtain ⟨x,y⟩:=hg a w hw (fun t ht=>hsame t (notDst_spec ht)) hdeps
  exact ⟨x,y _ fun v w' p q r=>⟨v,rfl,p,q,r⟩⟩
 ·intro a w hw hd hz hsame hdone;exact hend a w hw hd hz (fun t ht=>hsame t (notDst_spec ht)) hdone
end
end Go.Proofs.YthbjllabgpaaaaaGreat.RegInv
