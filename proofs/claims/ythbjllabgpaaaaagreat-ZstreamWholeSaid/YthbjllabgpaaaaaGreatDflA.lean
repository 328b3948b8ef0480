/-
  Texts in one: DflMath, DflBase.
-/
import Derived.Test.YthbjllabgpaaaaaGreatAllDef
import Derived.Test.YthbjllabgpaaaaaGreatAllPack
namespace Go.Proofs.YthbjllabgpaaaaaGreat.Dfl
open Go.Lib (hid)
set_option maxHeartbeats 4000000
open Go.Proofs.YthbjllabgpaaaaaGreat.Def
set_option linter.unusedVariables false

inductive Mk:List Nat→List (Nat×Nat)→List Nat→Prop
 | done (l:List Nat):Mk l [] l
 | more (l:List Nat) (y:Nat×Nat) (Y:List (Nat×Nat)) (l':List Nat):okY l y→Mk (grow l y) Y l'→Mk l (y::Y) l'
theorem Mk.append {l l' l'':List Nat} {Y Z:List (Nat×Nat)} (h:Mk l Y l') (k:Mk l' Z l''):Mk l (Y++Z) l'':=by
 induction h with
 | done l=>exact k
 | more l y Y l' h1 _ ih=>exact .more l y _ _ h1 (ih k)
theorem Mk.snoc {l l':List Nat} {Y:List (Nat×Nat)} {y:Nat×Nat} (h:Mk l Y l') (hy:okY l' y):Mk l (Y++[y]) (grow l' y):=h.append (.more _ _ _ _ hy (.done _))
theorem Mk.rows {O l l':List Nat} {Y:List (Nat×Nat)} (h:Mk l Y l') (hO:∀y∈Y,O.getD y.1 0≠0):Def.Rows O l Y l':=by
 induction h with
 | done l=>exact .done l
 | more l y Y l' h1 _ ih=>exact .more l y Y l' h1 (hO y List.mem_cons_self) (ih fun z hz=>hO z (List.mem_cons_of_mem _ hz))
theorem Mk.syms {l l':List Nat} {Y:List (Nat×Nat)} (h:Mk l Y l'):∀y∈Y,y.1<19∧y.2<2^xb y.1:=by
 induction h with
 | done l=>intro y hy;cases hy
 | more l y Y l' h1 _ ih=>
  intro z hz;rcases List.mem_cons.1 hz with rfl | hz
  ·exact ⟨h1.1,h1.2.1⟩
  ·exact ih z hz
theorem Mk.len {l l':List Nat} {Y:List (Nat×Nat)} (h:Mk l Y l'):l.length+Y.length≤l'.length:=by
 induction h with
 | done l=>simp
 | more l y Y l' _ _ ih=>
  rw [grow_length] at ih
  have:=times_pos y.1 y.2
  rw [List.length_cons];omega
theorem Mk.plain (x:Nat) (hx:x<16):∀(n:Nat) (l:List Nat),Mk l (List.replicate n (x,0)) (l++List.replicate n x):=by
 intro n
 induction n with
 | zero=>intro l;rw [List.replicate_zero,List.replicate_zero,List.append_nil];exact .done l
 | succ n ih=>
  intro l;refine .more l (x,0) _ _ ⟨by simp;omega,by simp [xb,hx],by simp;omega⟩ ?_
  rw [grow_low l x 0 hx]
  have:=ih (l++[x])
  rw [List.append_assoc] at this;exact this
def okS (x s:Nat):Prop:=(s=16∧x≠0)∨((s=17∨s=18)∧x=0)
def lst (s:Nat):Nat:=times s 0
theorem okS.small {x s:Nat} (h:okS x s):16≤s∧s≤18:=by unfold okS at h;omega
theorem okS.times {x s:Nat} (h:okS x s) (e:Nat):times s e=lst s+e:=by
 unfold lst Def.times
 have:=h.small
 have h16:¬s<16:=by omega
 simp only [if_neg h16]
 by_cases h8:s<18
 ·simp only [if_pos h8]
 ·simp only [if_neg h8]
theorem okS.lst_pos {x s:Nat} (h:okS x s):3≤lst s∧lst s≤11:=by
 unfold lst Def.times
 have:=h.small
 rw [if_neg (by omega)]
 split <;> omega
theorem lastN_rep {l:List Nat} {x k:Nat} (hl:l≠[]) (h:lastN l=x):lastN (l++List.replicate k x)=x:=by
 unfold lastN at h ⊢;have hp:0<l.length:=List.length_pos_iff.2 hl;rw [List.length_append,List.length_replicate];rcases Nat.eq_zero_or_pos k with rfl | hk
 ·rw [List.replicate_zero,List.append_nil,Nat.add_zero];exact h
 ·rw [List.getD_eq_getElem?_getD,List.getElem?_append_right (by omega),List.getElem?_replicate,if_pos (by omega)];rfl
def Sev (x:Nat) (Y:List (Nat×Nat)) (n:Nat):Prop:=(∀l,(x≠0→l≠[]∧lastN l=x)→Mk l Y (l++List.replicate n x))∧Y.length≤n
theorem Sev.nil (x:Nat):Sev x [] 0:=⟨fun l _=>by rw [List.replicate_zero,List.append_nil];exact .done l,Nat.le_refl _⟩
theorem Sev.span {x k s e:Nat} {Y:List (Nat×Nat)} (h:Sev x Y k) (hs:okS x s) (he:e<2^xb s):Sev x (Y++[(s,e)]) (k+(lst s+e)):=by
 refine ⟨fun l hl=>?_,by have:=h.2;have:=hs.lst_pos;rw [List.length_append,List.length_singleton];omega⟩
 have h1:=(h.1 l hl).snoc (y:=(s,e)) ⟨by have:=hs.small;simp;omega,he,fun h16=>by
  have hx:x≠0:=by unfold okS at hs;simp at h16;omega
  have:=(hl hx).1
  intro h0;rw [List.append_eq_nil_iff] at h0;exact this h0.1⟩
 have e1:grow (l++List.replicate k x) (s,e)=l++List.replicate (k+(lst s+e)) x:=by
  unfold grow;simp only;rw [hs.times e]
  have ev:valN (l++List.replicate k x) s=x:=by
   unfold valN
   have:=hs.small
   rw [if_neg (by omega)]
   rcases hs with ⟨rfl,hx⟩ | ⟨h1,rfl⟩
   ·rw [if_pos rfl];exact lastN_rep (hl hx).1 (hl hx).2
   ·rw [if_neg (by omega)]
  rw [ev,List.append_assoc,List.replicate_append_replicate]
 rw [e1] at h1;exact h1
theorem Sev.plain {x k:Nat} {Y:List (Nat×Nat)} (h:Sev x Y k) (hx:x<16) (n:Nat):Sev x (Y++List.replicate n (x,0)) (k+n):=by
 refine ⟨fun l hl=>?_,by have:=h.2;simp;omega⟩
 have:=(h.1 l hl).append (Mk.plain x hx n _)
 rw [List.append_assoc,List.replicate_append_replicate] at this;exact this
def Alk (x:Nat) (Y:List (Nat×Nat)) (n:Nat):Prop:=(∀l,Mk l Y (l++List.replicate n x))∧Y.length≤n
theorem Alk.zero {Y:List (Nat×Nat)} {n:Nat} (h:Sev 0 Y n):Alk 0 Y n:=⟨fun l=>h.1 l fun h=>absurd rfl h,h.2⟩
theorem Alk.one {Y:List (Nat×Nat)} {x n:Nat} (hx:x<16) (h:Sev x Y n):Alk x ((x,0)::Y) (n+1):=by
 refine ⟨fun l=>.more l (x,0) _ _ ⟨by simp;omega,by simp [xb,hx],by simp;omega⟩ ?_,by rw [List.length_cons];have:=h.2;omega⟩
 rw [grow_low l x 0 hx]
 have:=h.1 (l++[x]) fun _=>⟨by simp,by unfold lastN;simp [List.getD_eq_getElem?_getD]⟩
 rw [List.append_assoc,show [x]++List.replicate n x=List.replicate (n+1) x from rfl] at this
 exact this
theorem alike_more {L:List Nat} {Y Z:List (Nat×Nat)} {k n x:Nat} (h:Mk [] Y (L.take k)) (hZ:Alk x Z n) (hr:∀i,i<n→L[k+i]?=some x) (hk:k≤L.length):Mk [] (Y++Z) (L.take (k+n)):=by
 have h1:=h.append (hZ.1 _)
 have e:L.take k++List.replicate n x=L.take (k+n):=by
  apply List.ext_getElem?
  intro i;rcases Nat.lt_or_ge i k with hi | hi
  ·rw [List.getElem?_append_left (by rw [List.length_take];omega),List.getElem?_take_of_lt hi,List.getElem?_take_of_lt (by omega)]
  ·rw [List.getElem?_append_right (by rw [List.length_take];omega),List.length_take,Nat.min_eq_left hk,List.getElem?_replicate]
   by_cases hin:i-k<n
   ·rw [if_pos hin,List.getElem?_take_of_lt (by omega)]
    have:=hr (i-k) hin
    rw [show k+(i-k)=i by omega] at this
    exact this.symm
   ·rw [if_neg hin,List.getElem?_eq_none (by rw [List.length_take];omega)]
 rw [e] at h1;exact h1
def symC (Y:List (Nat×Nat)) (s:Nat):Nat:=(Y.map (·.1)).count s
theorem symC_pos {Y:List (Nat×Nat)} {y:Nat×Nat} (h:y∈Y):symC Y y.1≠0:=by
 unfold symC
 have:=List.count_pos_iff.2 (List.mem_map_of_mem (f:=(·.1)) h)
 omega
theorem symC_le (Y:List (Nat×Nat)) (s:Nat):symC Y s≤Y.length:=by
 unfold symC
 have:=List.count_le_length (a:=s) (l:=Y.map (·.1))
 rwa [List.length_map] at this
theorem symC_snoc (Y:List (Nat×Nat)) (y:Nat×Nat) (s:Nat):symC (Y++[y]) s=symC Y s+if s=y.1 then 1 else 0:=by
 unfold symC;rw [List.map_append,List.map_singleton,List.count_append,List.count_singleton]
 congr 1
 by_cases h:s=y.1
 ·subst h;simp
 ·simp [h,Ne.symm h]
inductive SevR (x:Nat):List Nat→Nat→List (Nat×Nat)→Prop
 | done (n:Nat):SevR x [] n (List.replicate n (x,0))
 | skip (s:Nat) (S:List Nat) (n:Nat) (Y:List (Nat×Nat)):n<lst s→SevR x S n Y→SevR x (s::S) n Y
 | more (s:Nat) (S:List Nat) (n e:Nat) (Y:List (Nat×Nat)):lst s≤n→e=min (n-lst s) (2^xb s-1)→SevR x (s::S) (n-(lst s+e)) Y→SevR x (s::S) n ((s,e)::Y)
theorem SevR.det {x n:Nat} {S:List Nat} {Y:List (Nat×Nat)} (h:SevR x S n Y):∀Y',SevR x S n Y'→Y=Y':=by
 induction h with
 | done n=>intro Y' h';cases h';rfl
 | skip s S n Y h1 h2 ih=>
  intro Y' h'
  cases h' with
  | skip _ _ _ _ k1 k2=>exact ih _ k2
  | more _ _ _ e _ k1 k2 k3=>omega
 | more s S n e Y h1 h2 h3 ih=>
  intro Y' h'
  cases h' with
  | skip _ _ _ _ k1 k2=>omega
  | more _ _ _ e' Y2 k1 k2 k3=>
   have:e=e':=by rw [h2,k2]
   subst this;rw [ih _ k3]
def SevK (x:Nat) (S:List Nat) (n k m:Nat) (Y:List (Nat×Nat)):Prop:=∀Z,SevR x (S.drop k) m Z→SevR x S n (Y++Z)
def AlkR (x n:Nat) (Y:List (Nat×Nat)):Prop:=(x=0∧SevR 0 [18,17] n Y)∨(x≠0∧∃Z,Y=(x,0)::Z∧SevR x [16] (n-1) Z)
theorem AlkR.det {x n:Nat} {Y Y':List (Nat×Nat)} (h:AlkR x n Y) (k:AlkR x n Y'):Y=Y':=by
 rcases h with ⟨h1,h2⟩ | ⟨h1,Z,rfl,h2⟩
 ·rcases k with ⟨k1,k2⟩ | ⟨k1,_⟩
  ·exact h2.det _ k2
  ·exact absurd h1 k1
 ·rcases k with ⟨k1,k2⟩ | ⟨k1,Z',rfl,k2⟩
  ·exact absurd k1 h1
  ·rw [h2.det _ k2]
inductive RunR:List Nat→List (Nat×Nat)→Prop
 | nil:RunR [] []
 | more (x n:Nat) (L rest:List Nat) (Y Z:List (Nat×Nat)):L=List.replicate (n+1) x++rest→(∀y,rest.head?=some y→y≠x)→AlkR x (n+1) Y→RunR rest Z→RunR L (Y++Z)
theorem rep_rest:∀{n m x:Nat} {r q:List Nat},List.replicate n x++r=List.replicate m x++q→(∀y,r.head?=some y→y≠x)→(∀y,q.head?=some y→y≠x)→n=m∧r=q:=by
 intro n
 induction n with
 | zero=>
  intro m x r q h h1 h2
  cases m with
  | zero=>exact ⟨rfl,by simpa using h⟩
  | succ m=>
   rw [List.replicate_zero,List.nil_append,List.replicate_succ,List.cons_append] at h;exact absurd rfl (h1 x (by rw [h];rfl))
 | succ n ih=>
  intro m x r q h h1 h2
  cases m with
  | zero=>
   rw [List.replicate_zero,List.nil_append,List.replicate_succ,List.cons_append] at h;exact absurd rfl (h2 x (by rw [←h];rfl))
  | succ m=>
   rw [List.replicate_succ,List.cons_append,List.replicate_succ,List.cons_append] at h;obtain ⟨e1,e2⟩:=ih (List.cons.inj h).2 h1 h2;exact ⟨by rw [e1],e2⟩
theorem RunR.det {L:List Nat} {Y:List (Nat×Nat)} (h:RunR L Y):∀Y',RunR L Y'→Y=Y':=by
 induction h with
 | nil=>
  intro Y' h';generalize hL:([]:List Nat)=L at h'
  cases h' with
  | nil=>rfl
  | more x n _ rest Y Z e _ _ _=>
   rw [←hL,List.replicate_succ,List.cons_append] at e;cases e
 | more x n L rest Y Z e h1 h2 _ ih=>
  intro Y' h'
  cases h' with
  | nil=>rw [List.replicate_succ,List.cons_append] at e;cases e
  | more x' n' _ rest' Y2 Z' e' k1 k2 k3=>
   have hx:x=x':=by
    rw [e,List.replicate_succ,List.cons_append,List.replicate_succ,List.cons_append] at e';exact (List.cons.inj e').1
   subst hx;obtain ⟨e1,rfl⟩:=rep_rest (e.symm.trans e') h1 k1;have e2:n=n':=by omega
   subst e2;rw [h2.det k2,ih _ k3]
def RunK (L:List Nat) (k:Nat) (Y:List (Nat×Nat)):Prop:=∀Z,RunR (L.drop k) Z→RunR L (Y++Z)
theorem run_next {L:List Nat} {k j x:Nat} {Y Z:List (Nat×Nat)} (h:RunK L k Y) (hj:1≤j) (hkj:k+j≤L.length) (hall:∀i,i<j→L.getD (k+i) 0=x) (hend:k+j<L.length→L.getD (k+j) 0≠x) (hZ:AlkR x j Z):RunK L (k+j) (Y++Z):=by
 intro W hW;obtain ⟨n,rfl⟩:∃n,j=n+1:=⟨j-1,by omega⟩
 rw [List.append_assoc];refine h _ (.more x n (L.drop k) (L.drop (k+(n+1))) Z W ?_ ?_ hZ hW)
 ·apply List.ext_getElem?
  intro i;rw [List.getElem?_drop];rcases Nat.lt_or_ge i (n+1) with hi | hi
  ·rw [List.getElem?_append_left (by simpa using hi),List.getElem?_replicate,if_pos hi,List.getElem?_eq_getElem (by omega)]
   have:=hall i hi
   rw [List.getD_eq_getElem?_getD,List.getElem?_eq_getElem (by omega),Option.getD_some] at this
   rw [this]
  ·rw [List.getElem?_append_right (by simpa using hi),List.length_replicate,List.getElem?_drop]
   congr 1;omega
 ·intro y hy;rw [List.head?_drop] at hy;obtain ⟨hl,he⟩:=List.getElem?_eq_some_iff.1 hy
  have:=hend hl
  rw [List.getD_eq_getElem?_getD,List.getElem?_eq_getElem hl,Option.getD_some,he] at this;exact this
end Go.Proofs.YthbjllabgpaaaaaGreat.Dfl
namespace Go.Proofs.YthbjllabgpaaaaaGreat.Dfl
open Go.Lib (hid)
set_option maxHeartbeats 4000000
open Go.ChangeShapes Go.WideShapes Go.ChangeAt Go.RowKit
open Go.Proofs.YthbjllabgpaaaaaGreat.Bit (WrAt But Near bitsOf bitsOf_length cnt tb pack pad wbits_any align_any wbytes_any bitsOf_add ibit)
open Go.Proofs.YthbjllabgpaaaaaGreat.Sym (wr_below)
open Go.Proofs.YthbjllabgpaaaaaGreat.Def
set_option linter.unusedVariables false
set_option maxRecDepth 100000
structure Wt (b:Nat) (v0:Value) (w0 w:World) (v:Value) (l:List Bool):Prop where
 at_:WrAt w b v l
 but:But b v0 w0 w
 near:Near w0 v0 v
theorem Wt.start {b:Nat} {v:Value} {w:World} {l:List Bool} (h:WrAt w b v l):Wt b v w w v l:=⟨h,But.refl _ _ _,Near.refl _ _⟩
theorem Wt.step {b:Nat} {v0 v v':Value} {w0 w w':World} {l l':List Bool} (h:Wt b v0 w0 w v l) (h1:WrAt w' b v' l') (h2:But b v w w') (h3:Near w v v'):Wt b v0 w0 w' v' l':=
 ⟨h1,h.but.trans h.near h2,h.near.trans h3 h.but.size⟩
theorem Wt.below {b:Nat} {v0 v:Value} {w0 w w':World} {l:List Bool} (h:Wt b v0 w0 w v l) (k:Below w.heap.size w w'):Wt b v0 w0 w' v l:=
 h.step (wr_below h.at_ k) (Bit.But.below k) (Near.refl _ _)
theorem Wt.blk {b k:Nat} {v0 v:Value} {w0 w:World} {l:List Bool} (h:Wt b v0 w0 w v l) (hk:k<w0.heap.size) (h1:k≠b) (h2:v0.ownBlock≠some k):w.heap[k]?=w0.heap[k]?:=h.but.block k hk h1 fun e=>h2 e.symm
structure Off (b:Nat) (v:Value) (w:World) (P:Nat):Prop where
 lt:P<w.heap.size
 ne:P≠b
 own:v.ownBlock≠some P
theorem Off.new {b:Nat} {v:Value} {w w':World} {l:List Bool} (h:WrAt w b v l) {P:Nat} (hP:w.heap.size≤P) (hP2:P<w'.heap.size):Off b v w' P:=by
 refine ⟨hP2,fun e=>?_,fun e=>?_⟩
 ·have:=Bit.WrRaw.lt h;omega
 ·have:=(h.own.lt _ e).2;omega
theorem Off.step {b P:Nat} {v v':Value} {w w':World} (h:Off b v w P) (k:But b v w w') (n:Near w v v'):Off b v' w' P∧w'.heap[P]?=w.heap[P]?:=by
 refine ⟨⟨Nat.lt_of_lt_of_le h.lt k.size,h.ne,fun e=>?_⟩,k.block P h.lt h.ne fun e=>h.own e.symm⟩
 rcases n P e with h1 | h1
 ·exact h.own h1
 ·have:=h.lt;omega
theorem Off.below {b P:Nat} {v:Value} {w w':World} (h:Off b v w P) (k:Below w.heap.size w w'):Off b v w' P∧w'.heap[P]?=w.heap[P]?:=h.step (Bit.But.below k) (Near.refl _ _)
theorem within_any (n l m:Int) (w:World) :
  Calls Tryz.prog 146 #[.int .i64 n,.int .i64 l,.int .i64 m] w fun e w'=>e=.returned (.bool (decide (l≤n)&&decide (n≤m)))∧w=w':=by
 go_enter Tryz.func146,Tryz.ntmps146
 go_wp2_with fail
 all_goals (go_ret;refine ⟨Lz.ret_bool ?_,rfl⟩)
 all_goals (first | (simp_all;done) | (simp_all;omega))
theorem bit_one (last:Bool):bitsOf (cnt 1) ((last.toNat:Nat):Int)=[last]:=by cases last <;> rfl
theorem begin_any (b:Nat) (v0 v:Value) (l:List Bool) (last:Bool) (kind:Nat) (w0 w:World) (h:Wt b v0 w0 w v l) (hl:l.length≤1000000000) :
  Calls Tryz.prog 71 #[.pointer (some ⟨b,0,none⟩),.bool last,.int .i64 kind] w fun e w'=>e=.returned (.tuple #[])∧∃v',Wt b v w w' v' (l++(last::bitsOf 2 kind)):=by
 have H:=hid h;have C1:=hid (wbits_any b v l 1 (last.toNat:Nat) w h.at_ (by omega))
 rw [bit_one] at C1;clear h
 have FIN:Hid (∀w1 v1,WrAt w1 b v1 (l++[last])→Calls Tryz.prog 73 #[.pointer (some ⟨b,0,none⟩),.int .i64 2,.int .i64 kind] w1 fun r w'=>r=.returned (.tuple #[])∧∃v',WrAt w' b v' (l++[last]++bitsOf 2 kind)∧But b v1 w1 w'∧Near w1 v1 v'):=
  fun w1 v1 h1=>wbits_any b v1 (l++[last]) 2 kind w1 h1 (by rw [List.length_append,List.length_singleton];omega)
 go_enter Tryz.func71,Tryz.ntmps71
 cases last with
 | false=>
  go_wp2_with fail
  refine C1.out.mono ?_;rintro r w1 ⟨rfl,v1,h1,b1,n1⟩;have W1:=hid ((Wt.start H.out.at_).step h1 b1 n1);have C2:=hid (FIN.out w1 v1 h1);clear h1 b1 n1 C1 FIN
  go_wp2_with fail
  refine C2.out.mono ?_;rintro r w2 ⟨rfl,v2,h2,b2,n2⟩;have W2:=hid (W1.out.step h2 b2 n2);clear h2 b2 n2 C2
  go_wp2_with fail
  go_end0
  have:=W2.out
  rw [List.append_assoc] at this;exact ⟨rfl,v2,this⟩
 | true=>
  go_wp2_with fail
  refine C1.out.mono ?_;rintro r w1 ⟨rfl,v1,h1,b1,n1⟩;have W1:=hid ((Wt.start H.out.at_).step h1 b1 n1);have C2:=hid (FIN.out w1 v1 h1);clear h1 b1 n1 C1 FIN
  go_wp2_with fail
  refine C2.out.mono ?_;rintro r w2 ⟨rfl,v2,h2,b2,n2⟩;have W2:=hid (W1.out.step h2 b2 n2);clear h2 b2 n2 C2
  go_wp2_with fail
  go_end0
  have:=W2.out
  rw [List.append_assoc] at this;exact ⟨rfl,v2,this⟩
def pcs (last:Bool) (s:ByteArray):List (ByteArray×Bool):=if s.size≤65535 then [(s,last)] else [(s.extract 0 65535,false),(s.extract 65535 s.size,last)]
def cellsP:List (ByteArray×Bool)→List Value
 | []=>[]
 | p::l=>.string p.1::.bool p.2::cellsP l
theorem cellsP_get (l:List (ByteArray×Bool)):∀i (h:i<l.length),(cellsP l)[i*2]?=some (.string l[i].1)∧(cellsP l)[i*2+1]?=some (.bool l[i].2):=by
 induction l with
 | nil=>intro i h;simp at h
 | cons t l ih=>
  intro i h
  cases i with
  | zero=>exact ⟨rfl,rfl⟩
  | succ i=>
   have:=ih i (by simpa using h)
   rw [show (i+1)*2=i*2+2 by omega]
   simpa [cellsP] using this
theorem info_pc:(Tryz.prog.info? 116).map (fun i=>(i.zero,i.size,i.bytes))=some (some (.agg #[.string ⟨#[]⟩,.bool false]),2,24):=by kernel_rfl
structure PcAt (B:Nat) (w:World) (v:Value) (l:List (ByteArray×Bool)):Prop where
 own:w.ownsRow 0 116 2 v l.length (cellsP l)
 new:∀j,v.ownBlock=some j→B≤j
theorem pc_lit (w:World) (p:ByteArray×Bool) (T:TypeId):∀j u,(cellsP [p])[j]?=some u→(w.alloc (.cells #[.string p.1,.bool p.2] T)).cell? ((⟨w.heap.size,0,none⟩:Addr).add j)=some u:=by
 intro j u hj;rw [Go.WideShapes.add_plain,Nat.zero_add,cell_of_row _ _ j _ _ _ (heap_alloc_new _ _)]
 match j,hj with
 | 0,h=>exact h
 | 1,h=>exact h
theorem pc_one (p:ByteArray×Bool):∀u∈cellsP [p],u.oneCell'=true:=by
 intro u hu;simp only [cellsP,List.mem_cons,List.not_mem_nil,or_false] at hu;rcases hu with rfl | rfl <;> rfl
theorem pieces_any (s:ByteArray) (last:Bool) (w:World) (hs:s.size≤70000) :
  Calls Tryz.prog 68 #[.string s,.bool last] w fun e w'=>∃v,e=.returned v∧PcAt w.heap.size w' v (pcs last s)∧Below w.heap.size w w':=by
 obtain ⟨i0,hi,hz0,hz1,hz2⟩:=Huf.info_parts info_pc;obtain ⟨TT,hTT⟩:∃TT,pcs last s=TT:=⟨_,rfl⟩;rw [hTT];have HT:=hid hTT;clear hTT
 go_enter Tryz.func68,Tryz.ntmps68
 go_wp2_with fail
 go_loopw [0,5] (fun sv u wr=>∃(t:ByteArray) (l0:List (ByteArray×Bool)),sv=.string t∧t.size≤70000∧l0.length≤1∧(l0.length=1→t.size≤65535)∧(if t.size≤65535 then l0++[(t,last)]=TT else l0=[]∧[(t.extract 0 65535,false),(t.extract 65535 t.size,last)]=TT)∧PcAt w.heap.size wr u l0∧Below w.heap.size w wr) (fun sv _ _=>match sv with | .string t=>t.size | _=>0)
 case atStart=>
  refine ⟨s,[],rfl,hs,by simp,by simp,?_,⟨World.ownsRow_nil _ _ _ _,fun j h=>by cases h⟩,Below.refl _ _⟩
  rw [←HT.out];unfold pcs
  split <;> simp
 case round=>
  obtain ⟨t,l0,rfl,hts,hl0,hl1,hc,hp,hb⟩:=hrel
  have NEXT:Hid (∀p wr' v',(wr.alloc (.cells #[.string p.1,.bool p.2] 116)).grownBy wr' u5.ownBlock→Lz.Near (wr.alloc (.cells #[.string p.1,.bool p.2] 116)) u5 v'→wr'.ownsRow 0 116 2 v' (l0.length+1) (cellsP l0++cellsP [p])→PcAt w.heap.size wr' v' (l0++[p])∧Below w.heap.size w wr'):=by
   intro p wr' v' hg hn ho;have hb2:=hb.alloc hb.size (.cells #[.string p.1,.bool p.2] 116)
   have ha:∀(a b:List (ByteArray×Bool)),cellsP (a++b)=cellsP a++cellsP b:=by
    intro a b
    induction a with
    | nil=>rfl
    | cons x a ih=>simp [cellsP,ih]
   refine ⟨⟨by rw [List.length_append,List.length_singleton,ha];exact ho,fun j hj=>?_⟩,hb2.grown hg hb2.size hp.new⟩
   rcases hn j hj with h | h
   ·exact hp.new j h
   ·have:=hb2.size;omega
  have HA:Hid (∀o,(wr.alloc o).ownsRow 0 116 2 u5 l0.length (cellsP l0)):=hid fun o=>hp.own.alloc o
  clear hp hb HT
  by_cases hlt:65535<t.size
  ·rw [if_neg (by omega)] at hc
   obtain ⟨rfl,hc⟩:=hc;obtain ⟨R,hR⟩:∃R,t.extract 65535 t.size=R:=⟨_,rfl⟩;obtain ⟨P,hP⟩:∃P,t.extract 0 65535=P:=⟨_,rfl⟩;have hRs:R.size≤65535∧R.size<t.size:=by rw [←hR];simp;omega
   rw [hR,hP] at hc;have HC:=hid hc;have HR:=hid hRs;have h1:(65535:Int)<t.size:=by omega
   have N2:=hid (NEXT.out (P,false));clear hc hRs NEXT hl1 hl0
   go_wp2_with (at_builtin;refine Lz.wpList_append_near _ rfl _ _ 113 rfl 116 i0 (.agg #[.string ⟨#[]⟩,.bool false]) 2 24 Tryz.underlying113 hi hz0 hz1 hz2 rfl (by decide) u5 0 [] rfl (HA.out _) ⟨wr.heap.size,0,none⟩ 1 1 (cellsP [(P,false)]) rfl rfl (pc_lit wr (P,false) _) (pc_one _) (by unfold maxLen;omega) (by omega) ?_;intro v6 w6 o6 g6 n6;have H6:=hid (N2.out w6 v6 g6 n6 o6);clear o6 g6 n6)
   refine ⟨⟨R,[(P,false)],rfl,by have:=HR.out;omega,Nat.le_refl _,fun _=>HR.out.1,?_,H6.out.1,H6.out.2⟩,?_⟩
   ·rw [if_pos HR.out.1];exact HC.out
   ·exact HR.out.2
  ·rw [if_pos (by omega)] at hc
   have HC:=hid hc;have h1:¬(65535:Int)<t.size:=by omega
   have N2:=hid (NEXT.out (t,last));have HL:=hid hl0;generalize hLn:l0.length=n0 at *;clear hc NEXT hl1 hl0
   go_wp2_with (at_builtin;refine Lz.wpList_append_near _ rfl _ _ 113 rfl 116 i0 (.agg #[.string ⟨#[]⟩,.bool false]) 2 24 Tryz.underlying113 hi hz0 hz1 hz2 rfl (by decide) u5 n0 (cellsP l0) rfl (HA.out _) ⟨wr.heap.size,0,none⟩ 1 1 (cellsP [(t,last)]) rfl rfl (pc_lit wr (t,last) _) (pc_one _) (by unfold maxLen;have:=HL.out;omega) (by have:=HL.out;omega) ?_;intro v6 w6 o6 g6 n6;have H6:=hid (N2.out w6 v6 g6 n6 o6);clear o6 g6 n6)
   go_ret;rw [←HC.out];exact ⟨_,rfl,H6.out.1,H6.out.2⟩
end Go.Proofs.YthbjllabgpaaaaaGreat.Dfl
