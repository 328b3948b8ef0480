/-
  Texts in one: LzRow, LzMath, LzBaseS, LzTokS.
-/
import Derived.Test.YthbjllabgpaaaaaGreatRows
import Derived.WalkKit
import Derived.ProofKit
import Derived.OpenShut
import Derived.ShutString
import Derived.ChangeOld
import Derived.Below
import Derived.WalkSpells
import Derived.WalkLawsBesides
import Derived.Deep.QuietTactic
import Derived.Deep.WholeRow
import Derived.BigQuiet
import Derived.BigGuardPart
import Derived.StillTailTactics
import Derived.Deep.RegionHeld3
import Derived.Deep.RegionWith
import Derived.Outline
import Derived.IntWalk
import Derived.Lib.Hide
import Derived.ArgAppend
import Derived.Lib.AppendStr
import Derived.Test.YthbjllabgpaaaaaGreatAllBit
import Derived.Laws.MakeOwn
import Derived.Lib.SmallJoins
import Derived.Deep.Slices
namespace Go.Proofs.YthbjllabgpaaaaaGreat.Lz
open Go.Lib (hid)
open Go.ChangeShapes Go.WideShapes Go.ChangeAt Go.RowKit
set_option linter.unusedVariables false
theorem info_u8:(Tryz.prog.info? 5).map (fun i=>(i.zero,i.size,i.bytes))=some (some (.int .u8 0),1,1):=by kernel_rfl
def Near (w:World) (v v':Value):Prop:=∀k,v'.ownBlock=some k→v.ownBlock=some k∨w.heap.size≤k
theorem Near.refl (w:World) (v:Value):Near w v v:=fun _ h=>.inl h
theorem Near.trans {w w1:World} {v v1 v2:Value} (h:Near w v v1) (k:Near w1 v1 v2) (hs:w.heap.size≤w1.heap.size):Near w v v2:=by
 intro i hi;rcases k i hi with h1 | h1
 ·exact h i h1
 ·exact .inr (by omega)
theorem run_append_near {P:Program} (w:World) (t ty e:TypeId) (i:TypeInfo) (z:Value) (size bytes:Nat) (ht:P.underlying t=some (.slice e)) (hi:P.info? e=some i) (hz:i.zero=some z)
  (hsize:i.size=size) (hby:i.bytes=bytes) (hzs:z.cells.size=size) (hsz:0<size)
  (v:Value) (n:Nat) (xs:List Value) (hown:w.ownsRow 0 e size v n xs)
  (a:Addr) (m c:Nat) (news:List Value) (hl:news.length=m*size) (hnews:∀j u,news[j]?=some u→w.cell? (a.add j)=some u) (h1:∀u∈news,u.oneCell'=true)
  (h63:n+m≤maxLen) (hbytes:(n+m)*bytes≤140737488355328) :
  ∃v' w',(Builtin.append_ #[t,t] ty #[v,.slice (some a) m c]).run P w=.ok v' w'∧w'.ownsRow 0 e size v' (n+m) (xs++news)∧w.grownBy w' v.ownBlock∧Near w v v':=by
 rcases hown.2 with ⟨rfl,rfl⟩ | ⟨g,cap,cur,rfl,hbg,hg,hnc,hcm,hcs,htake⟩
 ·obtain ⟨v',w',hr,h2,h3,_⟩:=run_append_own (P:=P) w w.heap.size t ty e i z size bytes ht hi hz hsize hby hzs hsz (.slice none 0 0) 0 xs ⟨hown.1,.inl ⟨rfl,rfl⟩⟩ a m c news hl hnews h1 h63 hbytes (Nat.le_refl _);refine ⟨v',w',hr,⟨h2.1,?_⟩,h3,fun k hk=>.inr (h2.lt k hk).1⟩
  rcases h2.2 with h | ⟨g,cap,cur,h1,_,h3⟩
  ·exact .inl h
  ·exact .inr ⟨g,cap,cur,h1,Nat.zero_le _,h3⟩
 ·by_cases hroom:n+m≤cap
  ·obtain ⟨w',hr,h2,h3⟩:=run_append_fits (P:=P) w 0 t ty e i size ht hi hsize g n cap xs hown a m c news hl hnews h1 hroom;exact ⟨_,w',hr,h2,h3,fun k hk=>.inl hk⟩
  ·have holds:∀j u,xs[j]?=some u→w.cell? ((⟨g,0,none⟩:Addr).add j)=some u:=hown.cells (g:=g) rfl;obtain ⟨v',w',hr,h2,h3⟩:=run_append_arg_grows (P:=P) w t ty e i z size bytes ht hi hz hsize hby hzs hsz ⟨g,0,none⟩ n cap xs hown.1 holds a m c news hl hnews (by omega) h63 hbytes
   refine ⟨v',w',hr,⟨h2.1,?_⟩,⟨h3.os,h3.tape,h3.output,h3.size,fun k hk _=>h3.block k hk (by simp)⟩,fun k hk=>.inr (h2.lt k hk).1⟩
   rcases h2.2 with h | ⟨g,cap,cur,h1,_,h3⟩
   ·exact .inl h
   ·exact .inr ⟨g,cap,cur,h1,Nat.zero_le _,h3⟩
theorem wpList_append_near {P:Program} (w:World) {ops:Array Oper} {rest:List Oper} {o:Oper} {a:Act} {Q:Exit→Act→World→Prop} (hgd:o.guard=none) (s x:Operand) (t:TypeId)
  (ho:o.op=.call { callee:=.builtin .append,args:=#[s,x],argTypes:=#[t,t] })
  (e:TypeId) (i:TypeInfo) (z:Value) (size bytes:Nat) (ht:P.underlying t=some (.slice e)) (hi:P.info? e=some i) (hz:i.zero=some z)
  (hsize:i.size=size) (hby:i.bytes=bytes) (hzs:z.cells.size=size) (hsz:0<size)
  (v:Value) (n:Nat) (xs:List Value) (hs:a.eval s=v) (hown:w.ownsRow 0 e size v n xs)
  (ad:Addr) (m c:Nat) (news:List Value) (hx:a.eval x=.slice (some ad) m c) (hl:news.length=m*size) (hnews:∀j u,news[j]?=some u→w.cell? (ad.add j)=some u) (h1:∀u∈news,u.oneCell'=true)
  (h63:n+m≤maxLen) (hbytes:(n+m)*bytes≤140737488355328)
  (h:∀v' w',w'.ownsRow 0 e size v' (n+m) (xs++news)→w.grownBy w' v.ownBlock→Near w v v'→wpList P ops Q rest (a.put o.dst v') w'):wpList P ops Q (o::rest) a w:=by
 refine wpList_plain hgd fun K hK=>?_
 obtain ⟨v',w',hr,h2,h3,h4⟩:=run_append_near (P:=P) w t o.type e i z size bytes ht hi hz hsize hby hzs hsz v n xs hown ad m c news hl hnews h1 h63 hbytes;unfold Oper.wp execOp;simp only [ho,resolve,invoke,builtin,Sem.run_bind,Sem.run_pure,Result.andThen_ok,List.map_toArray,List.map_cons,List.map_nil,hs,hx,hr];exact hK _ _ (h v' w' h2 h3 h4)
def cellsU (l:List UInt8):List Value:=l.map fun b=>Value.int .u8 b.toNat
theorem own_form {w:World} {base size n:Nat} {e:TypeId} {v:Value} {xs:List Value} (h:w.ownsRow base e size v n xs) (hn:0<n):∃g cap,v=.slice (some ⟨g,0,none⟩) n cap:=by
 rcases h.2 with ⟨_,h0⟩ | ⟨g,cap,cur,rfl,_⟩
 ·omega
 ·exact ⟨g,cap,rfl⟩
theorem run_append_string_near {P:Program} (w:World) (t u ty e:TypeId) (i:TypeInfo) (ht:P.underlying t=some (.slice e)) (hu:P.underlying u=some .string) (hi:P.info? e=some i) (hz:i.zero=some (.int .u8 0))
  (hsize:i.size=1) (hby:i.bytes=1) (v:Value) (n:Nat) (xs:List Value) (hown:w.ownsRow 0 e 1 v n xs) (s:ByteArray) (h63:n+s.size≤maxLen) (hbytes:n+s.size≤140737488355328) :
  ∃v' w',(Builtin.append_ #[t,u] ty #[v,.string s]).run P w=.ok v' w'∧w'.ownsRow 0 e 1 v' (n+s.size) (xs++Lib.strCells s)∧w.grownBy w' v.ownBlock∧Near w v v':=by
 obtain ⟨v',w',hr,h2,h3,_⟩:=Lib.run_append_own_string (P:=P) w 0 t u ty e i ht hu hi hz hsize hby v n xs hown s h63 hbytes (Nat.zero_le _);refine ⟨v',w',hr,h2,h3,?_⟩;rcases hown.2 with ⟨rfl,rfl⟩ | ⟨g,cap,cur,rfl,hbg,hg,hnc,hcm,hcs,htake⟩
 ·obtain ⟨v2,w2,hr2,h4,_⟩:=Lib.run_append_own_string (P:=P) w w.heap.size t u ty e i ht hu hi hz hsize hby (.slice none 0 0) 0 xs ⟨hown.1,.inl ⟨rfl,rfl⟩⟩ s h63 hbytes (Nat.le_refl _);rw [hr] at hr2
  injection hr2 with e1 e2
  subst e1 e2;exact fun k hk=>.inr (h4.lt k hk).1
 ·by_cases hroom:n+s.size≤cap
  ·have hr2:=Lib.run_append_room_string (P:=P) w t u ty e i ht hu hi hsize g n cap cur hg s hroom (by omega)
   rw [hr] at hr2
   injection hr2 with e1 e2
   subst e1;exact fun k hk=>.inl hk
  ·have holds:∀j u,xs[j]?=some u→w.cell? ((⟨g,0,none⟩:Addr).add j)=some u:=hown.cells (g:=g) rfl;have hr2:=Lib.run_append_grow_string (P:=P) w t u ty e i (.int .u8 0) ht hu hi hz ⟨g,0,none⟩ n cap xs (by rw [hsize];simpa using hown.1) holds s (by omega) (by unfold maxLen at h63;omega) (by rw [hby];exact growslice_fits (by omega) (by omega))
   rw [hr] at hr2
   injection hr2 with e1 e2
   subst e1;intro k hk;simp only [Value.ownBlock,Option.some.injEq] at hk;exact .inr (by omega)
theorem strCells_eq (s:ByteArray):Lib.strCells s=cellsU s.data.toList:=rfl
theorem wpList_append_string_near {P:Program} (w:World) {ops:Array Oper} {rest:List Oper} {o:Oper} {a:Act} {Q:Exit→Act→World→Prop} (hgd:o.guard=none) (sl x:Operand) (t u:TypeId)
  (ho:o.op=.call { callee:=.builtin .append,args:=#[sl,x],argTypes:=#[t,u] })
  (e:TypeId) (i:TypeInfo) (ht:P.underlying t=some (.slice e)) (hu:P.underlying u=some .string) (hi:P.info? e=some i) (hz:i.zero=some (.int .u8 0))
  (hsize:i.size=1) (hby:i.bytes=1)
  (v:Value) (n:Nat) (xs:List Value) (hs:a.eval sl=v) (hown:w.ownsRow 0 e 1 v n xs) (s:ByteArray) (hx:a.eval x=.string s)
  (h63:n+s.size≤maxLen) (hbytes:n+s.size≤140737488355328)
  (h:∀v' w',w'.ownsRow 0 e 1 v' (n+s.size) (xs++Lib.strCells s)→w.grownBy w' v.ownBlock→Near w v v'→wpList P ops Q rest (a.put o.dst v') w'):wpList P ops Q (o::rest) a w:=by
 refine wpList_plain hgd fun K hK=>?_
 obtain ⟨v',w',hr,h2,h3,h4⟩:=run_append_string_near (P:=P) w t u o.type e i ht hu hi hz hsize hby v n xs hown s h63 hbytes;unfold Oper.wp execOp;simp only [ho,resolve,invoke,builtin,Sem.run_bind,Sem.run_pure,Result.andThen_ok,List.map_toArray,List.map_cons,List.map_nil,hs,hx,hr];exact hK _ _ (h v' w' h2 h3 h4)
end Go.Proofs.YthbjllabgpaaaaaGreat.Lz
namespace Go.Proofs.YthbjllabgpaaaaaGreat.Lz
open Go.Lib (hid)
set_option linter.unusedVariables false
structure Tok where
 B:Int
 L:Int
 D:Int
instance:Inhabited Tok:=⟨⟨0,0,0⟩⟩
def okT (t:Tok):Bool:=
 if t.L=0 then decide (t.D=0)&&(decide (0≤t.B)&&decide (t.B≤255))
 else decide (t.B=0)&&(decide (3≤t.L)&&decide (t.L≤258))&&(decide (1≤t.D)&&decide (t.D≤32768))
theorem okT_byte {t:Tok} (h:okT t=true) (h0:t.L=0):t.D=0∧0≤t.B∧t.B≤255:=by
 unfold okT at h;rw [if_pos h0] at h
 simpa using h
theorem okT_piece {t:Tok} (h:okT t=true) (h0:t.L≠0):t.B=0∧3≤t.L∧t.L≤258∧1≤t.D∧t.D≤32768:=by
 unfold okT at h;rw [if_neg h0] at h;simp at h;omega
def cp (all:List UInt8) (d:Nat):Nat→List UInt8
 | 0=>all
 | k+1=>cp all d k++[(cp all d k).getD ((cp all d k).length-d) 0]
theorem cp_length (all:List UInt8) (d k:Nat):(cp all d k).length=all.length+k:=by
 induction k with
 | zero=>rfl
 | succ k ih=>simp [cp,ih];omega
theorem cp_pre (all:List UInt8) (d k:Nat):∃r,cp all d k=all++r:=by
 induction k with
 | zero=>exact ⟨[],by simp [cp]⟩
 | succ k ih=>
  obtain ⟨r,h⟩:=ih;exact ⟨r++[(cp all d k).getD ((cp all d k).length-d) 0],by rw [cp,←List.append_assoc,←h]⟩
def stepT (all:List UInt8) (t:Tok):List UInt8:=if t.L=0 then all++[UInt8.ofNat t.B.toNat] else cp all t.D.toNat t.L.toNat
def errT (n:Nat) (t:Tok):Int:=if okT t=true then (if (n:Int)<t.D then 60 else 0) else 1
def run (all:List UInt8):List Tok→List UInt8×Int
 | []=>(all,0)
 | t::r=>if errT all.length t=0 then run (stepT all t) r else ([],errT all.length t)
theorem stepT_pre (all:List UInt8) (t:Tok):∃r,stepT all t=all++r:=by
 unfold stepT
 split
 ·exact ⟨_,rfl⟩
 ·exact cp_pre _ _ _
theorem errT_ok {n:Nat} {t:Tok} (h:errT n t=0):okT t=true∧t.D≤n:=by
 unfold errT at h
 by_cases h1:okT t=true
 ·rw [if_pos h1] at h
  by_cases h2:(n:Int)<t.D
  ·rw [if_pos h2] at h;exact absurd h (by decide)
  ·exact ⟨h1,by omega⟩
 ·rw [if_neg h1] at h;exact absurd h (by decide)
theorem errT_good {n:Nat} {t:Tok} (h1:okT t=true) (h2:t.D≤n):errT n t=0:=by
 unfold errT;rw [if_pos h1,if_neg (by omega)]
theorem stepT_length {all:List UInt8} {t:Tok} (h:okT t=true):(stepT all t).length≤all.length+258:=by
 unfold stepT
 split
 ·simp
 ·next h0=>rw [cp_length];have:=okT_piece h h0;omega
theorem run_append (l m:List Tok):∀all,run all (l++m)=if (run all l).2=0 then run (run all l).1 m else run all l:=by
 induction l with
 | nil=>intro all;simp [run]
 | cons t r ih=>
  intro all;show (if errT all.length t=0 then run (stepT all t) (r++m) else ([],errT all.length t))=_
  by_cases h:errT all.length t=0
  ·rw [if_pos h,ih];simp only [run,if_pos h]
  ·rw [if_neg h];simp only [run,if_neg h]
theorem run_snoc {all a:List UInt8} {l:List Tok} (h:run all l=(a,0)) (t:Tok):run all (l++[t])=if errT a.length t=0 then (stepT a t,0) else ([],errT a.length t):=by
 rw [run_append,h];simp only [if_true,run]
theorem run_more {all a:List UInt8} {l:List Tok} (h:run all l=(a,0)) (m:List Tok):run all (l++m)=run a m:=by
 rw [run_append,h];rfl
theorem run_err (l:List Tok):∀all,(run all l).2≠0→(run all l).1=[]:=by
 induction l with
 | nil=>intro all h;exact absurd rfl h
 | cons t r ih=>
  intro all h
  by_cases h1:errT all.length t=0
  ·simp only [run,if_pos h1] at h ⊢;exact ih _ h
  ·simp only [run,if_neg h1]
theorem run_pre (l:List Tok):∀all a,run all l=(a,0)→(∃r,a=all++r)∧a.length≤all.length+258*l.length:=by
 induction l with
 | nil=>intro all a h;simp only [run,Prod.mk.injEq] at h;exact ⟨⟨[],by simp [h.1]⟩,by simp [h.1]⟩
 | cons t r ih=>
  intro all a h
  by_cases h1:errT all.length t=0
  ·simp only [run,if_pos h1] at h;obtain ⟨⟨x,hx⟩,hl⟩:=ih _ _ h;obtain ⟨y,hy⟩:=stepT_pre all t
   have:=stepT_length (all:=all) (errT_ok h1).1
   refine ⟨⟨y++x,by rw [hx,hy,List.append_assoc]⟩,?_⟩
   simp only [List.length_cons];omega
  ·simp only [run,if_neg h1,Prod.mk.injEq] at h;exact absurd h.2 h1
theorem run_at {all a:List UInt8} {l:List Tok} {k:Nat} (hk:k<l.length) (h:run all (l.take k)=(a,0)) (he:errT a.length l[k]≠0):run all l=([],errT a.length l[k]):=by
 have e:l=l.take k++(l[k]::l.drop (k+1)):=by rw [←List.drop_eq_getElem_cons hk,List.take_append_drop]
 have e2:run all l=run all (l.take k++(l[k]::l.drop (k+1))):=by rw [←e]
 rw [e2,run_more h];simp only [run,if_neg he]
theorem run_next {all a:List UInt8} {l:List Tok} {k:Nat} (hk:k<l.length) (h:run all (l.take k)=(a,0)) (he:errT a.length l[k]=0):run all (l.take (k+1))=(stepT a l[k],0):=by
 rw [List.take_succ_eq_append_getElem hk,run_snoc h,if_pos he]
def tailL (s:List UInt8):List UInt8:=s.drop (s.length-32768)
theorem tailL_length (s:List UInt8):(tailL s).length=min s.length 32768:=by simp [tailL];omega
theorem tailL_small {s:List UInt8} (h:s.length≤32768):tailL s=s:=by
 unfold tailL;rw [show s.length-32768=0 by omega,List.drop_zero]
def expL (win:List UInt8) (l:List Tok):List UInt8:=(run (tailL win) l).1.drop (tailL win).length
def expE (win:List UInt8) (l:List Tok):Int:=(run (tailL win) l).2
theorem exp_good {win a:List UInt8} {l:List Tok} (h:run (tailL win) l=(tailL win++a,0)):expL win l=a∧expE win l=0:=by
 unfold expL expE;rw [h];exact ⟨List.drop_left,rfl⟩
theorem exp_cases (win:List UInt8) (l:List Tok):(expE win l≠0∧expL win l=[])∨(expE win l=0∧run (tailL win) l=(tailL win++expL win l,0)∧(expL win l).length≤258*l.length):=by
 by_cases h:expE win l=0
 ·right
  obtain ⟨x,hx⟩:∃x,(run (tailL win) l).1=x:=⟨_,rfl⟩;have h1:run (tailL win) l=(x,0):=Prod.ext hx h;obtain ⟨⟨r,hr⟩,hl⟩:=run_pre _ _ _ h1;have h2:expL win l=r:=by unfold expL;rw [hx,hr];exact List.drop_left
  refine ⟨h,?_,?_⟩
  ·rw [h2,←hr];exact h1
  ·rw [h2];rw [hr,List.length_append] at hl;omega
 ·left
  refine ⟨h,?_⟩;have h2:(run (tailL win) l).1=[]:=run_err l (tailL win) h;unfold expL;generalize (run (tailL win) l).1=x at h2;subst h2;exact List.drop_nil
def byteT (b:UInt8):Tok:=⟨b.toNat,0,0⟩
theorem byteT_ok (b:UInt8):okT (byteT b)=true:=by
 have:=b.toNat_lt
 unfold okT;rw [if_pos (show (byteT b).L=0 from rfl)]
 show (decide ((0:Int)=0)&&(decide ((0:Int)≤b.toNat)&&decide ((b.toNat:Int)≤255)))=true;rw [decide_eq_true (show (0:Int)≤b.toNat by omega),decide_eq_true (show (b.toNat:Int)≤255 by omega)]
 rfl
theorem byteT_step (all:List UInt8) (b:UInt8):errT all.length (byteT b)=0∧stepT all (byteT b)=all++[b]:=by
 refine ⟨errT_good (byteT_ok b) ?_,?_⟩
 ·show (0:Int)≤_;omega
 ·unfold stepT;rw [if_pos (show (byteT b).L=0 from rfl)]
  show all++[UInt8.ofNat ((b.toNat:Int).toNat)]=_
  simp
theorem run_plain (s:List UInt8):∀all,run all (s.map byteT)=(all++s,0):=by
 induction s with
 | nil=>intro all;simp [run]
 | cons b r ih=>
  intro all;obtain ⟨h1,h2⟩:=byteT_step all b;simp only [List.map_cons,run,if_pos h1,h2,ih]
  simp
theorem exp_plain (win s:List UInt8):expL win (s.map byteT)=s∧expE win (s.map byteT)=0:=exp_good (run_plain s _)
def alikeL:List UInt8→List UInt8→Nat
 | a::x,b::y=>if a=b then alikeL x y+1 else 0
 | _,_=>0
theorem alikeL_le (x:List UInt8):∀y,alikeL x y≤x.length∧alikeL x y≤y.length:=by
 induction x with
 | nil=>intro y;simp [alikeL]
 | cons a x ih=>
  intro y
  cases y with
  | nil=>simp [alikeL]
  | cons b y=>
   have:=ih y
   simp only [alikeL,List.length_cons]
   split <;> omega
theorem alikeL_same (x:List UInt8):∀y k,k<alikeL x y→x.getD k 0=y.getD k 0:=by
 induction x with
 | nil=>intro y k h;simp [alikeL] at h
 | cons a x ih=>
  intro y k h
  cases y with
  | nil=>simp [alikeL] at h
  | cons b y=>
   simp only [alikeL] at h
   split at h
   ·next e=>
    cases k with
    | zero=>simpa using e
    | succ k=>simpa using ih y k (by omega)
   ·omega
theorem alikeL_at_least (x:List UInt8):∀y k,k≤x.length→k≤y.length→(∀i,i<k→x.getD i 0=y.getD i 0)→k≤alikeL x y:=by
 induction x with
 | nil=>intro y k h1 _ _;simp at h1;omega
 | cons a x ih=>
  intro y k h1 h2 h
  cases k with
  | zero=>omega
  | succ k=>
   cases y with
   | nil=>simp at h2
   | cons b y=>
    have e:a=b:=by simpa using h 0 (by omega)
    simp only [alikeL,if_pos e]
    have:=ih y k (by simpa using h1) (by simpa using h2) (fun i hi=>by simpa using h (i+1) (by omega))
    omega
theorem alikeL_stop (x y:List UInt8) (k:Nat) (h1:k≤alikeL x y) (h2:k<x.length→k<y.length→x.getD k 0≠y.getD k 0):alikeL x y=k:=by
 have:=alikeL_le x y
 by_cases h:k<alikeL x y
 ·exact absurd (alikeL_same x y k h) (h2 (by omega) (by omega))
 ·omega
def beg (T:List UInt8) (p:Nat):Nat:=(T.getD p 0).toNat*65536+(T.getD (p+1) 0).toNat*256+(T.getD (p+2) 0).toNat
theorem beg_same {T:List UInt8} {p q:Nat} (h:beg T p=beg T q) (i:Nat) (hi:i<3):T.getD (p+i) 0=T.getD (q+i) 0:=by
 unfold beg at h;have h1:=(T.getD p 0).toNat_lt;have h2:=(T.getD (p+1) 0).toNat_lt;have h3:=(T.getD (p+2) 0).toNat_lt;have h4:=(T.getD q 0).toNat_lt;have h5:=(T.getD (q+1) 0).toNat_lt;have h6:=(T.getD (q+2) 0).toNat_lt;obtain rfl | rfl | rfl:i=0∨i=1∨i=2:=by omega
 ·exact UInt8.toNat_inj.1 (by simp only [Nat.add_zero];omega)
 ·exact UInt8.toNat_inj.1 (by omega)
 ·exact UInt8.toNat_inj.1 (by omega)
theorem beg_eq {T:List UInt8} {p q:Nat} (h:∀i,i<3→T.getD (p+i) 0=T.getD (q+i) 0):beg T p=beg T q:=by
 have h0:=h 0 (by omega)
 have h1:=h 1 (by omega)
 have h2:=h 2 (by omega)
 simp only [Nat.add_zero] at h0;unfold beg;rw [h0,h1,h2]
def restL (T:List UInt8) (p:Nat):List UInt8:=(T.drop p).take 258
theorem restL_length (T:List UInt8) (p:Nat):(restL T p).length=min 258 (T.length-p):=by simp [restL]
theorem restL_getD (T:List UInt8) (p k:Nat) (h:k<(restL T p).length):(restL T p).getD k 0=T.getD (p+k) 0:=by
 rw [restL_length] at h;unfold restL;simp [List.getD_eq_getElem?_getD,List.getElem?_drop,show k<258 by omega]
theorem drop_getD (T:List UInt8) (p k:Nat):(T.drop p).getD k 0=T.getD (p+k) 0:=by
 simp [List.getD_eq_getElem?_getD,List.getElem?_drop]
theorem beg_alike {T:List UInt8} {p q:Nat} (hq:q<p) (hp:p+3≤T.length) (h:beg T q=beg T p):3≤alikeL (T.drop q) (restL T p):=by
 refine alikeL_at_least _ _ _ (by simp;omega) (by rw [restL_length];omega) fun i hi=>?_
 rw [drop_getD,restL_getD _ _ _ (by rw [restL_length];omega)]
 exact beg_same h i hi
def Good (T:List UInt8) (p:Nat) (t:Tok):Prop:=
 t=byteT (T.getD p 0)∨∃f:Nat,f<p∧p-f≤32768∧3≤alikeL (T.drop f) (restL T p)∧t=⟨0,(alikeL (T.drop f) (restL T p):Nat),((p-f:Nat):Int)⟩
def Full (T:List UInt8) (p:Nat) (t:Tok):Prop:=
 ∀q,q<p→p-q≤128→p+3≤T.length→beg T q=beg T p→((alikeL (T.drop q) (restL T p):Nat):Int)≤t.L
def wide (t:Tok):Nat:=max t.L.toNat 1
theorem Good.wide {T:List UInt8} {p:Nat} {t:Tok} (h:Good T p t) (hp:p<T.length):1≤wide t∧p+wide t≤T.length∧(t.L=0∨3≤t.L)∧t.L≤((restL T p).length:Nat):=by
 rcases h with rfl | ⟨f,hf,_,h3,rfl⟩
 ·simp [Lz.wide,byteT];omega
 ·have:=(alikeL_le (T.drop f) (restL T p)).2
  rw [restL_length] at this ⊢;simp only [Lz.wide];omega
theorem Good.makes {T:List UInt8} {p:Nat} {t:Tok} (h:Good T p t) (hp:p<T.length):errT (T.take p).length t=0∧stepT (T.take p) t=T.take (p+Lz.wide t):=by
 have lp:(T.take p).length=p:=by simp;omega
 rcases h with rfl | ⟨f,hf,h2,h3,rfl⟩
 ·obtain ⟨h1,h2⟩:=byteT_step (T.take p) (T.getD p 0);refine ⟨h1,h2.trans ?_⟩;rw [show Lz.wide (byteT (T.getD p 0))=1 from rfl,List.take_succ_eq_append_getElem hp]
  simp [List.getD_eq_getElem?_getD,hp]
 ·have hl:=(alikeL_le (T.drop f) (restL T p)).2;have hs:=alikeL_same (T.drop f) (restL T p);rw [restL_length] at hl;generalize hn:alikeL (T.drop f) (restL T p)=n at *;refine ⟨errT_good ?_ ?_,?_⟩
  ·unfold okT;rw [if_neg (by show ((n:Nat):Int)≠0;omega)]
   show (decide ((0:Int)=0)&&(decide (3≤((n:Nat):Int))&&decide (((n:Nat):Int)≤258))&&(decide (1≤((p-f:Nat):Int))&&decide (((p-f:Nat):Int)≤32768)))=true;rw [decide_eq_true (show 3≤((n:Nat):Int) by omega),decide_eq_true (show ((n:Nat):Int)≤258 by omega),decide_eq_true (show 1≤((p-f:Nat):Int) by omega),decide_eq_true (show ((p-f:Nat):Int)≤32768 by omega)]
   rfl
  ·rw [lp];show ((p-f:Nat):Int)≤_;omega
  ·unfold stepT;rw [if_neg (by show ((n:Nat):Int)≠0;omega)]
   show cp (T.take p) ((p-f:Nat):Int).toNat ((n:Nat):Int).toNat=T.take (p+max ((n:Nat):Int).toNat 1);simp only [Int.toNat_natCast];rw [Nat.max_eq_left (by omega)]
   have key:∀k,k≤n→cp (T.take p) (p-f) k=T.take (p+k):=by
    intro k
    induction k with
    | zero=>intro _;rfl
    | succ k ih=>
     intro hk;have hpk:p+k<T.length:=by omega
     rw [cp,ih (by omega),←Nat.add_assoc,List.take_succ_eq_append_getElem hpk]
     congr 2
     have h5:(T.take (p+k)).length=p+k:=by simp;omega
     rw [h5,show p+k-(p-f)=f+k by omega]
     have h6:(T.take (p+k)).getD (f+k) 0=T.getD (f+k) 0:=by
      simp [List.getD_eq_getElem?_getD,show f+k<p+k by omega]
     have h7:=alikeL_same (T.drop f) (restL T p) k (by omega)
     rw [drop_getD,restL_getD _ _ _ (by rw [restL_length];omega)] at h7
     rw [h6,h7];simp [List.getD_eq_getElem?_getD,hpk]
   exact key n (Nat.le_refl _)
inductive Chain (T:List UInt8) (P:Nat→Tok→Prop) (s:Nat):List Tok→Nat→Prop
 | nil:Chain T P s [] s
 | snoc {l:List Tok} {p:Nat} {t:Tok}:Chain T P s l p→p<T.length→Good T p t→P p t→Chain T P s (l++[t]) (p+wide t)
theorem Chain.makes {T:List UInt8} {P:Nat→Tok→Prop} {s p:Nat} {l:List Tok} (h:Chain T P s l p):run (T.take s) l=(T.take p,0)∧s+l.length≤p:=by
 induction h with
 | nil=>exact ⟨rfl,by simp⟩
 | snoc h1 h2 h3 _ ih=>
  obtain ⟨m1,m2⟩:=h3.makes h2
  have:=(h3.wide h2).1
  refine ⟨?_,?_⟩
  ·rw [run_snoc ih.1,if_pos m1,m2]
  ·have:=ih.2;simp only [List.length_append,List.length_singleton];omega
theorem Chain.same {c:UInt8} {n p:Nat} {l:List Tok} (h:Chain (List.replicate n c) (fun p t=>Full (List.replicate n c) p t) 0 l p) :
  (l.length=0∧p=0)∨∃k0,1≤k0∧k0≤l.length∧258*(k0-1)+1≤n ∧
   ((l.length=k0∧p=258*(k0-1)+1)∨(p=n∧l.length≤k0+2)∨(n<258*(k0-1)+4∧p=258*(k0-1)+1+(l.length-k0)∧p≤n)):=by
 induction h with
 | nil=>exact .inl ⟨rfl,rfl⟩
 | @snoc l p t h1 h2 h3 h4 ih=>
  have hlen:(List.replicate n c).length=n:=by simp
  rw [hlen] at h2;obtain ⟨g1,g2,g3,g4⟩:=h3.wide (by rw [hlen];exact h2)
  rw [hlen] at g2;rw [restL_length,hlen] at g4
  right
  simp only [List.length_append,List.length_singleton];have hwide:Lz.wide t=max t.L.toNat 1:=rfl
  have hfull:1≤p→p+3≤n→((min 258 (n-p):Nat):Int)≤t.L:=by
   intro hp hpn;have hgd:∀i,i<n→(List.replicate n c).getD i 0=c:=fun i hi=>by simp [List.getD_eq_getElem?_getD,hi]
   have:=h4 (p-1) (by omega) (by omega) (by rw [hlen];exact hpn) (beg_eq fun i hi=>by rw [hgd _ (by omega),hgd _ (by omega)])
   refine Int.le_trans ?_ this
   have h8:min 258 (n-p)≤alikeL ((List.replicate n c).drop (p-1)) (restL (List.replicate n c) p):=by
    refine alikeL_at_least _ _ _ (by simp;omega) (by rw [restL_length,hlen];omega) fun i hi=>?_
    rw [drop_getD,restL_getD _ _ _ (by rw [restL_length,hlen];omega),hgd _ (by omega),hgd _ (by omega)]
   omega
  rcases ih with ⟨e1,e2⟩ | ⟨k0,a1,a2,a3,b⟩
  ·refine ⟨1,by omega,by omega,by omega,.inl ⟨by omega,?_⟩⟩
   subst e2;rcases h3 with rfl | ⟨f,hf,_⟩
   ·simp [Lz.wide,byteT]
   ·omega
  ·rcases b with ⟨b1,b2⟩ | ⟨b1,b2⟩ | ⟨b1,b2,b3⟩
   ·by_cases hc:p+3≤n
    ·have:=hfull (by omega) hc
     by_cases hd:258≤n-p
     ·refine ⟨k0+1,by omega,by omega,by omega,.inl ⟨by omega,by omega⟩⟩
     ·refine ⟨k0,by omega,by omega,by omega,.inr (.inl ⟨by omega,by omega⟩)⟩
    ·refine ⟨k0,by omega,by omega,by omega,.inr (.inr ⟨by omega,by omega,by omega⟩)⟩
   ·omega
   ·refine ⟨k0,by omega,by omega,by omega,.inr (.inr ⟨by omega,by omega,by omega⟩)⟩
theorem Chain.runs {c:UInt8} {n:Nat} {l:List Tok} (h:Chain (List.replicate n c) (fun p t=>Full (List.replicate n c) p t) 0 l n):l.length≤4+n/258:=by
 rcases h.same with ⟨h1,_⟩ | ⟨k0,h1,h2,h3,h4⟩ <;> omega
theorem Chain.back {win s:List UInt8} {P:Nat→Tok→Prop} {l:List Tok} (h:Chain (tailL win++s) P (tailL win).length l (tailL win++s).length):expL win l=s∧expE win l=0∧l.length≤s.length:=by
 obtain ⟨h1,h2⟩:=h.makes;rw [List.take_left,List.take_length] at h1;obtain ⟨h3,h4⟩:=exp_good h1;refine ⟨h3,h4,?_⟩;simp only [List.length_append] at h2;omega
end Go.Proofs.YthbjllabgpaaaaaGreat.Lz
namespace Go.Proofs.YthbjllabgpaaaaaGreat.Lz
open Go.Lib (hid)
open Go.ChangeShapes Go.WideShapes Go.ChangeAt Go.RowKit
set_option linter.unusedVariables false
theorem ret_bool {a b:Bool} (h:a=b):Ending.returned (Value.bool a)=Ending.returned (.bool b):=by rw [h]
theorem within_any (n l m:Int) (w:World) :
  Calls Tryz.prog 164 #[.int .i64 n,.int .i64 l,.int .i64 m] w fun e w'=>e=.returned (.bool (decide (l≤n)&&decide (n≤m)))∧w=w':=by
 go_enter Tryz.func164,Tryz.ntmps164
 go_wp2_with fail
 all_goals (go_ret;refine ⟨ret_bool ?_,rfl⟩)
 all_goals (first | (simp_all;done) | (simp_all;omega))
def tokC (t:Tok):Array Value:=#[.int .i64 t.B,.int .i64 t.L,.int .i64 t.D]
theorem valid_any (t:Tok) (w:World) :
  Calls Tryz.prog 142 #[.agg (tokC t)] w fun e w'=>e=.returned (.bool (okT t))∧w'=w.alloc (.cells (tokC t) 136):=by
 obtain ⟨V,hV⟩:∃V,okT t=V:=⟨_,rfl⟩;rw [hV];have HV:=hid hV;clear hV;obtain ⟨b,l,d⟩:=t;unfold tokC
 by_cases hl:l=0
 ·subst hl
  by_cases hd:d=0
  ·subst hd
   go_enter Tryz.func142,Tryz.ntmps142
   go_wp2_with fail
   refine (within_any _ _ _ _).mono ?_;rintro r w' ⟨rfl,rfl⟩
   go_wp2_with fail
   go_ret;refine ⟨ret_bool ?_,rfl⟩;rw [←HV.out]
   rfl
  ·have V0:V=false:=by rw [←HV.out];simp [okT,hd]
   subst V0
   go_enter Tryz.func142,Tryz.ntmps142
   go_wp2_with fail
   go_ret;exact ⟨rfl,rfl⟩
 ·have hl2:(l==0)=false:=by simpa using hl
  by_cases hb:b=0
  ·subst hb;obtain ⟨x,hx⟩:∃x,(decide (3≤l)&&decide (l≤258))=x:=⟨_,rfl⟩
   cases x with
   | false=>
    have V0:V=false:=by rw [←HV.out];simp only [okT,if_neg hl,hx];simp
    subst V0
    go_enter Tryz.func142,Tryz.ntmps142
    go_wp2_with fail
    refine (within_any _ _ _ _).mono ?_;rintro r w' ⟨rfl,rfl⟩;rw [hx]
    go_wp2_with fail
    go_ret;exact ⟨rfl,rfl⟩
   | true=>
    have V0:V=(decide (1≤d)&&decide (d≤32768)):=by rw [←HV.out];simp only [okT,if_neg hl,hx];simp
    subst V0;generalize hy:(decide (1≤d)&&decide (d≤32768))=y;have HY:=hid hy;clear hy HV
    go_enter Tryz.func142,Tryz.ntmps142
    go_wp2_with fail
    refine (within_any _ _ _ _).mono ?_;rintro r w' ⟨rfl,rfl⟩;rw [hx]
    go_wp2_with fail
    refine (within_any _ _ _ _).mono ?_;rintro r w' ⟨rfl,rfl⟩;rw [HY.out]
    go_wp2_with fail
    go_ret;exact ⟨rfl,rfl⟩
  ·have V0:V=false:=by rw [←HV.out];simp [okT,hl,hb]
   subst V0
   go_enter Tryz.func142,Tryz.ntmps142
   go_wp2_with fail
   go_ret;exact ⟨rfl,rfl⟩
theorem refValid_any (t:Tok) (w:World) :
  Calls Tryz.prog 91 #[.agg (tokC t)] w fun e w'=>e=.returned (.bool (okT t))∧w'=w.alloc (.cells (tokC t) 136):=by
 obtain ⟨V,hV⟩:∃V,okT t=V:=⟨_,rfl⟩;rw [hV];have HV:=hid hV;clear hV;obtain ⟨b,l,d⟩:=t;unfold tokC
 by_cases hl:l=0
 ·have V0:V=(decide (d=0)&&(decide (0≤b)&&decide (b≤255))):=by rw [←HV.out];simp only [okT,if_pos hl]
  subst hl;have HV:=hid V0;clear V0
  go_enter Tryz.func91,Tryz.ntmps91
  go_wp2_with fail
  all_goals (go_ret;refine ⟨ret_bool ?_,?_⟩)
  all_goals (first | (rw [HV.out];simp_all;done) | (rw [HV.out];simp_all;omega) | rfl | (simp_all;done))
 ·have V0:V=(decide (b=0)&&(decide (3≤l)&&decide (l≤258))&&(decide (1≤d)&&decide (d≤32768))):=by rw [←HV.out];simp only [okT,if_neg hl]
  have hl2:(l==0)=false:=by simpa using hl
  have HL:=hid hl;have HV:=hid V0;clear V0 hl
  go_enter Tryz.func91,Tryz.ntmps91
  go_wp2_with fail
  all_goals (go_ret;refine ⟨ret_bool ?_,?_⟩)
  all_goals (first | (rw [HV.out];simp_all;done) | (rw [HV.out];simp_all;omega) | rfl | (simp_all;done))
end Go.Proofs.YthbjllabgpaaaaaGreat.Lz
namespace Go.Proofs.YthbjllabgpaaaaaGreat.Lz
open Go.Lib (hid)
open Go.ChangeShapes Go.WideShapes Go.ChangeAt Go.RowKit
set_option linter.unusedVariables false
def TokAt (w:World) (b o:Nat) (t:Tok):Prop:=
 w.cell? ⟨b,o,none⟩=some (.int .i64 t.B)∧w.cell? ⟨b,o+1,none⟩=some (.int .i64 t.L)∧w.cell? ⟨b,o+2,none⟩=some (.int .i64 t.D)
def IsToks (w:World) (a:Option Addr) (l:List Tok):Prop:=
 0<l.length→∃b off,a=some ⟨b,off,none⟩∧b<w.heap.size∧∀i (h:i<l.length),TokAt w b (off+i*3) l[i]
theorem IsToks.below {w w':World} {a:Option Addr} {l:List Tok} {n:Nat} (h:IsToks w a l) (k:Below n w w') (hn:w.heap.size≤n):IsToks w' a l:=by
 intro h0;obtain ⟨b,off,e,hb,hc⟩:=h h0;refine ⟨b,off,e,Nat.lt_of_lt_of_le hb k.size,fun i hi=>?_⟩
 obtain ⟨q1,q2,q3⟩:=hc i hi;exact ⟨(k.cell (by show b<n;omega)).trans q1,(k.cell (by show b<n;omega)).trans q2,(k.cell (by show b<n;omega)).trans q3⟩
theorem info_tok:(Tryz.prog.info? 136).map (fun i=>(i.zero,i.size,i.bytes))=some (some (.agg #[.int .i64 0,.int .i64 0,.int .i64 0]),3,24):=by kernel_rfl
def cellsT:List Tok→List Value
 | []=>[]
 | t::l=>.int .i64 t.B::.int .i64 t.L::.int .i64 t.D::cellsT l
theorem cellsT_length (l:List Tok):(cellsT l).length=l.length*3:=by
 induction l with
 | nil=>rfl
 | cons t l ih=>simp [cellsT,ih];omega
theorem cellsT_append (l m:List Tok):cellsT (l++m)=cellsT l++cellsT m:=by
 induction l with
 | nil=>rfl
 | cons t l ih=>simp [cellsT,ih]
theorem cellsT_one (l:List Tok):∀u∈cellsT l,u.oneCell'=true:=by
 induction l with
 | nil=>intro u hu;simp [cellsT] at hu
 | cons t l ih=>
  intro u hu;simp only [cellsT,List.mem_cons] at hu;rcases hu with rfl | rfl | rfl | h
  ·rfl
  ·rfl
  ·rfl
  ·exact ih u h
theorem cellsT_get (l:List Tok):∀i (h:i<l.length),(cellsT l)[i*3]?=some (.int .i64 l[i].B)∧(cellsT l)[i*3+1]?=some (.int .i64 l[i].L)∧(cellsT l)[i*3+2]?=some (.int .i64 l[i].D):=by
 induction l with
 | nil=>intro i h;simp at h
 | cons t l ih=>
  intro i h
  cases i with
  | zero=>exact ⟨rfl,rfl,rfl⟩
  | succ i=>
   have:=ih i (by simpa using h)
   rw [show (i+1)*3=i*3+3 by omega]
   simpa [cellsT] using this
theorem cellsT_set (l:List Tok):∀i (h:i<l.length) (b:Int),(cellsT l).set (i*3) (.int .i64 b)=cellsT (l.set i ⟨b,l[i].L,l[i].D⟩):=by
 induction l with
 | nil=>intro i h;simp at h
 | cons t l ih=>
  intro i h b
  cases i with
  | zero=>rfl
  | succ i=>
   have:=ih i (by simpa using h) b
   rw [show (i+1)*3=i*3+3 by omega]
   simpa [cellsT] using this
theorem cellsT_made (n:Nat):(madeCells #[.int .i64 0,.int .i64 0,.int .i64 0] (n*3)).toList=cellsT (List.replicate n ⟨0,0,0⟩):=by
 apply List.ext_getElem?
 intro j
 by_cases hj:j<n*3
 ·obtain ⟨i,r,hr,rfl⟩:∃i r,r<3∧j=i*3+r:=⟨j/3,j%3,Nat.mod_lt _ (by decide),by omega⟩
  obtain ⟨g0,g1,g2⟩:=cellsT_get (List.replicate n ⟨0,0,0⟩) i (by simp;omega)
  simp only [List.getElem_replicate] at g0 g1 g2
  have hm:(madeCells #[.int .i64 0,.int .i64 0,.int .i64 0] (n*3)).toList[i*3+r]?=some (Value.int .i64 0):=by
   unfold madeCells;simp [hj];obtain rfl | rfl | rfl:r=0∨r=1∨r=2:=by omega
   ·simp
   ·simp
   ·simp
  rw [hm];obtain rfl | rfl | rfl:r=0∨r=1∨r=2:=by omega
  ·exact g0.symm
  ·exact g1.symm
  ·exact g2.symm
 ·rw [List.getElem?_eq_none (show (madeCells #[.int .i64 0,.int .i64 0,.int .i64 0] (n*3)).toList.length≤j by simp [madeCells];omega),List.getElem?_eq_none (by rw [cellsT_length];simp;omega)]
theorem toks_of_row {w:World} {B n cap:Nat} {a:Option Addr} {l:List Tok} (hn:l.length=n) (h:w.ownsRow B 136 3 (.slice a n cap) n (cellsT l)):IsToks w a l:=by
 intro h0;rcases h.2 with ⟨h1,h2⟩ | ⟨g,cap2,cur,h1,_⟩
 ·omega
 ·simp only [Value.slice.injEq] at h1;obtain ⟨rfl,_,rfl⟩:=h1;refine ⟨g,0,rfl,(h.lt g rfl).2,fun i hi=>?_⟩
  obtain ⟨g0,g1,g2⟩:=cellsT_get l i hi;refine ⟨?_,?_,?_⟩
  ·rw [Nat.zero_add,h.cellAt (i*3) (by omega)];exact g0
  ·rw [Nat.zero_add,h.cellAt (i*3+1) (by omega)];exact g1
  ·rw [Nat.zero_add,h.cellAt (i*3+2) (by omega)];exact g2
def part (s:List UInt8) (k:Nat):List Tok:=(s.take k).map byteT++List.replicate (s.length-k) ⟨0,0,0⟩
theorem part_length (s:List UInt8) (k:Nat) (h:k≤s.length):(part s k).length=s.length:=by simp [part];omega
theorem part_get (s:List UInt8) (k:Nat) (h:k<s.length):(part s k)[k]'(by rw [part_length _ _ (by omega)];exact h)=⟨0,0,0⟩:=by
 have e:(part s k)[k]?=some ⟨0,0,0⟩:=by
  unfold part;rw [List.getElem?_append_right (by simp;omega)]
  simp only [List.getElem?_replicate,List.length_map,List.length_take];rw [if_pos (by omega)]
 exact (List.getElem?_eq_some_iff.1 e).2
theorem part_step (s:List UInt8) (k:Nat) (h:k<s.length):(cellsT (part s k)).set (k*3) (.int .i64 (s[k].toNat:Nat))=cellsT (part s (k+1)):=by
 rw [cellsT_set _ k (by rw [part_length _ _ (by omega)];exact h),part_get s k h]
 congr 1
 apply List.ext_getElem?
 intro j;rw [List.getElem?_set,part_length _ _ (by omega)]
 unfold part
 by_cases hj:k=j
 ·subst hj;rw [if_pos rfl,if_pos h,List.getElem?_append_left (by simp;omega)]
  simp [byteT,h]
 ·rw [if_neg hj]
  by_cases h1:j<k
  ·rw [List.getElem?_append_left (by simp;omega),List.getElem?_append_left (by simp;omega)]
   simp [h1,show j<k+1 by omega]
  ·rw [List.getElem?_append_right (by simp;omega),List.getElem?_append_right (by simp;omega)]
   simp only [List.getElem?_replicate,List.length_map,List.length_take]
   by_cases h2:j<s.length
   ·rw [if_pos (by omega),if_pos (by omega)]
   ·rw [if_neg (by omega),if_neg (by omega)]
end Go.Proofs.YthbjllabgpaaaaaGreat.Lz
