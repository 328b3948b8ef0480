/-
  Several texts of layer 5 in one: the stable sort over rows, packages, and the contract of huffman.Lengths.
-/
import Derived.Test.YthbjllabgpaaaaaGreatHufAllA
import Derived.Test.YthbjllabgpaaaaaGreatAllHuf
import Derived.Lib.AppendZerosOnto
import Derived.BigRegion
import Derived.Test.YthbjllabgpaaaaaGreatAllRf
namespace Go.Proofs.YthbjllabgpaaaaaGreat.Huf
open Go.Lib (hid)
set_option maxHeartbeats 4000000
set_option linter.unusedVariables false
def ahead (f:Nat→Nat) (x y:Tr×Nat):Prop:=x.1.wt f<y.1.wt f∨(x.1.wt f=y.1.wt f∧x.2<y.2)
def Stb (f:Nat→Nat) (l l':List Tr):Prop:=∃L:List (Tr×Nat),L.Perm l.zipIdx∧L.Pairwise (ahead f)∧L.map (·.1)=l'
theorem one_order {α:Type} {R:α→α→Prop} (hR:∀a b,R a b→R b a→False):∀{L M:List α},L.Perm M→L.Pairwise R→M.Pairwise R→L=M
 | [],M,p,_,_=>by have:=p.length_eq;simp at this;rw [List.eq_nil_of_length_eq_zero this.symm]
 | a::L,[],p,_,_=>by have:=p.length_eq;simp at this
 | a::L,b::M,p,h,k=>by
  by_cases e:a=b
  ·subst e;rw [one_order hR (List.Perm.cons_inv p) (List.pairwise_cons.1 h).2 (List.pairwise_cons.1 k).2]
  ·have h1:b∈L:=by
    rcases List.mem_cons.1 (p.mem_iff.2 (List.mem_cons_self ..)) with h | h
    ·exact absurd h.symm e
    ·exact h
   have h2:a∈M:=by
    rcases List.mem_cons.1 (p.mem_iff.1 (List.mem_cons_self ..)) with h | h
    ·exact absurd h e
    ·exact h
   exact (hR a b ((List.pairwise_cons.1 h).1 b h1) ((List.pairwise_cons.1 k).1 a h2)).elim
theorem Stb.det {f:Nat→Nat} {l a b:List Tr} (h:Stb f l a) (k:Stb f l b):a=b:=by
 obtain ⟨L,p,o,rfl⟩:=h;obtain ⟨M,q,r,rfl⟩:=k;rw [one_order (fun x y h1 h2=>by unfold ahead at h1 h2;omega) (p.trans q.symm) o r]
theorem Stb.perm {f:Nat→Nat} {l l':List Tr} (h:Stb f l l'):l'.Perm l:=by
 obtain ⟨L,h1,h2,rfl⟩:=h
 have:=h1.map (·.1)
 rwa [List.zipIdx_map_fst] at this
theorem Stb.up {f:Nat→Nat} {l l':List Tr} (h:Stb f l l'):l'.Pairwise (fun p q=>p.wt f≤q.wt f):=by
 obtain ⟨L,h1,h2,rfl⟩:=h;refine List.pairwise_map.2 (h2.imp fun {a b} hab=>?_)
 unfold ahead at hab;omega
def LvS (f:Nat→Nat) (S:List Nat):Nat→List Tr→Prop
 | 0,P=>P=[]
 | d+1,P=>∃P',LvS f S d P'∧Stb f (S.map .leaf++pairs P') P
theorem LvS.det {f:Nat→Nat} {S:List Nat}:∀{d:Nat} {P Q:List Tr},LvS f S d P→LvS f S d Q→P=Q
 | 0,P,Q,h,k=>by cases h;cases k;rfl
 | d+1,P,Q,⟨P',h,h2⟩,⟨Q',k,k2⟩=>by
  obtain rfl:=LvS.det h k;exact h2.det k2
theorem LvS.lv {f:Nat→Nat} {S:List Nat}:∀{d:Nat} {P:List Tr},LvS f S d P→Lv f S d P
 | 0,P,h=>h
 | d+1,P,⟨P',h,h2⟩=>⟨P',h.lv,h2.perm,h2.up⟩
def StbP (f:Nat→Nat) (l l':List Pk):Prop:=∃L:List (Pk×Nat),L.Perm l.zipIdx∧L.Pairwise (fun x y=>ahead f (x.1.t,x.2) (y.1.t,y.2))∧L.map (·.1)=l'
theorem StbP.trees {f:Nat→Nat} {l l':List Pk} (h:StbP f l l'):Stb f (l.map (·.t)) (l'.map (·.t)):=by
 obtain ⟨L,h1,h2,rfl⟩:=h;refine ⟨L.map fun x=>(x.1.t,x.2),?_,List.pairwise_map.2 h2,by simp⟩
 have:=h1.map fun x=>(x.1.t,x.2)
 rw [List.zipIdx_map];exact this
theorem StbP.perm {f:Nat→Nat} {l l':List Pk} (h:StbP f l l'):l'.Perm l:=by
 obtain ⟨L,h1,h2,rfl⟩:=h
 have:=h1.map (·.1)
 rwa [List.zipIdx_map_fst] at this
end Go.Proofs.YthbjllabgpaaaaaGreat.Huf
namespace Go.Proofs.YthbjllabgpaaaaaGreat.Huf
open Go.Lib (hid)
set_option maxHeartbeats 4000000
open Go.ChangeShapes Go.WideShapes Go.ChangeAt Go.RowKit
set_option linter.unusedVariables false
theorem infoP:(Tryz.prog.info? 209).map (fun i=>(i.zero,i.size,i.bytes))=some (some (.agg #[.int .i64 0,.slice none 0 0]),2,32):=by kernel_rfl
theorem infoI:(Tryz.prog.info? 3).map (fun i=>(i.zero,i.size,i.bytes))=some (some (.int .i64 0),1,8):=info_int
theorem zeros_size (z:Array Value) (n:Nat):(Builtin.zeroCells z n).size=n*z.size:=by
 simp [Builtin.zeroCells]
def Sees (w:World) (size:Nat) (v:Value) (n:Nat) (cs:List Value):Prop:=
 cs.length=n*size∧(∀u∈cs,u.oneCell'=true)∧((v=.slice none 0 0∧n=0)∨∃g off cap,v=.slice (some ⟨g,off,none⟩) n cap∧g<w.heap.size∧∀j u,cs[j]?=some u→w.cell? ⟨g,off+j,none⟩=some u)
theorem Sees.form {w:World} {size:Nat} {v:Value} {n:Nat} {cs:List Value} (h:Sees w size v n cs):∃a cap,v=.slice a n cap:=by
 rcases h.2.2 with ⟨h1,h2⟩ | ⟨g,off,cap,h1,_⟩
 ·exact ⟨none,0,by rw [h1,h2]⟩
 ·exact ⟨_,cap,h1⟩
theorem Sees.below {w w':World} {size B:Nat} {v:Value} {n:Nat} {cs:List Value} (h:Sees w size v n cs) (k:Below B w w') (hB:w.heap.size≤B):Sees w' size v n cs:=by
 refine ⟨h.1,h.2.1,?_⟩;rcases h.2.2 with h1 | ⟨g,off,cap,h1,h2,h3⟩
 ·exact .inl h1
 ·exact .inr ⟨g,off,cap,h1,Nat.lt_of_lt_of_le h2 k.size,fun j u hj=>(k.cell (p:=⟨g,off+j,none⟩) (show g<B by omega)).trans (h3 j u hj)⟩
theorem run_append_sees2 {P:Program} (w:World) (t ty e:TypeId) (i:TypeInfo) (z:Value) (size bytes:Nat) (ht:P.underlying t=some (.slice e)) (hi:P.info? e=some i) (hz:i.zero=some z)
  (hsize:i.size=size) (hby:i.bytes=bytes) (hzs:z.cells.size=size) (hsz:0<size)
  (v:Value) (n:Nat) (xs:List Value) (hown:w.ownsRow 0 e size v n xs) (src:Value) (m:Nat) (cs:List Value) (hs:Sees w size src m cs) (h63:n+m≤maxLen) (hbytes:(n+m)*bytes≤140737488355328) :
  ∃v' w',(Builtin.append_ #[t,t] ty #[v,src]).run P w=.ok v' w'∧w'.ownsRow 0 e size v' (n+m) (xs++cs)∧w.grownBy w' v.ownBlock∧Bit.Near w v v':=by
 rcases hs.2.2 with ⟨rfl,rfl⟩ | ⟨g,off,cap,rfl,_,hc⟩
 ·have:cs=[]:=List.length_eq_zero_iff.1 (by have:=hs.1;omega)
  subst this;exact ⟨v,w,run_append_owned_none (P:=P) (w:=w) 0 t ty e i size ht hi v n xs hown,by simpa using hown,World.grownBy.refl _ _,Bit.Near.refl _ _⟩
 ·exact Bit.run_append_near (P:=P) w t ty e i z size bytes ht hi hz hsize hby hzs hsz v n xs hown ⟨g,off,none⟩ m cap cs hs.1 (fun j u hj=>by rw [Go.WideShapes.add_plain];exact hc j u hj) hs.2.1 h63 hbytes
theorem wpl_append_sees {P:Program} (w:World) {ops:Array Oper} {rest:List Oper} {o:Oper} {a:Act} {Q:Exit→Act→World→Prop} (hgd:o.guard=none) (s x:Operand) (t:TypeId)
  (ho:o.op=.call { callee:=.builtin .append,args:=#[s,x],argTypes:=#[t,t] })
  (e:TypeId) (i:TypeInfo) (z:Value) (size bytes:Nat) (ht:P.underlying t=some (.slice e)) (hi:P.info? e=some i) (hz:i.zero=some z)
  (hsize:i.size=size) (hby:i.bytes=bytes) (hzs:z.cells.size=size) (hsz:0<size)
  (v:Value) (n:Nat) (xs:List Value) (hv:a.eval s=v) (hown:w.ownsRow 0 e size v n xs) (src:Value) (m:Nat) (cs:List Value) (hx:a.eval x=src) (hs:Sees w size src m cs) (h63:n+m≤maxLen) (hbytes:(n+m)*bytes≤140737488355328)
  (h:∀v' w',w'.ownsRow 0 e size v' (n+m) (xs++cs)→w.grownBy w' v.ownBlock→Bit.Near w v v'→wpList P ops Q rest (a.put o.dst v') w'):wpList P ops Q (o::rest) a w:=by
 refine wpList_plain hgd fun K hK=>?_
 obtain ⟨v',w',hr,h2,h3,h4⟩:=run_append_sees2 (P:=P) w t o.type e i z size bytes ht hi hz hsize hby hzs hsz v n xs hown src m cs hs h63 hbytes;unfold Oper.wp execOp;simp only [ho,resolve,invoke,builtin,Sem.run_bind,Sem.run_pure,Result.andThen_ok,List.map_toArray,List.map_cons,List.map_nil,hv,hx,hr];exact hK _ _ (h v' w' h2 h3 h4)
set_option maxRecDepth 10000 in
theorem growP_any (n:Nat) (w:World) (hn:n≤1000000) :
  Calls Tryz.prog 189 #[.slice none 0 0,.int .i64 n] w fun e w'=>∃v,e=.returned v∧w'.ownsRow w.heap.size 209 2 v 0 []∧Below w.heap.size w w':=by
 obtain ⟨i0,hi,hz0,hz1,hz2⟩:=info_parts infoP;have h1:¬((n:Int)<0):=by omega
 by_cases h0:n=0
 ·subst h0
  go_enter Tryz.func189,Tryz.ntmps189
  go_wp2_with fail
  go_ret;exact ⟨_,rfl,World.ownsRow_nil _ _ _ _,Below.refl _ _⟩
 ·have hb:(0+n)*i0.bytes≤140737488355328:=by rw [hz2,Nat.zero_add];omega
  have hr:∀ty,(Builtin.append_ #[205,3] ty #[.slice none 0 0,.int .i64 n]).run Tryz.prog w =
    .ok (.slice (some ⟨w.heap.size,0,none⟩) n (grownCap w n 0 209)) (w.drew.alloc (.cells (Builtin.zeroCells (Value.agg #[.int .i64 0,.slice none 0 0]).cells n++Builtin.zeroCells (Value.agg #[.int .i64 0,.slice none 0 0]).cells (grownCap w n 0 209-n)) 209)):=fun ty=>by
   have h:=Lib.run_append_grow_zeros (P:=Tryz.prog) w 205 3 ty 209 i0 (Value.agg #[.int .i64 0,.slice none 0 0]) .i64 .i64 Tryz.underlying205 Tryz.underlying3 hi hz0 none 0 0 [] (by exact run_firstCells_none w.drew i0.size 0 0 0) n (by omega) (by rw [hz1];decide) (by omega) (by omega)
    (by rw [hz2];omega) (growslice_fits (by omega) hb)
   simpa using h
  have hG:=grownCap_ge w n 0 209;have hM:=grownCap_le_maxLen w n 0 209 (by unfold maxLen;omega)
  generalize grownCap w n 0 209=G at *;have hn0:(0:Int)<(n:Int):=by omega
  have hp:(n:Int)>0:=hn0
  have HF:Hid ((w.drew.alloc (.cells (Builtin.zeroCells (Value.agg #[.int .i64 0,.slice none 0 0]).cells n++Builtin.zeroCells (Value.agg #[.int .i64 0,.slice none 0 0]).cells (G-n)) 209)).ownsRow w.heap.size 209 2 (.slice (some ⟨w.heap.size,0,none⟩) 0 G) 0 []∧Below w.heap.size w (w.drew.alloc (.cells (Builtin.zeroCells (Value.agg #[.int .i64 0,.slice none 0 0]).cells n++Builtin.zeroCells (Value.agg #[.int .i64 0,.slice none 0 0]).cells (G-n)) 209))):=by
   refine ⟨⟨rfl,.inr ⟨w.heap.size,G,_,rfl,Nat.le_refl _,heap_alloc_new _ _,Nat.zero_le _,hM,?_,by simp⟩⟩,(Below.refl _ _).drew.alloc (Nat.le_refl _) _⟩
   rw [Array.size_append,zeros_size,zeros_size];show n*2+(G-n)*2=G*2;omega
  have hG63:G≤9223372036854775807:=hM;clear hb hM
  go_enter Tryz.func189,Tryz.ntmps189
  go_wp2_with (at_builtin;refine Lib.wpList_append_run _ rfl _ _ _ _ rfl _ _ rfl rfl _ _ (hr _) ?_)
  go_ret;exact ⟨_,rfl,HF.out⟩
set_option maxRecDepth 10000 in
theorem concatP_any (v1 v2:Value) (n1 n2:Nat) (c1 c2:List Value) (B:Nat) (w:World) (h1:Sees w 2 v1 n1 c1) (h2:Sees w 2 v2 n2 c2) (k1:w.cell? ⟨B,0,none⟩=some v1) (k2:w.cell? ⟨B,1,none⟩=some v2)
  (hB:B<w.heap.size) (hn1:n1≤500000) (hn2:n2≤500000) :
  Calls Tryz.prog 185 #[.slice (some ⟨B,0,none⟩) 2 2] w fun e w'=>∃v,e=.returned v∧w'.ownsRow 0 209 2 v (n1+n2) (c1++c2)∧Below w.heap.size w w'∧∀j,v.ownBlock=some j→w.heap.size≤j:=by
 obtain ⟨i0,hi,hz0,hz1,hz2⟩:=info_parts infoP;obtain ⟨a1,p1,e1⟩:=h1.form;obtain ⟨a2,p2,e2⟩:=h2.form;subst e1;subst e2;have H1:=hid h1;have H2:=hid h2;have K1:=hid k1;have K2:=hid k2;clear h1 h2
 go_enter Tryz.func185,Tryz.ntmps185
 go_wp2_with fail
 go_loop [3,11] (fun x i=>∃k:Nat,k≤2∧i=.int .i64 k∧x=.int .i64 ((if k=0 then 0 else if k=1 then n1 else n1+n2:Nat):Int)) (fun _ i=>2-(intOf i).toNat)
 case atStart=>exact ⟨0,Nat.zero_le _,rfl,rfl⟩
 case round=>
  obtain ⟨k,hk,rfl,rfl⟩:=hrel;obtain rfl | rfl | rfl:k=0∨k=1∨k=2:=by omega
  ·go_wp2_with fail
   refine ⟨⟨1,by omega,by go_num,by simp⟩,?_⟩
   simp [intOf]
  ·go_wp2_with fail
   refine ⟨⟨2,by omega,by go_num,by simp⟩,?_⟩
   simp [intOf]
  ·have e12:((n1+n2:Nat):Int)=(n1:Int)+n2:=by omega
   go_wp2_with fail
   have C1:=hid (growP_any (n1+n2) w (by omega))
   rw [e12] at C1;refine C1.out.mono ?_;rintro r w1 ⟨v,rfl,ho,hb⟩;have HV:Hid (∀j,v.ownBlock=some j→w.heap.size≤j):=fun j hj=>(ho.lt j hj).1
   have HO:=hid (show w1.ownsRow 0 209 2 v 0 [] from ⟨ho.1,by
    rcases ho.2 with h | ⟨g,cap,cur,h1,_,h2⟩
    ·exact .inl h
    ·exact .inr ⟨g,cap,cur,h1,Nat.zero_le _,h2⟩⟩)
   have HB:=hid hb;clear ho hb C1 e12 k1 k2 hk
   go_wp2_with fail
   go_loopw [6,27] (fun x i wr=>∃k:Nat,k≤2∧i=.int .i64 k∧wr.ownsRow 0 209 2 x (if k=0 then 0 else if k=1 then n1 else n1+n2) (if k=0 then [] else if k=1 then c1 else c1++c2)∧Below w.heap.size w wr∧∀j,x.ownBlock=some j→w.heap.size≤j) (fun _ i _=>2-(intOf i).toNat)
   case atStart=>exact ⟨0,Nat.zero_le _,rfl,HO.out,HB.out,HV.out⟩
   case round=>
    obtain ⟨k,hk,rfl,ho,hb,hv⟩:=hrel;clear HO HB HV;have q1:=(hb.cell (p:=⟨B,0,none⟩) hB).trans K1.out;have q2:=(hb.cell (p:=⟨B,1,none⟩) hB).trans K2.out;have S1:=hid (H1.out.below hb (Nat.le_refl _));have S2:=hid (H2.out.below hb (Nat.le_refl _));have HO:=hid ho;have HB:=hid hb;have HV:=hid hv;clear ho hb hv
    have NEXT:Hid (∀wr' v',wr.grownBy wr' u6.ownBlock→Bit.Near wr u6 v'→Below w.heap.size w wr'∧∀j,v'.ownBlock=some j→w.heap.size≤j):=fun wr' v' hg hn=>
     ⟨HB.out.grown hg HB.out.size HV.out,fun j hj=>by
      rcases hn j hj with h | h
      ·exact HV.out j h
      ·exact Nat.le_trans HB.out.size h⟩
    obtain rfl | rfl | rfl:k=0∨k=1∨k=2:=by omega
    ·have HO2:Hid (wr.ownsRow 0 209 2 u6 0 []):=HO.out;clear HO q2
     go_wp2_with (at_builtin;refine wpl_append_sees _ rfl (.tmp 31) (.tmp 32) 205 rfl 209 i0 (Value.agg #[.int .i64 0,.slice none 0 0]) 2 32 Tryz.underlying205 hi hz0 hz1 hz2 rfl (by decide) u6 0 [] rfl HO2.out _ n1 c1 rfl S1.out (by unfold maxLen;omega) (by omega) ?_;intro v3 w3 o3 g3 n3)
     have N3:=hid (NEXT.out _ _ g3 n3);have O3:=hid o3;clear g3 n3 o3;refine ⟨⟨1,by omega,by go_num,?_,N3.out.1,N3.out.2⟩,?_⟩
     ·have:=O3.out
      rw [Nat.zero_add,List.nil_append] at this;exact this
     ·simp [intOf]
    ·have HO2:Hid (wr.ownsRow 0 209 2 u6 n1 c1):=HO.out;clear HO q1
     go_wp2_with (at_builtin;refine wpl_append_sees _ rfl (.tmp 31) (.tmp 32) 205 rfl 209 i0 (Value.agg #[.int .i64 0,.slice none 0 0]) 2 32 Tryz.underlying205 hi hz0 hz1 hz2 rfl (by decide) u6 n1 c1 rfl HO2.out _ n2 c2 rfl S2.out (by unfold maxLen;omega) (by omega) ?_;intro v3 w3 o3 g3 n3)
     have N3:=hid (NEXT.out _ _ g3 n3);have O3:=hid o3;clear g3 n3 o3;refine ⟨⟨2,by omega,by go_num,O3.out,N3.out.1,N3.out.2⟩,?_⟩
     simp [intOf]
    ·have HO2:Hid (wr.ownsRow 0 209 2 u6 (n1+n2) (c1++c2)):=HO.out;clear HO q1 q2
     go_wp2_with fail
     go_ret;exact ⟨_,rfl,HO2.out,HB.out,HV.out⟩
set_option maxRecDepth 10000 in
theorem growI_any (n:Nat) (w:World) (hn:n≤1000000) :
  Calls Tryz.prog 169 #[.slice none 0 0,.int .i64 n] w fun e w'=>∃v,e=.returned v∧w'.ownsRow w.heap.size 3 1 v 0 []∧Below w.heap.size w w':=by
 obtain ⟨i0,hi,hz0,hz1,hz2⟩:=info_parts infoI;have h1:¬((n:Int)<0):=by omega
 by_cases h0:n=0
 ·subst h0
  go_enter Tryz.func169,Tryz.ntmps169
  go_wp2_with fail
  go_ret;exact ⟨_,rfl,World.ownsRow_nil _ _ _ _,Below.refl _ _⟩
 ·have hb:(0+n)*i0.bytes≤140737488355328:=by rw [hz2,Nat.zero_add];omega
  have hr:∀ty,(Builtin.append_ #[92,3] ty #[.slice none 0 0,.int .i64 n]).run Tryz.prog w =
    .ok (.slice (some ⟨w.heap.size,0,none⟩) n (grownCap w n 0 3)) (w.drew.alloc (.cells (Builtin.zeroCells (Value.int .i64 0).cells n++Builtin.zeroCells (Value.int .i64 0).cells (grownCap w n 0 3-n)) 3)):=fun ty=>by
   have h:=Lib.run_append_grow_zeros (P:=Tryz.prog) w 92 3 ty 3 i0 (Value.int .i64 0) .i64 .i64 Tryz.underlying92 Tryz.underlying3 hi hz0 none 0 0 [] (by exact run_firstCells_none w.drew i0.size 0 0 0) n (by omega) (by rw [hz1];decide) (by omega) (by omega)
    (by rw [hz2];omega) (growslice_fits (by omega) hb)
   simpa using h
  have hG:=grownCap_ge w n 0 3;have hM:=grownCap_le_maxLen w n 0 3 (by unfold maxLen;omega)
  generalize grownCap w n 0 3=G at *;have hn0:(0:Int)<(n:Int):=by omega
  have hp:(n:Int)>0:=hn0
  have HF:Hid ((w.drew.alloc (.cells (Builtin.zeroCells (Value.int .i64 0).cells n++Builtin.zeroCells (Value.int .i64 0).cells (G-n)) 3)).ownsRow w.heap.size 3 1 (.slice (some ⟨w.heap.size,0,none⟩) 0 G) 0 []∧Below w.heap.size w (w.drew.alloc (.cells (Builtin.zeroCells (Value.int .i64 0).cells n++Builtin.zeroCells (Value.int .i64 0).cells (G-n)) 3))):=by
   refine ⟨⟨rfl,.inr ⟨w.heap.size,G,_,rfl,Nat.le_refl _,heap_alloc_new _ _,Nat.zero_le _,hM,?_,by simp⟩⟩,(Below.refl _ _).drew.alloc (Nat.le_refl _) _⟩
   rw [Array.size_append,zeros_size,zeros_size];show n*1+(G-n)*1=G*1;omega
  have hG63:G≤9223372036854775807:=hM;clear hb hM
  go_enter Tryz.func169,Tryz.ntmps169
  go_wp2_with (at_builtin;refine Lib.wpList_append_run _ rfl _ _ _ _ rfl _ _ rfl rfl _ _ (hr _) ?_)
  go_ret;exact ⟨_,rfl,HF.out⟩
set_option maxRecDepth 10000 in
theorem concatI_any (v1 v2:Value) (n1 n2:Nat) (c1 c2:List Value) (B:Nat) (w:World) (h1:Sees w 1 v1 n1 c1) (h2:Sees w 1 v2 n2 c2) (k1:w.cell? ⟨B,0,none⟩=some v1) (k2:w.cell? ⟨B,1,none⟩=some v2)
  (hB:B<w.heap.size) (hn1:n1≤500000) (hn2:n2≤500000) :
  Calls Tryz.prog 147 #[.slice (some ⟨B,0,none⟩) 2 2] w fun e w'=>∃v,e=.returned v∧w'.ownsRow 0 3 1 v (n1+n2) (c1++c2)∧Below w.heap.size w w'∧∀j,v.ownBlock=some j→w.heap.size≤j:=by
 obtain ⟨i0,hi,hz0,hz1,hz2⟩:=info_parts infoI;obtain ⟨a1,p1,e1⟩:=h1.form;obtain ⟨a2,p2,e2⟩:=h2.form;subst e1;subst e2;have H1:=hid h1;have H2:=hid h2;have K1:=hid k1;have K2:=hid k2;clear h1 h2
 go_enter Tryz.func147,Tryz.ntmps147
 go_wp2_with fail
 go_loop [3,11] (fun x i=>∃k:Nat,k≤2∧i=.int .i64 k∧x=.int .i64 ((if k=0 then 0 else if k=1 then n1 else n1+n2:Nat):Int)) (fun _ i=>2-(intOf i).toNat)
 case atStart=>exact ⟨0,Nat.zero_le _,rfl,rfl⟩
 case round=>
  obtain ⟨k,hk,rfl,rfl⟩:=hrel;obtain rfl | rfl | rfl:k=0∨k=1∨k=2:=by omega
  ·go_wp2_with fail
   refine ⟨⟨1,by omega,by go_num,by simp⟩,?_⟩
   simp [intOf]
  ·go_wp2_with fail
   refine ⟨⟨2,by omega,by go_num,by simp⟩,?_⟩
   simp [intOf]
  ·have e12:((n1+n2:Nat):Int)=(n1:Int)+n2:=by omega
   go_wp2_with fail
   have C1:=hid (growI_any (n1+n2) w (by omega))
   rw [e12] at C1;refine C1.out.mono ?_;rintro r w1 ⟨v,rfl,ho,hb⟩;have HV:Hid (∀j,v.ownBlock=some j→w.heap.size≤j):=fun j hj=>(ho.lt j hj).1
   have HO:=hid (show w1.ownsRow 0 3 1 v 0 [] from ⟨ho.1,by
    rcases ho.2 with h | ⟨g,cap,cur,h1,_,h2⟩
    ·exact .inl h
    ·exact .inr ⟨g,cap,cur,h1,Nat.zero_le _,h2⟩⟩)
   have HB:=hid hb;clear ho hb C1 e12 k1 k2 hk
   go_wp2_with fail
   go_loopw [6,27] (fun x i wr=>∃k:Nat,k≤2∧i=.int .i64 k∧wr.ownsRow 0 3 1 x (if k=0 then 0 else if k=1 then n1 else n1+n2) (if k=0 then [] else if k=1 then c1 else c1++c2)∧Below w.heap.size w wr∧∀j,x.ownBlock=some j→w.heap.size≤j) (fun _ i _=>2-(intOf i).toNat)
   case atStart=>exact ⟨0,Nat.zero_le _,rfl,HO.out,HB.out,HV.out⟩
   case round=>
    obtain ⟨k,hk,rfl,ho,hb,hv⟩:=hrel;clear HO HB HV;have q1:=(hb.cell (p:=⟨B,0,none⟩) hB).trans K1.out;have q2:=(hb.cell (p:=⟨B,1,none⟩) hB).trans K2.out;have S1:=hid (H1.out.below hb (Nat.le_refl _));have S2:=hid (H2.out.below hb (Nat.le_refl _));have HO:=hid ho;have HB:=hid hb;have HV:=hid hv;clear ho hb hv
    have NEXT:Hid (∀wr' v',wr.grownBy wr' u6.ownBlock→Bit.Near wr u6 v'→Below w.heap.size w wr'∧∀j,v'.ownBlock=some j→w.heap.size≤j):=fun wr' v' hg hn=>
     ⟨HB.out.grown hg HB.out.size HV.out,fun j hj=>by
      rcases hn j hj with h | h
      ·exact HV.out j h
      ·exact Nat.le_trans HB.out.size h⟩
    obtain rfl | rfl | rfl:k=0∨k=1∨k=2:=by omega
    ·have HO2:Hid (wr.ownsRow 0 3 1 u6 0 []):=HO.out;clear HO q2
     go_wp2_with (at_builtin;refine wpl_append_sees _ rfl (.tmp 31) (.tmp 32) 92 rfl 3 i0 (Value.int .i64 0) 1 8 Tryz.underlying92 hi hz0 hz1 hz2 rfl (by decide) u6 0 [] rfl HO2.out _ n1 c1 rfl S1.out (by unfold maxLen;omega) (by omega) ?_;intro v3 w3 o3 g3 n3)
     have N3:=hid (NEXT.out _ _ g3 n3);have O3:=hid o3;clear g3 n3 o3;refine ⟨⟨1,by omega,by go_num,?_,N3.out.1,N3.out.2⟩,?_⟩
     ·have:=O3.out
      rw [Nat.zero_add,List.nil_append] at this;exact this
     ·simp [intOf]
    ·have HO2:Hid (wr.ownsRow 0 3 1 u6 n1 c1):=HO.out;clear HO q1
     go_wp2_with (at_builtin;refine wpl_append_sees _ rfl (.tmp 31) (.tmp 32) 92 rfl 3 i0 (Value.int .i64 0) 1 8 Tryz.underlying92 hi hz0 hz1 hz2 rfl (by decide) u6 n1 c1 rfl HO2.out _ n2 c2 rfl S2.out (by unfold maxLen;omega) (by omega) ?_;intro v3 w3 o3 g3 n3)
     have N3:=hid (NEXT.out _ _ g3 n3);have O3:=hid o3;clear g3 n3 o3;refine ⟨⟨2,by omega,by go_num,O3.out,N3.out.1,N3.out.2⟩,?_⟩
     simp [intOf]
    ·have HO2:Hid (wr.ownsRow 0 3 1 u6 (n1+n2) (c1++c2)):=HO.out;clear HO q1 q2
     go_wp2_with fail
     go_ret;exact ⟨_,rfl,HO2.out,HB.out,HV.out⟩
end Go.Proofs.YthbjllabgpaaaaaGreat.Huf
namespace Go.Proofs.YthbjllabgpaaaaaGreat.Huf
open Go.Lib (hid)
set_option maxHeartbeats 4000000
open Go.ChangeShapes Go.WideShapes Go.ChangeAt Go.RowKit Go.Sort
set_option linter.unusedVariables false
def SymAt (w:World) (p:Pk):Prop:=p.g<w.heap.size∧∀j u,(cellsN p.t.syms)[j]?=some u→w.cell? ⟨p.g,0+j,none⟩=some u
theorem SymAt.sees {w:World} {p:Pk} (h:SymAt w p):Sees w 1 p.s p.t.syms.length (cellsN p.t.syms):=
 ⟨by rw [cellsN_length,Nat.mul_one],cellsN_one _,.inr ⟨p.g,0,p.cap,rfl,h.1,h.2⟩⟩
theorem SymAt.below {w w':World} {p:Pk} {B:Nat} (h:SymAt w p) (k:Below B w w') (hB:w.heap.size≤B):SymAt w' p:=
 ⟨Nat.lt_of_lt_of_le h.1 k.size,fun j u hj=>(k.cell (p:=⟨p.g,0+j,none⟩) (show p.g<B from Nat.lt_of_lt_of_le h.1 hB)).trans (h.2 j u hj)⟩
theorem SymAt.grown {w w':World} {p:Pk} {row:Option Nat} (h:SymAt w p) (k:w.grownBy w' row) (hne:row≠some p.g):SymAt w' p:=
 ⟨Nat.lt_of_lt_of_le h.1 k.size,fun j u hj=>(World.cell?_of_block (a:=⟨p.g,0+j,none⟩) (k.block p.g h.1 (fun e=>hne e.symm))).trans (h.2 j u hj)⟩
theorem SymAt.alloc {w:World} {p:Pk} (h:SymAt w p) (o:Obj):SymAt (w.alloc o) p:=h.below ((Below.refl w.heap.size w).alloc (Nat.le_refl _) o) (Nat.le_refl _)
theorem syms_pos (t:Tr):0<t.syms.length:=by
 induction t with
 | leaf i=>simp [Tr.syms]
 | node a b iha _=>simp [Tr.syms];omega
theorem ownsRow_blockK {w w':World} {base n size:Nat} {e:TypeId} {v:Value} {xs:List Value} (h:w.ownsRow base e size v n xs) (hk:∀j,v.ownBlock=some j→w'.heap[j]?=w.heap[j]?):w'.ownsRow base e size v n xs:=by
 refine ⟨h.1,?_⟩;rcases h.2 with h0 | ⟨g,cap,cur,rfl,h1,h2,h3⟩
 ·exact .inl h0
 ·exact .inr ⟨g,cap,cur,rfl,h1,by rw [hk g rfl];exact h2,h3⟩
structure Packs (f:Nat→Nat) (w:World) (B:Nat) (v:Value) (l:List Pk):Prop where
 row:w.ownsRow 0 209 2 v l.length (l.flatMap (enc f))
 sym:∀p∈l,SymAt w p
 off:∀j,v.ownBlock=some j→B≤j
 apart:∀p∈l,v.ownBlock≠some p.g
theorem Packs.nil (f:Nat→Nat) (w:World) (B:Nat):Packs f w B (.slice none 0 0) []:=
 ⟨World.ownsRow_nil _ _ _ _,fun _ h=>(by simp at h),fun _ h=>(by cases h),fun _ h=>(by simp at h)⟩
theorem Packs.more {f:Nat→Nat} {w w1 w2:World} {B:Nat} {v v':Value} {l:List Pk} {p:Pk} (h:Packs f w B v l) (k:Below w.heap.size w w1) (hB:B≤w.heap.size) (hp:SymAt w1 p) (hg:w.heap.size≤p.g)
  (ho:w2.ownsRow 0 209 2 v' (l.length+1) (l.flatMap (enc f)++enc f p)) (hg2:w1.grownBy w2 v.ownBlock) (hn:Bit.Near w1 v v'):Packs f w2 B v' (l++[p]):=by
 have hlt:=h.row.lt
 have hne:∀q,q∈l++[p]→SymAt w1 q∧v.ownBlock≠some q.g:=by
  intro q hq;rcases List.mem_append.1 hq with hq | hq
  ·exact ⟨(h.sym q hq).below k (Nat.le_refl _),h.apart q hq⟩
  ·rw [List.mem_singleton.1 hq];exact ⟨hp,fun e=>by have:=(hlt _ e).2;omega⟩
 refine ⟨?_,fun q hq=>(hne q hq).1.grown hg2 (hne q hq).2,fun j hj=>?_,fun q hq e=>?_⟩
 ·rw [List.length_append,List.flatMap_append]
  simpa using ho
 ·rcases hn j hj with e | e
  ·exact h.off j e
  ·have:=k.size;omega
 ·rcases hn _ e with e | e
  ·exact (hne q hq).2 e
  ·have:=(hne q hq).1.1;omega
theorem Packs.below {f:Nat→Nat} {w w':World} {B:Nat} {v:Value} {l:List Pk} (h:Packs f w B v l) (k:Below w.heap.size w w'):Packs f w' B v l:=
 ⟨ownsRow_blockK h.row fun j hj=>k.block j (h.row.lt j hj).2,fun p hp=>(h.sym p hp).below k (Nat.le_refl _),h.off,h.apart⟩
def comeS (N:List Nat) (k:Nat):List Nat:=(List.range k).filter fun i=>decide (0<N.getD i 0)
theorem comeS_succ (N:List Nat) (k:Nat):comeS N (k+1)=if 0<N.getD k 0 then comeS N k++[k] else comeS N k:=by
 unfold comeS;rw [List.range_succ,List.filter_append]
 by_cases h:0<N.getD k 0
 ·rw [if_pos h];simp only [List.filter_cons,List.filter_nil];rw [if_pos (by simpa using h)]
 ·rw [if_neg h];simp only [List.filter_cons,List.filter_nil];rw [if_neg (by simpa using h)];simp
theorem comeS_length (N:List Nat) (k:Nat):(comeS N k).length≤k:=Nat.le_trans (List.length_filter_le _ _) (by simp)
set_option maxRecDepth 10000 in
theorem singles_any (a:Option Addr) (n cap:Nat) (N:List Nat) (w:World) (hn:N.length=n) (h:IsInts w a (N.map fun (x:Nat)=>(x:Int))) (hl:n≤1000000) (h15:∀x∈N,x≤1073741824) :
  Calls Tryz.prog 167 #[.slice a n cap] w fun e w'=>∃v l,e=.returned v∧Packs (fun i=>N.getD i 0) w' w.heap.size v l∧l.map (·.t)=(comeS N n).map Tr.leaf∧Below w.heap.size w w':=by
 obtain ⟨i0,hi,hz0,hz1,hz2⟩:=info_parts infoP;have HI:=hid h;have H15:=hid h15;clear h h15
 go_enter Tryz.func167,Tryz.ntmps167
 go_wp2_with fail
 go_loopw [3,8] (fun v i wr=>∃(k:Nat) (l:List Pk),k≤n∧i=.int .i64 k∧Packs (fun i=>N.getD i 0) wr w.heap.size v l∧l.map (·.t)=(comeS N k).map Tr.leaf∧Below w.heap.size w wr) (fun _ i _=>n-(intOf i).toNat)
 case atStart=>exact ⟨0,[],Nat.zero_le _,rfl,Packs.nil _ _ _,rfl,Below.refl _ _⟩
 case round=>
  obtain ⟨k,l,hk,rfl,hp,ht,hb⟩:=hrel;have HP:=hid hp;have HT:=hid ht;have HB:=hid hb;clear hp ht hb
  by_cases hlt:k<n
  ·obtain ⟨b,off,rfl,hbl,hc⟩:=HI.out (by simp;omega)
   have hc1:wr.cell? ⟨b,off+k,none⟩=some (.int .i64 (N.getD k 0:Nat)):=by
    rw [HB.out.cell (p:=⟨b,off+k,none⟩) hbl,hc k (by simp;omega)]
    simp [List.getElem_map,List.getD_eq_getElem?_getD,hn,hlt]
   have hx:N.getD k 0≤1073741824:=by
    refine H15.out _ ?_;rw [List.getD_eq_getElem?_getD,List.getElem?_eq_getElem (by omega)]
    exact List.getElem_mem _
   have HS:=hid (comeS_succ N k);have HX:Hid (N.getD k 0=(Tr.leaf k).wt fun i=>N.getD i 0):=hid rfl
   have HL:Hid (l.length≤k):=hid (by
    have:=congrArg List.length HT.out
    simp only [List.length_map] at this;rw [this];exact comeS_length _ _)
   clear hc;generalize hxe:N.getD k 0=x at *;have HXE:=hid hxe;clear hxe;have hkk:(k:Int)<n:=by omega
   by_cases hx0:0<x
   ·have hx0':(0:Int)<x:=by omega
    have HX0:=hid hx0;clear hx0 hlt;have HR:Hid (((wr.alloc (.cells #[.int .i64 k] 3)).alloc (.cells #[.int .i64 x,.slice (some ⟨wr.heap.size,0,none⟩) 1 1] 209)).ownsRow 0 209 2 u3 l.length (l.flatMap (enc fun i=>N.getD i 0))):=hid ((HP.out.row.alloc _).alloc _)
    have HQ:Hid (∀j u,([.int .i64 x,.slice (some ⟨wr.heap.size,0,none⟩) 1 1]:List Value)[j]?=some u→((wr.alloc (.cells #[.int .i64 k] 3)).alloc (.cells #[.int .i64 x,.slice (some ⟨wr.heap.size,0,none⟩) 1 1] 209)).cell? ((⟨wr.heap.size+1,0,none⟩:Addr).add j)=some u):=hid (by
     intro j u hj;rw [Oct.addr_add];have hb:=heap_alloc_new (wr.alloc (.cells #[.int .i64 k] 3)) (.cells #[.int .i64 x,.slice (some ⟨wr.heap.size,0,none⟩) 1 1] 209);rw [World.size_alloc] at hb
     match j,hj with
     | 0,hj=>exact (cell_of_row _ _ 0 _ _ _ hb).trans hj
     | 1,hj=>exact (cell_of_row _ _ 1 _ _ _ hb).trans hj
     | j+2,hj=>simp at hj)
    clear hx0'
    go_wp2_with (at_builtin;refine Bit.wpList_append_near _ rfl (.tmp 15) (.tmp 20) 205 rfl 209 i0 (.agg #[.int .i64 0,.slice none 0 0]) 2 32 Tryz.underlying205 hi hz0 hz1 hz2 rfl (by decide) u3 l.length (l.flatMap (enc fun i=>N.getD i 0)) rfl HR.out ⟨wr.heap.size+1,0,none⟩ 1 1 [.int .i64 x,.slice (some ⟨wr.heap.size,0,none⟩) 1 1] rfl rfl HQ.out (by intro u hu;simp at hu;rcases hu with rfl | rfl <;> rfl) (by have:=HL.out;unfold maxLen;omega) (by have:=HL.out;omega) ?_;intro v3 w3 o3 g3 n3)
    have hb2:Below wr.heap.size wr ((wr.alloc (.cells #[.int .i64 k] 3)).alloc (.cells #[.int .i64 x,.slice (some ⟨wr.heap.size,0,none⟩) 1 1] 209)):=((Below.refl _ _).alloc (Nat.le_refl _) _).alloc (by simp) _
    have hsy:SymAt ((wr.alloc (.cells #[.int .i64 k] 3)).alloc (.cells #[.int .i64 x,.slice (some ⟨wr.heap.size,0,none⟩) 1 1] 209)) ⟨.leaf k,wr.heap.size,1⟩:=by
     refine SymAt.alloc ⟨by simp,fun j u hj=>?_⟩ _
     match j,hj with
     | 0,hj=>exact (cell_of_row _ _ 0 _ _ _ (heap_alloc_new _ _)).trans hj
     | j+1,hj=>simp [cellsN,Tr.syms] at hj
    have he:([.int .i64 x,.slice (some ⟨wr.heap.size,0,none⟩) 1 1]:List Value)=enc (fun i=>N.getD i 0) ⟨.leaf k,wr.heap.size,1⟩:=by
     show _=[Value.int .i64 ((Tr.leaf k).wt (fun i=>N.getD i 0):Nat),_]
     rw [←HX.out];rfl
    have HM:=hid (HP.out.more hb2 HB.out.size hsy (Nat.le_refl _) (by rw [←he];exact o3) g3 n3)
    have HB3:=hid ((HB.out.trans (hb2.mono HB.out.size)).grown g3 (by have:=hb2.size;have:=HB.out.size;omega) HP.out.off)
    have HT3:Hid ((l++[⟨.leaf k,wr.heap.size,1⟩]:List Pk).map (·.t)=(comeS N (k+1)).map Tr.leaf):=hid (by
     rw [HS.out,if_pos HX0.out,List.map_append,List.map_append,HT.out];rfl)
    clear hb2 hsy he o3 g3 n3 HR HQ HX0 HX hc1
    go_wp2_with fail
    refine ⟨⟨k+1,_,by omega,by go_num,HM.out,HT3.out,HB3.out⟩,?_⟩
    simp [intOf];omega
   ·obtain rfl:x=0:=by omega
    have HT3:Hid (l.map (·.t)=(comeS N (k+1)).map Tr.leaf):=hid (by
     rw [HS.out,if_neg (by decide),HT.out])
    clear HX
    go_wp2_with fail
    refine ⟨⟨k+1,l,by omega,by go_num,HP.out,HT3.out,HB.out⟩,?_⟩
    simp [intOf];omega
  ·obtain rfl:k=n:=by omega
   go_wp2_with fail
   go_ret;exact ⟨_,l,rfl,HP.out,HT.out,HB.out⟩
end Go.Proofs.YthbjllabgpaaaaaGreat.Huf
namespace Go.Proofs.YthbjllabgpaaaaaGreat.Huf
open Go.Lib (hid)
set_option maxHeartbeats 4000000
open Go.ChangeShapes Go.WideShapes Go.ChangeAt Go.RowKit Go.Sort
set_option linter.unusedVariables false
def RowAt (f:Nat→Nat) (w:World) (b:Nat) (d:List Pk):Prop:=
 b<w.heap.size∧∀i p,d[i]?=some p→w.cell? ⟨b,i*2,none⟩=some (.int .i64 (p.t.wt f:Nat))∧w.cell? ⟨b,i*2+1,none⟩=some p.s
theorem pairs_take_succ:∀(T:List Tr) (k:Nat) (a b:Tr),T[2*k]?=some a→T[2*k+1]?=some b→pairs (T.take (2*(k+1)))=pairs (T.take (2*k))++[.node a b]
 | [],k,a,b,h,_=>by simp at h
 | [x],k,a,b,_,h=>by simp at h
 | x::y::r,0,a,b,h1,h2=>by
  simp at h1 h2;subst h1;subst h2
  rfl
 | x::y::r,k+1,a,b,h1,h2=>by
  rw [show 2*(k+1)=2*k+1+1 by omega] at h1 h2
  rw [show 2*k+1+1+1=(2*k+1)+1+1 by omega] at h2
  simp only [List.getElem?_cons_succ] at h1 h2
  have:=pairs_take_succ r k a b h1 h2
  rw [show 2*(k+1+1)=2*(k+1)+1+1 by omega,show 2*(k+1)=2*k+1+1 by omega]
  simp only [List.take_succ_cons,pairs,List.cons_append];rw [show 2*k+1+1=2*(k+1) by omega,this]
theorem pairs_cut:∀(T:List Tr) (k:Nat),T.length/2=k→pairs (T.take (2*k))=pairs T
 | [],k,h=>by simp
 | [x],k,h=>by
  obtain rfl:k=0:=by simp at h;omega
  rfl
 | x::y::r,k,h=>by
  obtain ⟨j,rfl⟩:∃j,k=j+1:=⟨k-1,by simp at h;omega⟩
  have:=pairs_cut r j (by simp at h;omega)
  rw [show 2*(j+1)=2*j+1+1 by omega]
  simp only [List.take_succ_cons,pairs,this]
structure Duo (w W:World) (A B:Nat) (a0 a1 b0 b1:Value):Prop where
 below:Below w.heap.size w W
 la:w.heap.size≤A∧A<W.heap.size
 lb:w.heap.size≤B∧B<W.heap.size
 c:W.cell? ⟨A,0,none⟩=some a0∧W.cell? ⟨A,1,none⟩=some a1∧W.cell? ⟨B,0,none⟩=some b0∧W.cell? ⟨B,1,none⟩=some b1
theorem duo_one (w:World) (T:TypeId) (a0 a1 b0 b1:Value):Duo w ((w.alloc (.cells #[a0,a1] T)).alloc (.cells #[b0,b1] T)).drew w.heap.size (w.heap.size+1) a0 a1 b0 b1:=by
 have h1:(((w.alloc (.cells #[a0,a1] T)).alloc (.cells #[b0,b1] T)).drew).heap[w.heap.size]?=some (.cells #[a0,a1] T (0,0)):=heap_alloc2_old w _ _
 have h2:(((w.alloc (.cells #[a0,a1] T)).alloc (.cells #[b0,b1] T)).drew).heap[w.heap.size+1]?=some (.cells #[b0,b1] T (0,0)):=by
  have:=heap_alloc_new (w.alloc (.cells #[a0,a1] T)) (.cells #[b0,b1] T)
  rw [World.size_alloc] at this;exact this
 exact ⟨(((Below.refl _ _).alloc (Nat.le_refl _) _).alloc (by simp) _).drew,⟨Nat.le_refl _,(Array.getElem?_eq_some_iff.1 h1).1⟩,⟨Nat.le_succ _,(Array.getElem?_eq_some_iff.1 h2).1⟩,
  (cell_of_row _ _ 0 _ _ _ h1).trans rfl,(cell_of_row _ _ 1 _ _ _ h1).trans rfl,(cell_of_row _ _ 0 _ _ _ h2).trans rfl,(cell_of_row _ _ 1 _ _ _ h2).trans rfl⟩
theorem duo_two (w:World) (T:TypeId) (a0 a1 b0 b1:Value):Duo w ((w.alloc (.cells #[b0,b1] T)).alloc (.cells #[a0,a1] T)).drew (w.heap.size+1) w.heap.size a0 a1 b0 b1:=by
 have h:=duo_one w T b0 b1 a0 a1;exact ⟨h.below,h.lb,h.la,h.c.2.2.1,h.c.2.2.2,h.c.1,h.c.2.1⟩
theorem Duo.far {w W W1 W2:World} {A B:Nat} {a0 a1 b0 b1:Value} {row:Option Nat} (h:Duo w W A B a0 a1 b0 b1) (k:Below W.heap.size W W1) (g:W1.grownBy W2 row) (hr:∀j,row=some j→j<w.heap.size) :
  W2.cell? ⟨A,0,none⟩=some a0∧W2.cell? ⟨A,1,none⟩=some a1∧W2.cell? ⟨B,0,none⟩=some b0∧W2.cell? ⟨B,1,none⟩=some b1:=by
 have hA:∀j,W2.cell? ⟨A,j,none⟩=W.cell? ⟨A,j,none⟩:=fun j=>
  (World.cell?_of_block (a:=⟨A,j,none⟩) (g.block A (Nat.lt_of_lt_of_le h.la.2 k.size) (fun e=>by have:=hr A e.symm;have:=h.la.1;omega))).trans (k.cell (p:=⟨A,j,none⟩) h.la.2)
 have hB:∀j,W2.cell? ⟨B,j,none⟩=W.cell? ⟨B,j,none⟩:=fun j=>
  (World.cell?_of_block (a:=⟨B,j,none⟩) (g.block B (Nat.lt_of_lt_of_le h.lb.2 k.size) (fun e=>by have:=hr B e.symm;have:=h.lb.1;omega))).trans (k.cell (p:=⟨B,j,none⟩) h.lb.2)
 exact ⟨(hA 0).trans h.c.1,(hA 1).trans h.c.2.1,(hB 0).trans h.c.2.2.1,(hB 1).trans h.c.2.2.2⟩
theorem lit_pack (w:World) (x y:Value) (T:TypeId):∀j u,([x,y]:List Value)[j]?=some u→(w.alloc (.cells #[x,y] T)).cell? ((⟨w.heap.size,0,none⟩:Addr).add j)=some u:=by
 intro j u hj;rw [Oct.addr_add]
 match j,hj with
 | 0,hj=>exact (cell_of_row _ _ 0 _ _ _ (heap_alloc_new _ _)).trans hj
 | 1,hj=>exact (cell_of_row _ _ 1 _ _ _ (heap_alloc_new _ _)).trans hj
 | j+2,hj=>simp at hj
theorem Duo.keep {w W W':World} {A B:Nat} {a0 a1 b0 b1:Value} (h:Duo w W A B a0 a1 b0 b1) (k:Below W.heap.size W W') :
  W'.cell? ⟨A,0,none⟩=some a0∧W'.cell? ⟨A,1,none⟩=some a1∧W'.cell? ⟨B,0,none⟩=some b0∧W'.cell? ⟨B,1,none⟩=some b1:=
 ⟨(k.cell (p:=⟨A,0,none⟩) h.la.2).trans h.c.1,(k.cell (p:=⟨A,1,none⟩) h.la.2).trans h.c.2.1,(k.cell (p:=⟨B,0,none⟩) h.lb.2).trans h.c.2.2.1,(k.cell (p:=⟨B,1,none⟩) h.lb.2).trans h.c.2.2.2⟩
set_option maxRecDepth 10000 in
theorem pairs_call (f:Nat→Nat) (b n cap:Nat) (d:List Pk) (w:World) (hd:d.length=n) (hn:n≤1000000) (hr:RowAt f w b d) (hs:∀p∈d,SymAt w p)
  (hz:∀p∈d,p.t.syms.length≤500000∧p.t.wt f≤1000000000000000000) :
  Calls Tryz.prog 182 #[.slice (some ⟨b,0,none⟩) n cap] w fun e w'=>∃v l,e=.returned v∧Packs f w' w.heap.size v l∧l.map (·.t)=pairs (d.map (·.t))∧Below w.heap.size w w'∧∀p∈l,w.heap.size≤p.g:=by
 obtain ⟨i0,hi,hz0,hz1,hz2⟩:=info_parts infoP;obtain ⟨m,hm⟩:∃m,n/2=m:=⟨_,rfl⟩;have hq:(n:Int)/2=m:=by omega
 have HRW:=hid hr;have HSY:=hid hs;have HZZ:=hid hz;clear hr hs hz
 go_enter Tryz.func182,Tryz.ntmps182
 go_wp2_with fail
 go_loopw [3,10] (fun v i wr=>∃(k:Nat) (l:List Pk),k≤m∧i=.int .i64 k∧Packs f wr w.heap.size v l∧l.map (·.t)=pairs ((d.map (·.t)).take (2*k))∧Below w.heap.size w wr∧∀p∈l,w.heap.size≤p.g) (fun _ i _=>m-(intOf i).toNat)
 case atStart=>exact ⟨0,[],Nat.zero_le _,rfl,Packs.nil _ _ _,rfl,Below.refl _ _,fun _ h=>by simp at h⟩
 case round=>
  obtain ⟨k,l,hk,rfl,hp,ht,hb,hge⟩:=hrel;have HGE:=hid hge;clear hge;have HP:=hid hp;have HT:=hid ht;have HB:=hid hb;clear hp ht hb
  by_cases hlt:k<m
  ·obtain ⟨K2,hK2⟩:∃K,2*k=K:=⟨_,rfl⟩;have hw1:IntKind.i64.wrap (2*(k:Int))=K2:=by rw [IntWalk.i64_in _ (by omega)];omega
   have hw2:IntKind.i64.wrap ((K2:Int)+1)=(K2:Int)+1:=IntWalk.i64_in _ (by omega)
   have hb1:(K2:Int)<n:=by omega
   have hb2:(K2:Int)+1<n:=by omega
   obtain ⟨p,hp⟩:∃p,d[K2]?=some p:=⟨d[K2]'(by omega),List.getElem?_eq_getElem _⟩
   obtain ⟨q,hq2⟩:∃q,d[K2+1]?=some q:=⟨d[K2+1]'(by omega),List.getElem?_eq_getElem _⟩
   obtain ⟨cp0,cp1⟩:=HRW.out.2 K2 p hp;obtain ⟨cq0,cq1⟩:=HRW.out.2 (K2+1) q hq2;have SP:=hid ((HSY.out p (List.mem_of_getElem? hp)).below HB.out (Nat.le_refl _));have SQ:=hid ((HSY.out q (List.mem_of_getElem? hq2)).below HB.out (Nat.le_refl _));have ZP:=hid (HZZ.out p (List.mem_of_getElem? hp));have ZQ:=hid (HZZ.out q (List.mem_of_getElem? hq2));have hTP:Hid (pairs ((d.map (·.t)).take (2*(k+1)))=pairs ((d.map (·.t)).take (2*k))++[.node p.t q.t]):=hid (pairs_take_succ _ k _ _ (by rw [List.getElem?_map,hK2,hp];rfl) (by rw [List.getElem?_map,hK2,hq2];rfl))
   have hbl:=HRW.out.1;have e0:=(HB.out.cell (p:=⟨b,K2*2,none⟩) hbl).trans cp0;have e1:=(HB.out.cell (p:=⟨b,K2*2+1,none⟩) hbl).trans cp1;have e2:=(HB.out.cell (p:=⟨b,(K2+1)*2,none⟩) hbl).trans cq0;have e3:=(HB.out.cell (p:=⟨b,(K2+1)*2+1,none⟩) hbl).trans cq1;obtain ⟨m1,g1,p1,hv1⟩:∃m g c,p.s=.slice (some ⟨g,0,none⟩) m c:=⟨_,_,_,rfl⟩;obtain ⟨m2,g2,p2,hv2⟩:∃m g c,q.s=.slice (some ⟨g,0,none⟩) m c:=⟨_,_,_,rfl⟩;obtain ⟨c1,hc1⟩:∃c,p.t.wt f=c:=⟨_,rfl⟩;obtain ⟨c2,hc2⟩:∃c,q.t.wt f=c:=⟨_,rfl⟩;rw [hc1] at e0;rw [hc2] at e2;rw [hv1] at e1;rw [hv2] at e3;have hbw:b<wr.heap.size:=Nat.lt_of_lt_of_le hbl HB.out.size;have hb3:(0:Int)≤(K2:Int)+1:=by omega
   have hA1:=fun o=>(Below.refl wr.heap.size wr).alloc (Nat.le_refl _) o
   have hA2:=fun o o'=>(hA1 o).alloc (hA1 o).size o'
   have a0:=((hA1 (.cells #[.int .i64 0,.slice none 0 0] 209)).cell (p:=⟨b,K2*2,none⟩) hbw).trans e0;have a1:=((hA1 (.cells #[.int .i64 0,.slice none 0 0] 209)).cell (p:=⟨b,K2*2+1,none⟩) hbw).trans e1;have a2:=((hA1 (.cells #[.int .i64 0,.slice none 0 0] 209)).cell (p:=⟨b,(K2+1)*2,none⟩) hbw).trans e2;have a3:=((hA1 (.cells #[.int .i64 0,.slice none 0 0] 209)).cell (p:=⟨b,(K2+1)*2+1,none⟩) hbw).trans e3;have b0:=((hA2 (.cells #[.int .i64 0,.slice none 0 0] 209) (.cells #[.int .i64 0,.slice none 0 0] 209)).cell (p:=⟨b,K2*2,none⟩) hbw).trans e0;have b1:=((hA2 (.cells #[.int .i64 0,.slice none 0 0] 209) (.cells #[.int .i64 0,.slice none 0 0] 209)).cell (p:=⟨b,K2*2+1,none⟩) hbw).trans e1;have b2:=((hA2 (.cells #[.int .i64 0,.slice none 0 0] 209) (.cells #[.int .i64 0,.slice none 0 0] 209)).cell (p:=⟨b,(K2+1)*2,none⟩) hbw).trans e2;have b3:=((hA2 (.cells #[.int .i64 0,.slice none 0 0] 209) (.cells #[.int .i64 0,.slice none 0 0] 209)).cell (p:=⟨b,(K2+1)*2+1,none⟩) hbw).trans e3;clear hA1 hA2;have V1:=hid hv1;have V2:=hid hv2;have C1:=hid hc1;have C2:=hid hc2;have HK:=hid hK2;clear cp0 cp1 cq0 cq1 hp hq2 hv1 hv2 hc1 hc2 hK2
   go_wp2_with fail
   go_region
   have D:=hid (duo_one wr 209 (.int .i64 c1) (.slice (some ⟨g1,0,none⟩) m1 p1) (.int .i64 c2) (.slice (some ⟨g2,0,none⟩) m2 p2));generalize ((wr.alloc (.cells #[.int .i64 c1,.slice (some ⟨g1,0,none⟩) m1 p1] 209)).alloc (.cells #[.int .i64 c2,.slice (some ⟨g2,0,none⟩) m2 p2] 209)).drew=W at D ⊢;generalize wr.heap.size+1=Bq at D ⊢;generalize hAe:wr.heap.size=A at D ⊢;clear hAe
   rotate_left
   have D:=hid (duo_two wr 209 (.int .i64 c1) (.slice (some ⟨g1,0,none⟩) m1 p1) (.int .i64 c2) (.slice (some ⟨g2,0,none⟩) m2 p2));generalize ((wr.alloc (.cells #[.int .i64 c2,.slice (some ⟨g2,0,none⟩) m2 p2] 209)).alloc (.cells #[.int .i64 c1,.slice (some ⟨g1,0,none⟩) m1 p1] 209)).drew=W at D ⊢;generalize wr.heap.size+1=A at D ⊢;generalize hAe:wr.heap.size=Bq at D ⊢;clear hAe
   all_goals clear e0 e1 e2 e3 a0 a1 a2 a3 b0 b1 b2 b3 hb1 hb2 hb3 hw1 hw2
   all_goals
    have hw3:IntKind.i64.wrap ((c1:Int)+c2)=(c1:Int)+c2:=IntWalk.i64_in _ (by have:=ZP.out.2;have:=ZQ.out.2;rw [C1.out] at *;rw [C2.out] at *;omega)
    have S1:=hid (SP.out.below D.out.below (Nat.le_refl _));have S2:=hid (SQ.out.below D.out.below (Nat.le_refl _));have P2:=hid (HP.out.below D.out.below);have k0:=D.out.c
    go_wp2_with fail
    have L1:p.t.syms.length=m1:=by have:=V1.out;simp only [Pk.s,Value.slice.injEq] at this;exact this.2.1
    have L2:q.t.syms.length=m2:=by have:=V2.out;simp only [Pk.s,Value.slice.injEq] at this;exact this.2.1
    have hm1:m1≤500000∧0<m1:=by rw [←L1];exact ⟨ZP.out.1,syms_pos _⟩
    have hm2:m2≤500000∧0<m2:=by rw [←L2];exact ⟨ZQ.out.1,syms_pos _⟩
    have bA:Hid (Below W.heap.size W (W.drew.alloc (.cells #[.slice (some ⟨g1,0,none⟩) m1 p1,.slice (some ⟨g2,0,none⟩) m2 p2] 92))):=hid ((Below.refl _ _).drew.alloc (Nat.le_refl _) _)
    have SA:Hid (Sees (W.drew.alloc (.cells #[.slice (some ⟨g1,0,none⟩) m1 p1,.slice (some ⟨g2,0,none⟩) m2 p2] 92)) 1 (.slice (some ⟨g1,0,none⟩) m1 p1) m1 (cellsN p.t.syms)):=hid (by
     have h:=(S1.out.below bA.out (Nat.le_refl _)).sees;rw [V1.out,L1] at h;exact h)
    have SB:Hid (Sees (W.drew.alloc (.cells #[.slice (some ⟨g1,0,none⟩) m1 p1,.slice (some ⟨g2,0,none⟩) m2 p2] 92)) 1 (.slice (some ⟨g2,0,none⟩) m2 p2) m2 (cellsN q.t.syms)):=hid (by
     have h:=(S2.out.below bA.out (Nat.le_refl _)).sees;rw [V2.out,L2] at h;exact h)
    have kA:=D.out.keep bA.out;have nA:=heap_alloc_new W.drew (.cells #[.slice (some ⟨g1,0,none⟩) m1 p1,.slice (some ⟨g2,0,none⟩) m2 p2] 92);have KA:Hid (_∧_):=hid ⟨(cell_of_row _ _ 0 _ _ _ nA).trans rfl,(cell_of_row _ _ 1 _ _ _ nA).trans rfl⟩;clear nA
    have HL:Hid (l.length≤1000000):=hid (by
     have:=congrArg List.length HT.out
     rw [List.length_map,pairs_length,List.length_take,List.length_map] at this
     omega)
    have HU:Hid (∀j,u3.ownBlock=some j→j<wr.heap.size):=hid (fun j hj=>(HP.out.row.lt j hj).2)
    go_region_held3 (fun W'=>W'.cell? ⟨A,0,none⟩=some (.int .i64 c1)∧W'.cell? ⟨A,1,none⟩=some (.slice (some ⟨g1,0,none⟩) m1 p1)∧W'.cell? ⟨Bq,0,none⟩=some (.int .i64 c2)∧W'.cell? ⟨Bq,1,none⟩=some (.slice (some ⟨g2,0,none⟩) m2 p2)) (first | exact k0 | exact kA | exact hk2 | exact kB | exact hk3)
     (first
      | (go_at_call 147;refine (concatI_any (.slice (some ⟨g1,0,none⟩) m1 p1) (.slice (some ⟨g2,0,none⟩) m2 p2) m1 m2 (cellsN p.t.syms) (cellsN q.t.syms) W.heap.size (W.drew.alloc (.cells #[.slice (some ⟨g1,0,none⟩) m1 p1,.slice (some ⟨g2,0,none⟩) m2 p2] 92)) SA.out SB.out KA.out.1 KA.out.2 (by simp) hm1.1 hm2.1).mono ?_;rintro r w2 ⟨v,rfl,ho,hb,hv⟩;obtain ⟨gN,cN,rfl⟩:=own_form ho (by omega);have B2:=hid (bA.out.trans (hb.mono bA.out.size));have HO:=hid ho;have HV:=hid hv;clear ho hb hv;have hk2:=D.out.keep B2.out;have HR:=hid (P2.out.below (B2.out.alloc B2.out.size (.cells #[.int .i64 ((c1:Int)+c2),.slice (some ⟨gN,0,none⟩) (m1+m2) cN] 209))).row;have HQ:=hid (lit_pack w2 (.int .i64 ((c1:Int)+c2)) (.slice (some ⟨gN,0,none⟩) (m1+m2) cN) 209);have HK3:Hid (∀w3,(w2.alloc (.cells #[.int .i64 ((c1:Int)+c2),.slice (some ⟨gN,0,none⟩) (m1+m2) cN] 209)).grownBy w3 u3.ownBlock→_):=hid (fun w3 g=>D.out.far (B2.out.alloc B2.out.size (.cells #[.int .i64 ((c1:Int)+c2),.slice (some ⟨gN,0,none⟩) (m1+m2) cN] 209)) g HU.out);have kB:=D.out.keep (B2.out.alloc B2.out.size (.cells #[.int .i64 ((c1:Int)+c2),.slice (some ⟨gN,0,none⟩) (m1+m2) cN] 209)))
      | (refine step_append_near rfl (.tmp 24) (.tmp 37) 205 rfl 209 i0 (.agg #[.int .i64 0,.slice none 0 0]) 2 32 Tryz.underlying205 hi hz0 hz1 hz2 rfl (by decide) u3 l.length (l.flatMap (enc f)) rfl HR.out ⟨w2.heap.size,0,none⟩ 1 1 [.int .i64 ((c1:Int)+c2),.slice (some ⟨gN,0,none⟩) (m1+m2) cN] rfl rfl HQ.out (by intro u hu;simp at hu;rcases hu with rfl | rfl <;> rfl) (by have:=HL.out;unfold maxLen;omega) (by have:=HL.out;omega) ?_;intro v3 w3 o3 g3 n3;have hk3:=HK3.out w3 g3))
    have bw:=B2.out.alloc B2.out.size (.cells #[.int .i64 ((c1:Int)+c2),.slice (some ⟨gN,0,none⟩) (m1+m2) cN] 209)
    have hsy:SymAt (w2.alloc (.cells #[.int .i64 ((c1:Int)+c2),.slice (some ⟨gN,0,none⟩) (m1+m2) cN] 209)) ⟨.node p.t q.t,gN,cN⟩:=by
     refine SymAt.alloc ⟨(HO.out.lt gN rfl).2,fun j u hj=>?_⟩ _
     have h:=HO.out.cells (g:=gN) rfl j u (by rw [←cellsN_append];exact hj)
     rw [Go.WideShapes.add_plain] at h;exact h
    have he:([.int .i64 ((c1:Int)+c2),.slice (some ⟨gN,0,none⟩) (m1+m2) cN]:List Value)=enc f ⟨.node p.t q.t,gN,cN⟩:=by
     show _=[Value.int .i64 ((p.t.wt f+q.t.wt f:Nat):Int),.slice (some ⟨gN,0,none⟩) (p.t.syms++q.t.syms).length cN];rw [List.length_append,L1,L2,C1.out,C2.out];simp
    have hsz:w.heap.size≤W.heap.size:=Nat.le_trans HB.out.size D.out.below.size;have hgN:W.heap.size≤gN:=Nat.le_trans bA.out.size (HV.out gN rfl);have HM:=hid (P2.out.more bw hsz hsy hgN (by rw [←he];exact o3) g3 n3)
    have HB3:=hid (((HB.out.trans (D.out.below.mono HB.out.size)).trans (bw.mono hsz)).grown g3 (by have:=bw.size;omega) HP.out.off)
    have HT3:Hid ((l++[⟨.node p.t q.t,gN,cN⟩]:List Pk).map (·.t)=pairs ((d.map (·.t)).take (2*(k+1)))):=hid (by
     rw [List.map_append,HT.out,hTP.out];rfl)
    have HGE3:Hid (∀p'∈l++[(⟨.node p.t q.t,gN,cN⟩:Pk)],w.heap.size≤p'.g):=hid (by
     intro p' hp';rcases List.mem_append.1 hp' with h | h
     ·exact HGE.out p' h
     ·rw [List.mem_singleton.1 h];exact Nat.le_trans hsz hgN)
    clear bw hsy he o3 g3 n3 HR HQ HK3 KA SA SB kA bA hk2 kB hk3 k0 hsz L1 L2 hm1 hm2 D
    go_wp2_with fail
    refine ⟨⟨k+1,_,by omega,by go_num,HM.out,HT3.out,HB3.out,HGE3.out⟩,?_⟩
    simp [intOf];omega
  ·obtain rfl:k=m:=by omega
   have HE:Hid (pairs ((d.map (·.t)).take (2*k))=pairs (d.map (·.t))):=hid (by
    have h:=pairs_cut (d.map (·.t)) k (by rw [List.length_map];omega)
    exact h)
   go_wp2_with fail
   go_ret
   first | exact ⟨_,l,rfl,HP.out,HT.out.trans HE.out,HB.out,HGE.out⟩ | exact ⟨_,rfl,l,HP.out,HT.out.trans HE.out,HB.out,HGE.out⟩
end Go.Proofs.YthbjllabgpaaaaaGreat.Huf
namespace Go.Proofs.YthbjllabgpaaaaaGreat.Huf
open Go.Lib (hid)
set_option maxHeartbeats 4000000
open Go.ChangeShapes Go.WideShapes Go.ChangeAt Go.RowKit Go.Sort
open Go.Proofs.YthbjllabgpaaaaaGreat.Srt
set_option linter.unusedVariables false
theorem flat_length (f:Nat→Nat) (d:List Pk):(d.flatMap (enc f)).length=d.length*2:=by
 induction d with
 | nil=>rfl
 | cons p r ih=>simp only [List.flatMap_cons,List.length_append,enc_length,ih,List.length_cons];omega
theorem flat_get (f:Nat→Nat):∀(d:List Pk) (i c:Nat),i<d.length→c<2→(d.flatMap (enc f))[i*2+c]?=some ((enc f d.toArray[i]!)[c]!)
 | [],i,c,h,_=>by simp at h
 | p::r,0,c,_,hc=>by
  have:c=0∨c=1:=by omega
  rcases this with rfl | rfl <;> rfl
 | p::r,i+1,c,h,hc=>by
  have ih:=flat_get f r i c (by simpa using h) hc
  rw [List.flatMap_cons,List.getElem?_append_right (by rw [enc_length];omega),enc_length,show (i+1)*2+c-2=i*2+c by omega,ih]
  have h1:i<r.length:=by simpa using h
  simp [h1]
theorem flat_one (f:Nat→Nat) (d:List Pk):∀v∈d.flatMap (enc f),v.oneCell'=true:=by
 intro v hv;obtain ⟨p,_,hp⟩:=List.mem_flatMap.1 hv;exact enc_one f p v hp
theorem pks_of_row {f:Nat→Nat} {w:World} {g n cap:Nat} {d:List Pk} (h:w.ownsRow 0 209 2 (.slice (some ⟨g,0,none⟩) n cap) n (d.flatMap (enc f))) (hd:d.length=n):PksAt f w g d.toArray:=by
 refine ⟨(h.lt g rfl).2,fun t ht=>?_⟩
 have ht2:t<n*2:=by rw [size_flatK] at ht;simpa [hd] using ht
 rw [Nat.zero_add,h.cellAt t ht2,get_flatK _ _ _ _ (by simpa [hd] using ht2)]
 refine ⟨?_,h.frozenAt t⟩
 have:=flat_get f d (t/2) (t%2) (by omega) (by omega)
 rw [show t/2*2+t%2=t by omega] at this
 exact this
theorem row_of_pks {f:Nat→Nat} {w:World} {b:Nat} {d:Array Pk} (h:PksAt f w b d):RowAt f w b d.toList:=by
 refine ⟨h.1,fun i p hp=>?_⟩
 have hi:i<d.size:=by
  have:=(List.getElem?_eq_some_iff.1 hp).1;simpa using this
 have he:d[i]! =p:=by
  rw [getElem!_pos d i hi]
  have:=(List.getElem?_eq_some_iff.1 hp).2
  simpa using this
 have:=h.cost i hi
 rw [he] at this;exact this
theorem Packs.sees {f:Nat→Nat} {w:World} {B:Nat} {v:Value} {l:List Pk} (h:Packs f w B v l):Sees w 2 v l.length (l.flatMap (enc f)):=by
 refine ⟨flat_length f l,flat_one f l,?_⟩;rcases h.row.2 with ⟨h1,h2⟩ | ⟨g,cap,cur,h1,_,_⟩
 ·exact .inl ⟨h1,h2⟩
 ·refine .inr ⟨g,0,cap,h1,(h.row.lt g (by rw [h1];rfl)).2,fun j u hj=>?_⟩
  have:=h.row.cells (g:=g) (by rw [h1];rfl) j u hj
  rw [Go.WideShapes.add_plain] at this;exact this
theorem sees_nil (w:World) (size:Nat):Sees w size (.slice none 0 0) 0 []:=⟨by simp,fun _ h=>(by simp at h),.inl ⟨rfl,rfl⟩⟩
theorem stb_of {f:Nat→Nat} {l:List Pk} {n:Nat} {d':Array (Pk×Nat)} (hn:l.length=n) (hn2:n≤1000000) (hp:PermIn 0 n l.toArray.zipIdx d') (hu:Up (keyT f) 0 n d'):StbP f l (d'.map (·.1)).toList:=by
 have e1:d'.size=n:=by rw [hp.1];simpa using hn
 have e2:l.toArray.zipIdx.size=n:=by simpa using hn
 have R1:d'.toList.Perm l.zipIdx:=by
  have h:=hp.2.2;have e3:d'.extract 0 n=d':=by rw [←e1];exact Array.extract_size ..
  have e4:l.toArray.zipIdx.extract 0 n=l.toArray.zipIdx:=by
   conv=>lhs;rw [←e2]
   exact Array.extract_size ..
  rw [e3,e4] at h;have h2:l.toArray.zipIdx.toList=l.zipIdx:=by simp
  rw [←h2];exact h
 refine ⟨d'.toList,R1,?_,by simp⟩
 have hin:∀x∈d'.toList,x.2<n:=fun x hx=>by
  have h1:=R1.mem_iff.1 hx;have h2:=(List.mem_zipIdx' h1).1;omega
 have hnd:d'.toList.Pairwise (fun x y=>x.2≠y.2):=by
  have h1:(d'.toList.map (·.2)).Perm (l.zipIdx.map (·.2)):=R1.map _;rw [List.zipIdx_map_snd] at h1;have h2:(d'.toList.map (·.2)).Nodup:=h1.nodup_iff.2 (List.nodup_range' (step:=1));exact List.pairwise_map.1 h2
 rw [List.pairwise_iff_getElem] at hnd ⊢;intro i j hi hj hij;have hi':i<d'.size:=by simpa using hi
 have hj':j<d'.size:=by simpa using hj
 have h1:=hu i j (Nat.zero_le _) hij (by omega)
 rw [getElem!_pos d' i hi',getElem!_pos d' j hj'] at h1;have h2:=hnd i j hi hj hij;have h3:=hin _ (List.getElem_mem hi);have h4:=hin _ (List.getElem_mem hj);rw [Array.getElem_toList] at h2 h3 h4 ⊢;unfold keyT at h1;unfold ahead;rw [Array.getElem_toList];rw [Array.getElem_toList] at h2;rw [Nat.mod_eq_of_lt (by omega),Nat.mod_eq_of_lt (by omega)] at h1
 dsimp only;omega
theorem ranked_any (f:Nat→Nat) (v1 v2:Value) (d1 d2:List Pk) (n:Nat) (w:World) (hn:d1.length+d2.length=n) (h2:2≤n) (s1:Sees w 2 v1 d1.length (d1.flatMap (enc f))) (s2:Sees w 2 v2 d2.length (d2.flatMap (enc f)))
  (hl1:d1.length≤500000) (hl2:d2.length≤500000) :
  Calls Tryz.prog 181 #[v1,v2] w fun e w'=>∃b cap d',e=.returned (.slice (some ⟨b,0,none⟩) n cap)∧n≤cap∧cap≤maxLen∧StbP f (d1++d2) d'∧RowAt f w' b d'∧Below w.heap.size w w'∧w.heap.size≤b:=by
 have bA:=(Below.refl w.heap.size w).alloc (Nat.le_refl _) (.cells #[v1,v2] 205);have nA:=heap_alloc_new w (.cells #[v1,v2] 205);have C1:=hid (concatP_any v1 v2 d1.length d2.length _ _ w.heap.size (w.alloc (.cells #[v1,v2] 205)) (s1.below bA (Nat.le_refl _)) (s2.below bA (Nat.le_refl _)) ((cell_of_row _ _ 0 _ _ _ nA).trans rfl) ((cell_of_row _ _ 1 _ _ _ nA).trans rfl) (by simp) hl1 hl2)
 rw [hn] at C1;have BA:=hid bA;have E1:∃a m c,v1=.slice a m c:=by obtain ⟨a,c,h⟩:=s1.form;exact ⟨a,_,c,h⟩
 have E2:∃a m c,v2=.slice a m c:=by obtain ⟨a,c,h⟩:=s2.form;exact ⟨a,_,c,h⟩
 obtain ⟨a1,m1,c1,rfl⟩:=E1;obtain ⟨a2,m2,c2,rfl⟩:=E2;clear s1 s2 bA nA
 go_enter Tryz.func181,Tryz.ntmps181
 go_wp2_with fail
 refine C1.out.mono ?_;rintro r w1 ⟨v,rfl,ho,hb,hv⟩;obtain ⟨b,cap,rfl⟩:=own_form ho (by omega)
 have HO:=hid ho;have HB:=hid (BA.out.trans (hb.mono BA.out.size));have HV:Hid (w.heap.size<b):=hid (by have:=hv b rfl;have:=BA.out.size;simp at *;omega)
 clear ho hb hv C1
 go_wp2_with fail
 have HCAP:Hid (n≤cap∧cap≤maxLen):=hid (by
  rcases HO.out.2 with ⟨h,_⟩ | ⟨g,c,cur,h1,_,_,h4,h5,_⟩
  ·cases h
  ·cases h1;exact ⟨h4,h5⟩)
 have bl:b<w1.heap.size:=(HO.out.lt b rfl).2;have bB:=(Below.refl w1.heap.size w1).alloc (Nat.le_refl _) (.cells #[.slice (some ⟨b,0,none⟩) n cap] 205)
 have ho2:(w1.alloc (.cells #[.slice (some ⟨b,0,none⟩) n cap] 205)).ownsRow 0 209 2 (.slice (some ⟨b,0,none⟩) n cap) n ((d1++d2).flatMap (enc f)):=by
  rw [List.flatMap_append];exact HO.out.alloc _
 have hP:=pks_of_row ho2 (by rw [List.length_append];exact hn)
 have hs:(w1.alloc (.cells #[.slice (some ⟨b,0,none⟩) n cap] 205)).cell? ⟨w1.heap.size,0,none⟩=some (.slice (some ⟨b,0,none⟩) n cap):=(cell_of_row _ _ 0 _ _ _ (heap_alloc_new _ _)).trans rfl;refine (sliceStable_any f b w1.heap.size n cap (d1++d2).toArray _ hP (by simpa using hn) h2 (by omega) hs (by omega) (by simp)).mono ?_
 rintro r w2 ⟨rfl,d',hperm,hup,hp2,hg⟩;have hc:w2.cell? ⟨w1.heap.size,0,none⟩=some (.slice (some ⟨b,0,none⟩) n cap):=(World.cell?_of_block (a:=⟨w1.heap.size,0,none⟩) (hg.block w1.heap.size (by simp) (by simp;omega))).trans hs
 have RS:=hid (stb_of (by rw [List.length_append];exact hn) (by omega) hperm hup)
 have R3:=hid (row_of_pks hp2);have R4:=hid ((HB.out.trans (bB.mono HB.out.size)).grown hg (by have:=HB.out.size;simp;omega) (fun j hj=>by cases hj;have:=HV.out;omega))
 clear hperm hup hp2 hg bB ho2 hP hs HO
 go_wp2_with fail
 go_ret;exact ⟨b,cap,(d'.map (·.1)).toList,rfl,HCAP.out.1,HCAP.out.2,RS.out,R3.out,R4.out,Nat.le_of_lt HV.out⟩
end Go.Proofs.YthbjllabgpaaaaaGreat.Huf
namespace Go.Proofs.YthbjllabgpaaaaaGreat.Huf
open Go.Lib (hid)
set_option maxHeartbeats 4000000
open Go.ChangeShapes Go.WideShapes Go.ChangeAt Go.RowKit Go.Sort
set_option linter.unusedVariables false
theorem lv_bound (f:Nat→Nat) (S:List Nat) (M:Nat) (hf:∀i∈S,f i≤M):∀(d:Nat) (P:List Tr),Lv f S (d+1) P→∀t∈P,t.syms.length≤2^d∧t.wt f≤2^d*M:=by
 intro d
 induction d with
 | zero=>
  rintro P ⟨P',h',hp,_⟩ t ht
  cases h'
  have:=hp.mem_iff.1 ht
  simp [pairs] at this;obtain ⟨i,hi,rfl⟩:=this;exact ⟨Nat.le_refl _,by show f i≤_;have:=hf i hi;omega⟩
 | succ d ih=>
  rintro P ⟨P',h',hp,_⟩ t ht;have h2:=hp.mem_iff.1 ht;rcases List.mem_append.1 h2 with h2 | h2
  ·obtain ⟨i,hi,rfl⟩:=List.mem_map.1 h2;refine ⟨Nat.succ_le_of_lt (Nat.pow_pos (by decide)),?_⟩
   show f i≤_;have h3:=hf i hi
   have:1*M≤2^(d+1)*M:=Nat.mul_le_mul_right M (Nat.succ_le_of_lt (Nat.pow_pos (by decide)))
   omega
  ·obtain ⟨a,b,rfl,ha,hb⟩:=pairs_mem P' t h2;have x:=ih P' h' a ha;have y:=ih P' h' b hb;rw [Nat.pow_succ];refine ⟨by simp only [Tr.syms,List.length_append];omega,?_⟩
   show a.wt f+b.wt f≤2^d*2*M;rw [Nat.mul_assoc,Nat.mul_left_comm];omega
theorem lv_length (f:Nat→Nat) (S:List Nat):∀(d:Nat) (P:List Tr),Lv f S d P→P.length≤2*S.length:=by
 intro d
 induction d with
 | zero=>rintro P h;cases h;simp
 | succ d ih=>
  rintro P ⟨P',h',hp,_⟩
  have:=ih P' h'
  rw [hp.length_eq,List.length_append,List.length_map,pairs_length];omega
structure Level (f:Nat→Nat) (S:List Nat) (k:Nat) (w:World) (b m cap:Nat) (l:List Pk):Prop where
 lv:LvS f S k (l.map (·.t))
 len:l.length=m
 cap:m≤cap∧cap≤maxLen
 row:RowAt f w b l
 sym:∀p∈l,SymAt w p
theorem lv_next {f:Nat→Nat} {S:List Nat} {k:Nat} {d l l2 d':List Pk} (hd:d.map (·.t)=S.map .leaf) (h:LvS f S k (l.map (·.t))) (h2:l2.map (·.t)=pairs (l.map (·.t))) (hst:StbP f (d++l2) d') :
  LvS f S (k+1) (d'.map (·.t)):=by
 refine ⟨_,h,?_⟩;rw [←h2,←hd,←List.map_append];exact hst.trees
theorem cheapest_few (v:Value) (a:Option Addr) (n cap:Nat) (L:Nat) (w:World) (hv:v=.slice a n cap) (h:n<2) :
  Calls Tryz.prog 168 #[v,.int .i64 L] w fun e w'=>e=.returned v∧w'=w:=by
 subst hv;have hn:(n:Int)<2:=by omega
 go_enter Tryz.func168,Tryz.ntmps168
 go_wp2_with fail
 go_ret;exact ⟨rfl,rfl⟩
theorem cheapest_any (f:Nat→Nat) (S:List Nat) (v:Value) (d:List Pk) (n L B M:Nat) (w:World) (hM:2*n-2=M) (hd:d.length=n) (hS:d.map (·.t)=S.map .leaf) (h2:2≤n) (hn:n≤320) (hL:1≤L) (hL2:L≤15) (hf:∀i∈S,f i≤1073741824)
  (hP:Packs f w B v d) (hlen:∀P,Lv f S L P→2*n-2≤P.length) (z:Nat) (hz:z<w.heap.size) (hzd:∀p∈d,p.g≠z) :
  Calls Tryz.prog 168 #[v,.int .i64 L] w fun e w'=>∃b m cap l,e=.returned (.slice (some ⟨b,0,none⟩) M cap)∧Level f S L w' b m cap l∧Below w.heap.size w w'∧b≠z∧∀p∈l,p.g≠z:=by
 have hSn:S.length=n:=by have:=congrArg List.length hS;simp only [List.length_map] at this;omega
 have C0:=hid (ranked_any f v (.slice none 0 0) d [] n w (by simpa using hd) h2 hP.sees (sees_nil _ _) (by omega) (by simp))
 have HP:=hid hP;have HS:=hid hS;have HF:=hid hf;have HLEN:=hid hlen;have HZD:=hid hzd;obtain ⟨a0,c0,hv0⟩:=hP.sees.form;rw [hd] at hv0;subst hv0;clear hP hS hf hlen hzd;have hn2:¬((n:Int)<2):=by omega
 obtain ⟨m1,hm1⟩:∃m,L-1=m:=⟨_,rfl⟩;have hm2:(L:Int)-1=m1:=by omega
 go_enter Tryz.func168,Tryz.ntmps168
 go_wp2_with fail
 refine C0.out.mono ?_;rintro r w1 ⟨b1,cap1,d1,rfl,q1,q2,q4,q5,q6,q7⟩;have q3:=q4.perm;have Z1:Hid (b1≠z∧∀p∈d1,p.g≠z):=hid ⟨by omega,fun p hp=>HZD.out p (by simpa using q3.mem_iff.1 hp)⟩
 have H1:Hid (Level f S 1 w1 b1 n cap1 d1):=hid ⟨lv_next (l:=[]) (l2:=[]) HS.out rfl rfl q4,by rw [q3.length_eq];simpa using hd,⟨q1,q2⟩,q5,fun p hp=>(HP.out.sym p (by simpa using q3.mem_iff.1 hp)).below q6 (Nat.le_refl _)⟩
 have B1:=hid q6;clear q1 q2 q3 q4 q5 q6 q7 C0
 go_wp2_with fail
 go_loopw [5,14] (fun x i wr=>∃(k b m cap:Nat) (l:List Pk),k≤m1∧i=.int .i64 k∧x=.slice (some ⟨b,0,none⟩) m cap∧Level f S (k+1) wr b m cap l∧Below w.heap.size w wr∧b≠z∧∀p∈l,p.g≠z) (fun _ i _=>m1-(intOf i).toNat)
 case atStart=>exact ⟨0,b1,n,cap1,d1,Nat.zero_le _,rfl,rfl,H1.out,B1.out,Z1.out.1,Z1.out.2⟩
 case round=>
  obtain ⟨k,b,m,cap,l,hk,rfl,rfl,hl,hb,hz1,hz2⟩:=hrel;clear H1 B1 Z1;have HZ:=hid (And.intro hz1 hz2);clear hz1 hz2;have HL:=hid hl;have HB:=hid hb;clear hl hb;have hml:m≤2*n:=by have:=lv_length f S _ _ HL.out.lv.lv;rw [List.length_map,HL.out.len,hSn] at this;exact this
  by_cases hlt:k<m1
  ·have hlt':(k:Int)<m1:=by omega
   have hbd:=lv_bound f S 1073741824 HF.out k _ HL.out.lv.lv;have hpw:2^k≤16384:=Nat.le_trans (Nat.pow_le_pow_right (by decide) (show k≤14 by omega)) (by decide)
   have C2:=hid (pairs_call f b m cap l wr HL.out.len (by omega) HL.out.row HL.out.sym (fun p hp=>by
    have h:=hbd p.t (List.mem_map_of_mem hp)
    have:2^k*1073741824≤16384*1073741824:=Nat.mul_le_mul_right _ hpw
    exact ⟨by omega,by omega⟩))
   clear hbd hpw
   go_wp2_with fail
   refine C2.out.mono ?_;rintro r w2 ⟨v2,l2,rfl,p2,t2,b2,ge2⟩;have GE2:Hid (∀p∈l2,p.g≠z):=hid fun p hp=>by have:=ge2 p hp;have:=HB.out.size;omega
   clear ge2;have hl2:l2.length≤n:=by have:=congrArg List.length t2;rw [List.length_map,pairs_length,List.length_map,HL.out.len] at this;omega
   have bb:=HB.out.trans (b2.mono HB.out.size);have C3:=hid (ranked_any f (.slice a0 n c0) v2 d l2 (n+l2.length) w2 (by rw [hd]) (by omega) (HP.out.sees.below bb (Nat.le_refl _)) p2.sees (by omega) (by omega))
   have P2:=hid p2;have T2:=hid t2;have B2:=hid bb;have LS2:Hid (∀p∈l,SymAt w2 p):=hid fun p hp=>(HL.out.sym p hp).below b2 (Nat.le_refl _)
   clear p2 t2 b2 bb C2;obtain ⟨a3,c3,hv3⟩:=P2.out.sees.form;subst hv3;generalize hm2e:l2.length=m2 at *;have HM2:=hid hm2e;clear hm2e
   go_wp2_with fail
   refine C3.out.mono ?_;rintro r w3 ⟨b3,cap3,d3,rfl,q1,q2,q4,q5,q6,q7⟩;have q3:=q4.perm
   have Z3:Hid (b3≠z∧∀p∈d3,p.g≠z):=hid ⟨by have:=B2.out.size;omega,fun p hp=>by
    rcases List.mem_append.1 (q3.mem_iff.1 hp) with h | h
    ·exact HZD.out p h
    ·exact GE2.out p h⟩
   have H3:Hid (Level f S (k+1+1) w3 b3 (n+m2) cap3 d3):=hid ⟨lv_next HS.out HL.out.lv T2.out q4,by rw [q3.length_eq,List.length_append,hd,HM2.out],⟨q1,q2⟩,q5,fun p hp=>by
    rcases List.mem_append.1 (q3.mem_iff.1 hp) with h | h
    ·exact (HP.out.sym p h).below (B2.out.trans (q6.mono B2.out.size)) (Nat.le_refl _)
    ·exact (P2.out.sym p h).below q6 (Nat.le_refl _)⟩
   have B3:=hid (B2.out.trans (q6.mono B2.out.size));clear q1 q2 q3 q4 q5 q6 q7 C3 P2 T2 LS2 B2 HL HB
   go_wp2_with fail
   refine ⟨⟨k+1,b3,n+m2,cap3,d3,by omega,by go_num,rfl,H3.out,B3.out,Z3.out.1,Z3.out.2⟩,?_⟩
   simp [intOf];omega
  ·obtain rfl:k=m1:=by omega
   have hMm:M≤m:=by
    have:=HLEN.out _ (by have:=HL.out.lv.lv;rw [show k+1=L by omega] at this;exact this)
    rw [List.length_map,HL.out.len,hM] at this;exact this
   have hMc:(M:Int)≤cap:=by have:=HL.out.cap.1;omega
   have hM2:2*(n:Int)-2=M:=by omega
   have HLL:Hid (Level f S L wr b m cap l):=hid (by have:=HL.out;rw [show k+1=L by omega] at this;exact this)
   have hc63:=HL.out.cap.2;unfold maxLen at hc63;clear HL
   go_wp2_with fail
   go_ret;exact ⟨b,m,cap,l,rfl,HLL.out,HB.out,HZ.out.1,HZ.out.2⟩
end Go.Proofs.YthbjllabgpaaaaaGreat.Huf
namespace Go.Proofs.YthbjllabgpaaaaaGreat.Huf
open Go.Lib (hid)
set_option maxHeartbeats 4000000
open Go.ChangeShapes Go.WideShapes Go.ChangeAt Go.RowKit Go.Sort
set_option linter.unusedVariables false
theorem lv_syms (f:Nat→Nat) (S:List Nat):∀(d:Nat) (P:List Tr),Lv f S d P→∀t∈P,∀s∈t.syms,s∈S:=by
 intro d
 induction d with
 | zero=>rintro P h t ht;cases h;simp at ht
 | succ d ih=>
  rintro P ⟨P',h',hp,_⟩ t ht s hs;rcases List.mem_append.1 (hp.mem_iff.1 ht) with h2 | h2
  ·obtain ⟨i,hi,rfl⟩:=List.mem_map.1 h2;simp [Tr.syms] at hs;subst hs;exact hi
  ·obtain ⟨a,b,rfl,ha,hb⟩:=pairs_mem P' t h2;simp only [Tr.syms,List.mem_append] at hs;rcases hs with hs | hs
   ·exact ih P' h' a ha s hs
   ·exact ih P' h' b hb s hs
theorem comeS_mem (N:List Nat) (n i:Nat):i∈comeS N n↔i<n∧0<N.getD i 0:=by
 unfold comeS;simp [List.mem_filter]
theorem comeS_nodup (N:List Nat) (n:Nat):(comeS N n).Nodup:=by
 unfold comeS;exact List.nodup_range.filter _
def cnts (n:Nat) (X:List Nat):List Nat:=(List.range n).map fun i=>X.count i
theorem cnts_get (n:Nat) (X:List Nat) (s:Nat) (h:s<n):(cellsN (cnts n X))[s]?=some (.int .i64 (X.count s:Nat)):=by
 simp [cellsN,cnts,h]
theorem cnts_set (n:Nat) (X:List Nat) (s:Nat) (h:s<n):(cellsN (cnts n X)).set s (.int .i64 (X.count s+1:Nat))=cellsN (cnts n (X++[s])):=by
 apply List.ext_getElem?
 intro j
 by_cases hj:j<n
 ·by_cases e:s=j
  ·subst e;rw [List.getElem?_set_self (by simp [cellsN,cnts,h]),cnts_get n _ _ hj,List.count_append]
   simp
  ·rw [List.getElem?_set_ne e,cnts_get n _ _ hj,cnts_get n _ _ hj,List.count_append];simp [e]
 ·rw [List.getElem?_eq_none (by simp [cellsN,cnts];omega),List.getElem?_eq_none (by simp [cellsN,cnts];omega)]
theorem cnts_zero (n:Nat):cellsN (cnts n [])=List.replicate n (.int .i64 0):=by
 apply List.ext_getElem?
 intro j
 by_cases hj:j<n
 ·rw [cnts_get n _ _ hj];simp [hj]
 ·rw [List.getElem?_eq_none (by simp [cellsN,cnts];omega),List.getElem?_eq_none (by simp;omega)]
def Taken (N:List Nat) (n L:Nat) (P:List Tr):Prop:=
 ((comeS N n).length<2∧P=(comeS N n).map .leaf)∨(2≤(comeS N n).length∧∃Q,LvS (fun i=>N.getD i 0) (comeS N n) L Q∧P=Q.take (2*(comeS N n).length-2))
theorem Taken.det {N:List Nat} {n L:Nat} {P Q:List Tr} (h:Taken N n L P) (k:Taken N n L Q):P=Q:=by
 rcases h with ⟨h1,rfl⟩ | ⟨h1,U,hU,rfl⟩
 ·rcases k with ⟨_,rfl⟩ | ⟨k1,_⟩
  ·rfl
  ·omega
 ·rcases k with ⟨k1,_⟩ | ⟨_,V,hV,rfl⟩
  ·omega
  ·rw [hU.det hV]
structure Shown (f:Nat→Nat) (n z:Nat) (w:World) (ad:Option Addr) (M:Nat) (l:List Pk):Prop where
 le:M≤l.length
 len:l.length≤1000
 row:0<M→∃b,ad=some ⟨b,0,none⟩∧b≠z∧RowAt f w b l
 sym:∀p∈l,SymAt w p∧p.g≠z∧(∀s∈p.t.syms,s<n)∧p.t.syms.length≤16384∧p.t.wt f≤1000000000000000000
theorem lv_enough (f:Nat→Nat) (S:List Nat) (L:Nat) (hL:1≤L) (hn:S.length≤2^L) (P:List Tr) (hP:Lv f S L P):2*S.length-2≤P.length:=
 (best f S L P hP hL (fun _=>L) (fun _ _=>Nat.le_refl _) (by
  rw [tot_congr _ (fun _=>1) S (fun i _=>by rw [Nat.sub_self]),tot_const];omega)).1
theorem cheapest_all (N:List Nat) (n L B:Nat) (v:Value) (d:List Pk) (w:World) (hn:n≤320) (hf:∀i,N.getD i 0≤1073741824) (hL:1≤L) (hL2:L≤15) (hk:(comeS N n).length≤2^L)
  (hS:d.map (·.t)=(comeS N n).map .leaf) (hP:Packs (fun i=>N.getD i 0) w B v d) (z:Nat) (hz:z<w.heap.size) (hzd:∀p∈d,p.g≠z) (hzv:v.ownBlock≠some z) :
  Calls Tryz.prog 168 #[v,.int .i64 L] w fun e w'=>∃ad M cap l,e=.returned (.slice ad M cap)∧Shown (fun i=>N.getD i 0) n z w' ad M l∧Taken N n L ((l.map (·.t)).take M)∧Below w.heap.size w w':=by
 have hcl:=comeS_length N n;have hdl:d.length=(comeS N n).length:=by have:=congrArg List.length hS;simpa using this
 by_cases h2:(comeS N n).length<2
 ·obtain ⟨a,cap,hv⟩:=hP.sees.form;refine (cheapest_few v a d.length cap L w hv (by omega)).mono ?_
  rintro e w' ⟨rfl,rfl⟩;refine ⟨a,d.length,cap,d,by rw [hv],⟨Nat.le_refl _,by omega,fun h=>?_,fun p hp=>?_⟩,.inl ⟨h2,?_⟩,Below.refl _ _⟩
  ·obtain ⟨g,c2,hv2⟩:=own_form hP.row h;rw [hv] at hv2
   cases hv2
   refine ⟨g,rfl,fun e=>hzv (by rw [hv,e];rfl),?_⟩
   have hr:=hP.row;rw [hv] at hr
   have:=row_of_pks (pks_of_row hr rfl)
   simpa using this
  ·have hm:p.t∈(comeS N n).map Tr.leaf:=by rw [←hS];exact List.mem_map_of_mem hp
   obtain ⟨i,hi,he⟩:=List.mem_map.1 hm;refine ⟨hP.sym p hp,hzd p hp,?_,?_,?_⟩
   ·rw [←he];intro s hs;simp [Tr.syms] at hs;subst hs;exact ((comeS_mem N n _).1 hi).1
   ·rw [←he];simp [Tr.syms]
   ·rw [←he];show N.getD i 0≤_;have:=hf i;omega
  ·rw [List.take_of_length_le (by simp),hS]
 ·refine (cheapest_any (fun i=>N.getD i 0) (comeS N n) v d (comeS N n).length L B _ w rfl hdl hS (by omega) (by omega) hL hL2 (fun i _=>hf i) hP (fun P hp=>lv_enough _ _ L hL hk P hp) z hz hzd).mono ?_
  rintro e w' ⟨b,m,cap,l,rfl,hl,hb,hz1,hz2⟩;have hen:=lv_enough _ _ L hL hk _ hl.lv.lv;have hle:=lv_length _ _ L _ hl.lv.lv;rw [List.length_map] at hen hle;obtain ⟨L',rfl⟩:∃L',L=L'+1:=⟨L-1,by omega⟩
  have hbd:=lv_bound (fun i=>N.getD i 0) (comeS N n) 1073741824 (fun i _=>hf i) L' _ hl.lv.lv
  have hpw:2^L'≤16384:=Nat.le_trans (Nat.pow_le_pow_right (by decide) (show L'≤14 by omega)) (by decide)
  refine ⟨some ⟨b,0,none⟩,_,cap,l,rfl,⟨hen,by omega,fun _=>⟨b,rfl,hz1,hl.row⟩,fun p hp=>⟨hl.sym p hp,hz2 p hp,fun s hs=>?_,?_,?_⟩⟩,.inr ⟨by omega,_,hl.lv,rfl⟩,hb⟩
  ·exact ((comeS_mem N n s).1 (lv_syms _ _ _ _ hl.lv.lv p.t (List.mem_map_of_mem hp) s hs)).1
  ·have:=(hbd p.t (List.mem_map_of_mem hp)).1;omega
  ·have h:=(hbd p.t (List.mem_map_of_mem hp)).2
   have:2^L'*1073741824≤16384*1073741824:=Nat.mul_le_mul_right _ hpw
   omega
def upTo (l:List Pk) (j:Nat):List Nat:=((l.map (·.t)).take j).flatMap Tr.syms
theorem upTo_succ (l:List Pk) (j:Nat) (p:Pk) (h:l[j]?=some p):upTo l (j+1)=upTo l j++p.t.syms:=by
 unfold upTo;have hj:=(List.getElem?_eq_some_iff.1 h).1;have he:=(List.getElem?_eq_some_iff.1 h).2;rw [List.take_succ_eq_append_getElem (by simpa using hj),List.flatMap_append]
 simp [he]
theorem upTo_length (l:List Pk) (h:∀p∈l,p.t.syms.length≤16384):∀j,j≤l.length→(upTo l j).length≤j*16384
 | 0,_=>by simp [upTo]
 | j+1,hj=>by
  have ih:=upTo_length l h j (by omega)
  rw [upTo_succ l j l[j] (List.getElem?_eq_getElem (by omega)),List.length_append]
  have:=h l[j] (List.getElem_mem _)
  omega
set_option maxRecDepth 10000 in
theorem lengths_any (a:Option Addr) (n cap:Nat) (N:List Nat) (L:Nat) (w:World) (hn:N.length=n) (h:IsInts w a (N.map fun (x:Nat)=>(x:Int))) (hl:n≤320) (hx:∀x∈N,x≤1073741824) (hL:1≤L) (hL2:L≤15)
  (hs:(comeS N n).length≤2^L) :
  Calls Tryz.prog 145 #[.slice a n cap,.int .i64 L] w fun e w'=>∃b P,e=.returned (.tuple #[.slice (some ⟨b,0,none⟩) n n,.int .i64 0])∧Taken N n L P ∧
   w'.ownsRow w.heap.size 3 1 (.slice (some ⟨b,0,none⟩) n n) n (cellsN ((List.range n).map fun i=>often i P))∧Below w.heap.size w w':=by
 obtain ⟨i0,hi,hz0,hz1,hz2⟩:=info_parts info_int
 have hall:allIn 1073741824 (N.map fun (x:Nat)=>(x:Int))=true:=by
  unfold allIn;rw [List.all_eq_true];intro x hx';obtain ⟨y,hy,rfl⟩:=List.mem_map.1 hx'
  have:=hx y hy
  simp;omega
 have hg:∀i,N.getD i 0≤1073741824:=fun i=>by
  rw [List.getD_eq_getElem?_getD]
  by_cases hi:i<N.length
  ·rw [List.getElem?_eq_getElem hi];exact hx _ (List.getElem_mem _)
  ·rw [List.getElem?_eq_none (by omega)];decide
 have CW:=hid (within_any a n cap (N.map fun (x:Nat)=>(x:Int)) 1073741824 w (by simpa using hn) h (by omega))
 rw [hall] at CW;have CS:=hid (singles_any a n cap N w hn h (by omega) hx)
 have HG:=hid hg;have HS:=hid hs;have hn1:¬((n:Int)>320):=by omega
 have hL3:¬((L:Int)<1):=by omega
 have hL4:¬((L:Int)>15):=by omega
 have hL5:decide ((15:Int)<L)=false:=by simp;omega
 clear hall hg h hx hs
 go_enter Tryz.func145,Tryz.ntmps145
 go_wp2_with fail
 refine CW.out.mono ?_;rintro r w1 ⟨rfl,rfl⟩
 go_wp2_with fail
 refine CS.out.mono ?_;rintro r w1 ⟨v,d,rfl,hp,hd,hb⟩;obtain ⟨av,cv,hv⟩:=hp.sees.form;subst hv;obtain ⟨P2,hP2⟩:∃P:Int,(2:Int)^L=P:=⟨_,rfl⟩
 have hPb:(1:Int)≤P2∧P2≤32768:=by
  rw [←hP2];have h1:(2:Int)^L=((2^L:Nat):Int):=by simp
  have h2:2^L≤2^15:=Nat.pow_le_pow_right (by decide) hL2
  have h3:0<2^L:=Nat.pow_pos (by decide)
  rw [h1]
  have:(2:Nat)^15=32768:=by decide
  omega
 have hPw:IntKind.i64.wrap P2=P2:=IntWalk.i64_in _ (by omega)
 obtain ⟨D,hD⟩:∃D,d.length=D:=⟨_,rfl⟩
 have hDP:(D:Int)≤P2:=by
  rw [←hP2,←hD];have h1:(2:Int)^L=((2^L:Nat):Int):=by simp
  have h2:=congrArg List.length hd;simp only [List.length_map] at h2;have h3:=HS.out;rw [h1];omega
 have hD32:D≤320:=by
  have h2:=congrArg List.length hd;simp only [List.length_map] at h2
  have:=comeS_length N n
  omega
 have HP:=hid hp;have HD:=hid hd;have HB:=hid hb;have hDP5:decide (P2<(D:Int))=false:=by simp;omega
 rw [hD];clear hp hd hb CW CS
 go_wp2_with (at_make;refine wpList_make_full _ rfl _ _ 92 rfl w.heap.size 3 i0 (.int .i64 0) 1 Tryz.underlying92 hi hz0 hz1 .i64 .i64 _ _ n rfl rfl rfl rfl (by rw [hz2];omega) (by unfold maxLen;omega) (by have:=HB.out.size;omega) ?_;intro w2 hown hgrow)
 have hb2:Below w1.heap.size w1 w2:=(Below.refl _ _).grown hgrow (Nat.le_refl _) (fun k hk=>by cases hk)
 have hz:w1.heap.size<w2.heap.size:=(hown.lt _ rfl).2;have CC:=hid (cheapest_all N n L w.heap.size (.slice av d.length cv) d w2 hl HG.out hL hL2 HS.out HD.out (HP.out.below hb2) w1.heap.size hz (fun p hp=>by have:=(HP.out.sym p hp).1;omega) (fun e=>by have:=(HP.out.row.lt _ e).2;omega))
 rw [hD] at CC
 have HO2:Hid (w2.ownsRow w.heap.size 3 1 (.slice (some ⟨w1.heap.size,0,none⟩) n n) n (cellsN (cnts n []))):=hid (by
  rw [cnts_zero,←toList_madeCells_one];have h:=hown;rw [Nat.mul_one] at h;exact h)
 have HB2:=hid (HB.out.trans (hb2.mono HB.out.size));have HZW:Hid (w.heap.size≤w1.heap.size):=hid HB.out.size;have HZ2:=hid hz;clear hown hgrow hb2 hz HP HD HB HS HG hD;generalize w1.heap.size=z at *;refine CC.out.mono ?_;rintro r w3 ⟨ad,M,c4,l,rfl,hsh,htk,b3⟩;have HSH:=hid hsh;have HTK:=hid htk;have HO3:=hid (ownsRow_blockK HO2.out (fun j hj=>by cases hj;exact b3.block z HZ2.out))
 have HB3:=hid (HB2.out.trans (b3.mono HB2.out.size));have HS3:Hid (w.heap.size≤w3.heap.size):=hid HB3.out.size;have hM:M≤1000:=Nat.le_trans hsh.le hsh.len;clear hsh htk b3 HO2 HB2 HZ2 CC
 go_wp2_with fail
 go_loopw [42] (fun i wr=>∃j:Nat,j≤M∧i=.int .i64 j∧wr.ownsRow w.heap.size 3 1 (.slice (some ⟨z,0,none⟩) n n) n (cellsN (cnts n (upTo l j)))∧w3.grownBy wr (some z)∧Below w.heap.size w wr) (fun i _=>M-(intOf i).toNat)
 case atStart=>exact ⟨0,Nat.zero_le _,rfl,HO3.out,World.grownBy.refl _ _,HB3.out⟩
 case round=>
  obtain ⟨j,hj,rfl,ho,hgr,hbe⟩:=hrel;have HO:=hid ho;have HGR:=hid hgr;have HBE:=hid hbe;clear ho hgr hbe HO3 HB3
  by_cases hlt:j<M
  ·have hlt':(j:Int)<M:=by omega
   obtain ⟨b,had,hbz,hrow⟩:=HSH.out.row (by omega)
   subst had;have hjl:j<l.length:=Nat.lt_of_lt_of_le hlt HSH.out.le;obtain ⟨p,hp⟩:∃p,l[j]?=some p:=⟨l[j],List.getElem?_eq_getElem hjl⟩;have hpm:=List.mem_of_getElem? hp;have SY:=hid (HSH.out.sym p hpm);have UP:=hid (upTo_succ l j p hp);have UL:=hid (upTo_length l (fun p hp=>(HSH.out.sym p hp).2.2.2.1) j (by omega))
   have cellw:∀k,wr.cell? ⟨b,k,none⟩=w3.cell? ⟨b,k,none⟩:=fun k=>World.cell?_of_block (a:=⟨b,k,none⟩) (HGR.out.block b hrow.1 (by simp;exact hbz))
   have e0:=(cellw _).trans (hrow.2 j p hp).1;have e1:=(cellw _).trans (hrow.2 j p hp).2;obtain ⟨c1,hc1⟩:∃c,p.t.wt (fun i=>N.getD i 0)=c:=⟨_,rfl⟩
   obtain ⟨m,g,c,hv,hm,hg⟩:∃m g c,p.s=.slice (some ⟨g,0,none⟩) m c∧p.t.syms.length=m∧p.g=g:=⟨_,_,_,rfl,rfl,rfl⟩;rw [hc1] at e0;rw [hv] at e1;have HM:=hid hm;have HG:=hid hg;have hm4:m≤16384:=by rw [←hm];exact SY.out.2.2.2.1
   clear cellw hrow hbz hp hpm hc1 hv hm hg hjl
   go_wp2_with fail
   clear e0 e1 HSH
   go_loopw [49] (fun i wx=>∃k:Nat,k≤m∧i=.int .i64 k∧wx.ownsRow w.heap.size 3 1 (.slice (some ⟨z,0,none⟩) n n) n (cellsN (cnts n (upTo l j++p.t.syms.take k)))∧w3.grownBy wx (some z)∧Below w.heap.size w wx) (fun i _=>m-(intOf i).toNat)
   case atStart=>exact ⟨0,Nat.zero_le _,rfl,by rw [List.take_zero,List.append_nil];exact HO.out.alloc _,HGR.out.trans (World.grownBy_alloc _ _ _),HBE.out.alloc HBE.out.size _⟩
   case round=>
    obtain ⟨k,hk,rfl,ho,hgr,hbe⟩:=hrel;clear HO HGR HBE;have HO:=hid ho;have HGR:=hid hgr;have HBE:=hid hbe;clear ho hgr hbe
    by_cases hlt2:k<m
    ·have hlt2':(k:Int)<m:=by omega
     have hks:k<p.t.syms.length:=by rw [HM.out];exact hlt2
     obtain ⟨s,hs⟩:∃s,p.t.syms[k]?=some s:=⟨p.t.syms[k],List.getElem?_eq_getElem hks⟩
     have TS:Hid (p.t.syms.take (k+1)=p.t.syms.take k++[s]):=hid (by
      rw [List.take_succ_eq_append_getElem hks,(List.getElem?_eq_some_iff.1 hs).2])
     have hsn:s<n:=SY.out.2.2.1 s (List.mem_of_getElem? hs);have hsn':(s:Int)<n:=by omega
     have hgz:g≠z:=by rw [←HG.out];exact SY.out.2.1
     have hgl:g<w3.heap.size:=by rw [←HG.out];exact SY.out.1.1
     have h1:w3.cell? ⟨g,0+k,none⟩=some (.int .i64 (s:Nat)):=by
      rw [←HG.out];exact SY.out.1.2 k _ (by simp [cellsN,hs])
     rw [Nat.zero_add] at h1;have hck:=(World.cell?_of_block (a:=⟨g,k,none⟩) (HGR.out.block g hgl (by simp;exact hgz))).trans h1
     obtain ⟨C,hC⟩:∃C,(upTo l j++p.t.syms.take k).count s=C:=⟨_,rfl⟩
     have hCb:C≤100000000:=by
      have h2:(upTo l j++p.t.syms.take k).count s≤(upTo l j++p.t.syms.take k).length:=List.count_le_length;have h3:=UL.out;rw [List.length_append,List.length_take] at h2;have h4:j*16384≤1000*16384:=Nat.mul_le_mul_right _ (by omega)
      omega
     have hcl:=(HO.out.cellAt s (by omega)).trans (cnts_get n _ s hsn)
     rw [hC] at hcl;have hfz:=HO.out.frozenAt s;have hst:=HO.out.stored s (.int .i64 (C+1:Nat));rw [←hC,cnts_set n _ s hsn,hC] at hst;have e:((C+1:Nat):Int)=(C:Int)+1:=by omega
     rw [e] at hst;have HST:=hid hst.1;have HG2:=hid (HGR.out.trans hst.2);have HB2:=hid (HBE.out.grown hst.2 HBE.out.size (fun q hq=>by cases hq;exact HZW.out))
     clear hst e hC hs h1 hgz hgl hks HO HGR HBE
     go_wp2_with fail
     refine ⟨⟨k+1,by omega,by go_num,by rw [TS.out,←List.append_assoc];exact HST.out,HG2.out,HB2.out⟩,?_⟩
     simp [intOf];omega
    ·obtain rfl:k=m:=by omega
     have HO4:=hid HO.out;rw [List.take_of_length_le (by rw [HM.out];exact Nat.le_refl _),←UP.out] at HO4
     clear HO
     go_wp2_with fail
     refine ⟨⟨j+1,by omega,by go_num,HO4.out,HGR.out,HBE.out⟩,?_⟩
     simp [intOf];omega
  ·obtain rfl:j=M:=by omega
   go_wp2_with fail
   go_ret2;exact ⟨z,(l.map fun (p:Pk)=>p.t).take j,rfl,HTK.out,HO.out,HBE.out⟩
end Go.Proofs.YthbjllabgpaaaaaGreat.Huf
namespace Go.Proofs.YthbjllabgpaaaaaGreat.Huf
open Go.Lib (hid)
set_option maxHeartbeats 4000000
open Go.ChangeShapes Go.WideShapes Go.ChangeAt Go.RowKit
set_option linter.unusedVariables false
theorem taken_full (N:List Nat) (n L:Nat) (P:List Tr) (h:Taken N n L P) (hL:1≤L) (hL2:L≤15) (hs:(comeS N n).length≤2^L) :
  (∀i,i<n→(often i P=0↔N.getD i 0=0))∧(∀i,often i P≤L) ∧
  tot gU ((List.range n).map fun i=>often i P)=(if (comeS N n).length=0 then 0 else if (comeS N n).length=1 then 16384 else 32768):=by
 have hmem:∀i,i∈comeS N n↔i<n∧0<N.getD i 0:=comeS_mem N n
 have hsum:(∀i,i<n→i∉comeS N n→often i P=0)→tot gU ((List.range n).map fun i=>often i P)=tot (fun i=>gU (often i P)) (comeS N n):=fun h0=>by
  rw [tot_map];unfold comeS;rw [tot_filter]
  apply tot_congr
  intro i hi;have hi':=List.mem_range.1 hi
  by_cases hp:0<N.getD i 0
  ·rw [if_pos (by simpa using hp)]
  ·rw [if_neg (by simpa using hp),h0 i hi' (fun hm=>hp ((hmem i).1 hm).2)];rfl
 rcases h with ⟨h2,rfl⟩ | ⟨h2,Q,hQ,rfl⟩
 ·have ho:∀i,often i ((comeS N n).map .leaf)=(comeS N n).count i:=fun i=>leaf_often i _
  have hz:∀i,i∉comeS N n→(comeS N n).count i=0:=fun i hi=>List.count_eq_zero_of_not_mem hi
  have h1:∀i,i∈comeS N n→(comeS N n).count i=1:=fun i hi=>by
   have a:=List.count_pos_iff.2 hi;have b:(comeS N n).count i≤1:=List.nodup_iff_count.1 (comeS_nodup N n) i;omega
  refine ⟨fun i hi=>?_,fun i=>?_,?_⟩
  ·rw [ho]
   by_cases hm:i∈comeS N n
   ·rw [h1 i hm];have:=((hmem i).1 hm).2;omega
   ·rw [hz i hm]
    have:¬(0<N.getD i 0):=fun hp=>hm ((hmem i).2 ⟨hi,hp⟩)
    omega
  ·rw [ho]
   by_cases hm:i∈comeS N n
   ·rw [h1 i hm];exact hL
   ·rw [hz i hm];exact Nat.zero_le _
  ·rw [hsum (fun i _ hm=>by rw [ho];exact hz i hm),tot_congr _ (fun _=>16384) _ (fun i hi=>by rw [ho,h1 i hi];rfl),tot_const]
   by_cases h0:(comeS N n).length=0
   ·rw [if_pos h0,h0]
   ·rw [if_neg h0,if_pos (by omega)]
    rw [show (comeS N n).length=1 by omega]
 ·obtain ⟨_,m1,m2,m3,m4,_⟩:=made (fun i=>N.getD i 0) (comeS N n) (comeS_nodup N n) h2 (fun i hi=>((hmem i).1 hi).2) L hL hs Q hQ.lv
  refine ⟨fun i hi=>?_,m2,?_⟩
  ·by_cases hm:i∈comeS N n
   ·have:=m1 i hm;have:=((hmem i).1 hm).2;omega
   ·rw [m3 i hm]
    have:¬(0<N.getD i 0):=fun hp=>hm ((hmem i).2 ⟨hi,hp⟩)
    omega
  ·rw [hsum (fun i _ hm=>m3 i hm),if_neg (by omega),if_neg (by omega),
    tot_congr _ (fun i=>2^(15-L)*2^(L-often i (Q.take (2*(comeS N n).length-2)))) _ (fun i hi=>by
     have:=m1 i hi
     have:=m2 i
     unfold gU;rw [if_neg (by omega),←Nat.pow_add,show 15-L+(L-often i (Q.take (2*(comeS N n).length-2)))=15-often i (Q.take (2*(comeS N n).length-2)) by omega]),tot_mul,m4,←Nat.pow_add,show 15-L+L=15 by omega]
end Go.Proofs.YthbjllabgpaaaaaGreat.Huf
