/-
  Texts in one: DflRow, DflRuns.
-/
import Derived.Test.YthbjllabgpaaaaaGreatDflA
import Derived.Test.YthbjllabgpaaaaaGreatHufAllB
namespace Go
open Go.Lib (hid)
set_option maxHeartbeats 4000000
theorem run_copy_rowK {P:Program} (w:World) (dT sT ty elem:TypeId) (k n g o dLen dCap:Nat) (a:Addr) (sLen sCap:Nat) (cur:Array Value) (t:TypeId) (cs:List Value)
  (hu:P.underlying dT=some (.slice elem)) (hs:(P.info? elem).map (·.size)=some k)
  (hg:w.heap[g]?=some (.cells cur t (0,0))) (hn:n=Nat.min sLen dLen) (hl:cs.length=n*k)
  (hsrc:∀j v,cs[j]?=some v→w.cell? (a.add j)=some v) (hfit:o+cs.length≤cur.size) (h1:∀v∈cs,v.oneCell'=true) :
  (Builtin.copy_ #[dT,sT] ty #[.slice (some ⟨g,o,none⟩) dLen dCap,.slice (some a) sLen sCap]).run P w =
   .ok (goInt n) (w.setRow g (cur.toList.take o++cs++cur.toList.drop (o+cs.length)).toArray):=by
 have hld:=run_loadCells_list (P:=P) w a cs hsrc;have hst:=run_storeCells_at P g o t cs 0 cur w hg (by simpa using hfit) h1
 rw [hl] at hld
 cases hq:P.info? elem with
 | none=>simp [hq] at hs
 | some i=>
  have hi:i.size=k:=by simpa [hq] using hs
  simp [Builtin.copy_,run_underlying hu,Builtin.lenOf,Builtin.firstCells,sizeOf,typeInfo,hq,hi,←hn,hld,hst]
open RowKit in
theorem step_copy_rowK {P:Program} {ops:Array Oper} {o:Oper} {a:Act} {w:World} {K:Act→World→Prop} {Q:Exit→Act→World→Prop} {E:Prop} (hgd:o.guard=none) (d s:Operand) (dT sT:TypeId)
  (ho:o.op=.call { callee:=.builtin .copy,args:=#[d,s],argTypes:=#[dT,sT] }) (elem:TypeId) (hu:P.underlying dT=some (.slice elem)) (k:Nat) (hsz:(P.info? elem).map (·.size)=some k)
  (ad:Addr) (dLen dCap sLen sCap g off:Nat) (hd:a.eval d=.slice (some ⟨g,off/k*k,none⟩) dLen dCap) (hs:a.eval s=.slice (some ad) sLen sCap) (hoff:off/k*k=off)
  (cur:List Value) (t:TypeId) (hg:w.heap[g]?=some (.cells cur.toArray t (0,0))) (n:Nat) (cs:List Value) (hn:n=Nat.min sLen dLen) (hl:cs.length=n*k)
  (hsrc:∀j v,cs[j]?=some v→w.cell? (ad.add j)=some v)
  (hfit:off+cs.length≤cur.length) (h1:∀v∈cs,v.oneCell'=true) (B:Nat) (w0:World) (hb:RowKit.Below B w0 w) (hBg:B≤g)
  (h:∀w',RowKit.Hid (w'.heap[g]?=some (.cells (splice cur off cs).toArray t (0,0)))→RowKit.Below B w0 w'→K (a.put o.dst (goInt n)) w') :
  if Region.wanted o (yielded ops a.tmps)=true then Oper.wp P o a w K Q else E:=by
 have hw:Region.wanted o (yielded ops a.tmps)=true:=by simp [Region.wanted,hgd]
 rw [if_pos hw];rw [hoff] at hd;have hrun:=run_copy_rowK (P:=P) w dT sT o.type elem k n g off dLen dCap ad sLen sCap cur.toArray t cs hu hsz hg hn hl hsrc (by simpa using hfit) h1
 unfold Oper.wp;simp [execOp,ho,resolve,invoke,builtin,hd,hs,hrun,Result.andThen];exact h _ (show _=_ by simpa [splice] using setRow_heap w g _ _ t _ hg) (below_setRow hb hBg _)
end Go
namespace Go.Proofs.YthbjllabgpaaaaaGreat.Dfl
open Go.Lib (hid)
set_option maxHeartbeats 4000000
open Go.ChangeShapes Go.WideShapes Go.ChangeAt Go.RowKit
open Go.Proofs.YthbjllabgpaaaaaGreat.Def
set_option linter.unusedVariables false
set_option maxRecDepth 100000
theorem info_run:(Tryz.prog.info? 187).map (fun i=>(i.zero,i.size,i.bytes))=some (some (.agg #[.int .i64 0,.int .i64 0,.int .i64 0]),3,24):=by kernel_rfl
def cellsR:List (Nat×Nat)→List Value
 | []=>[]
 | y::Y=>.int .i64 (y.1:Nat)::.int .i64 (y.2:Nat)::.int .i64 (xb y.1:Nat)::cellsR Y
theorem cellsR_length (l:List (Nat×Nat)):(cellsR l).length=l.length*3:=by
 induction l with
 | nil=>rfl
 | cons t l ih=>simp [cellsR,ih];omega
theorem cellsR_append (l m:List (Nat×Nat)):cellsR (l++m)=cellsR l++cellsR m:=by
 induction l with
 | nil=>rfl
 | cons t l ih=>simp [cellsR,ih]
theorem cellsR_one (l:List (Nat×Nat)):∀u∈cellsR l,u.oneCell'=true:=by
 induction l with
 | nil=>intro u hu;simp [cellsR] at hu
 | cons t l ih=>
  intro u hu;simp only [cellsR,List.mem_cons] at hu;rcases hu with rfl | rfl | rfl | h
  ·rfl
  ·rfl
  ·rfl
  ·exact ih u h
theorem cellsR_get (l:List (Nat×Nat)):∀i (h:i<l.length),(cellsR l)[i*3]?=some (.int .i64 (l[i].1:Nat))∧(cellsR l)[i*3+1]?=some (.int .i64 (l[i].2:Nat))∧(cellsR l)[i*3+2]?=some (.int .i64 (xb l[i].1:Nat)):=by
 induction l with
 | nil=>intro i h;simp at h
 | cons t l ih=>
  intro i h
  cases i with
  | zero=>exact ⟨rfl,rfl,rfl⟩
  | succ i=>
   have:=ih i (by simpa using h)
   rw [show (i+1)*3=i*3+3 by omega]
   simpa [cellsR] using this
theorem cellsR_made (n:Nat):(madeCells #[.int .i64 0,.int .i64 0,.int .i64 0] (n*3)).toList=cellsR (List.replicate n (0,0)):=by
 apply List.ext_getElem?
 intro j
 by_cases hj:j<n*3
 ·obtain ⟨i,r,hr,rfl⟩:∃i r,r<3∧j=i*3+r:=⟨j/3,j%3,Nat.mod_lt _ (by decide),by omega⟩
  obtain ⟨g0,g1,g2⟩:=cellsR_get (List.replicate n (0,0)) i (by simp;omega)
  simp only [List.getElem_replicate] at g0 g1 g2
  have hm:(madeCells #[.int .i64 0,.int .i64 0,.int .i64 0] (n*3)).toList[i*3+r]?=some (Value.int .i64 0):=by
   unfold madeCells;simp [hj];obtain rfl | rfl | rfl:r=0∨r=1∨r=2:=by omega
   ·simp
   ·simp
   ·simp
  rw [hm];obtain rfl | rfl | rfl:r=0∨r=1∨r=2:=by omega
  ·exact g0.symm
  ·exact g1.symm
  ·exact g2.symm
 ·rw [List.getElem?_eq_none (show (madeCells #[.int .i64 0,.int .i64 0,.int .i64 0] (n*3)).toList.length≤j by simp [madeCells];omega),List.getElem?_eq_none (by rw [cellsR_length];simp;omega)]
def filR (x m n:Nat):List Value:=cellsR (List.replicate n (x,0)++List.replicate (m-n) (0,0))
theorem filR_length (x m n:Nat) (h:n≤m):(filR x m n).length=m*3:=by unfold filR;rw [cellsR_length];simp;omega
theorem filR_get (x m n j:Nat) (h:j<n*3):(filR x m n)[j]?=(cellsR (List.replicate n (x,0)))[j]?:=by
 unfold filR;rw [cellsR_append,List.getElem?_append_left (by rw [cellsR_length];simpa using h)]
theorem filR_more (x m n c:Nat) (h:n+c≤m):splice (filR x m n) (n*3) (cellsR (List.replicate c (x,0)))=filR x m (n+c):=by
 have l1:(cellsR (List.replicate n (x,0))).length=n*3:=by rw [cellsR_length,List.length_replicate]
 have e1:(filR x m n).take (n*3)=cellsR (List.replicate n (x,0)):=by
  unfold filR;rw [cellsR_append,List.take_left' l1]
 have e2:(filR x m n).drop (n*3+c*3)=cellsR (List.replicate (m-(n+c)) (0,0)):=by
  unfold filR;rw [cellsR_append,←List.drop_drop,List.drop_left' l1,show m-n=c+(m-(n+c)) by omega,←List.replicate_append_replicate,cellsR_append,List.drop_left' (by rw [cellsR_length,List.length_replicate])]
 unfold splice;rw [cellsR_length,List.length_replicate,e1,e2,←List.append_assoc,←cellsR_append,List.replicate_append_replicate,←cellsR_append]
 rfl
theorem cellsR_rep (x c j:Nat):(cellsR (List.replicate c (x,0)))[j]?=if j<c*3 then some (.int .i64 ((if j%3=0 then x else if j%3=1 then 0 else xb x:Nat):Int)) else none:=by
 by_cases hj:j<c*3
 ·rw [if_pos hj];obtain ⟨i,r,hr,rfl⟩:∃i r,r<3∧j=i*3+r:=⟨j/3,j%3,Nat.mod_lt _ (by decide),by omega⟩
  obtain ⟨g0,g1,g2⟩:=cellsR_get (List.replicate c (x,0)) i (by simp;omega)
  simp only [List.getElem_replicate] at g0 g1 g2;rw [show (i*3+r)%3=r by omega]
  obtain rfl | rfl | rfl:r=0∨r=1∨r=2:=by omega
  ·simpa using g0
  ·simpa using g1
  ·simpa using g2
 ·rw [if_neg hj,List.getElem?_eq_none (by rw [cellsR_length,List.length_replicate];omega)]
theorem rep_srcR {w:World} {g x m n c:Nat} (hB:w.heap[g]?=some (.cells (filR x m n).toArray 187 (0,0))) (hc:c≤n):∀j v,(cellsR (List.replicate c (x,0)))[j]?=some v→w.cell? ((⟨g,0,none⟩:Addr).add j)=some v:=by
 intro j v hj;rw [cellsR_rep] at hj
 by_cases hjc:j<c*3
 ·rw [if_pos hjc] at hj;rw [Go.WideShapes.add_plain,Nat.zero_add,cell_of_row _ _ _ _ _ _ hB,List.getElem?_toArray,filR_get _ _ _ _ (by omega),cellsR_rep,if_pos (by omega)]
  exact hj
 ·rw [if_neg hjc] at hj;cases hj
theorem run_copy_filR (W:World) (ty:TypeId) (x B m dLen dCap sLen sCap c:Nat) (a:Addr) (hB:W.heap[B]?=some (.cells (filR x m 0).toArray 187 (0,0))) (hc:c=Nat.min sLen dLen) (hm:c≤m)
  (hsrc:∀j v,(cellsR (List.replicate c (x,0)))[j]?=some v→W.cell? (a.add j)=some v) :
  ∃W2,(Builtin.copy_ #[183,183] ty #[.slice (some ⟨B,0,none⟩) dLen dCap,.slice (some a) sLen sCap]).run Tryz.prog W=.ok (.int .i64 c) W2∧W2.heap[B]?=some (.cells (filR x m c).toArray 187 (0,0))∧W.grownBy W2 (some B):=by
 have hl:(cellsR (List.replicate c (x,0))).length=c*3:=by rw [cellsR_length,List.length_replicate]
 have h:=run_copy_rowK (P:=Tryz.prog) W 183 183 ty 187 3 c B 0 dLen dCap a sLen sCap (filR x m 0).toArray 187 (cellsR (List.replicate c (x,0))) Tryz.underlying183 (by kernel_rfl) hB hc hl hsrc (by rw [hl,List.size_toArray,filR_length _ _ _ (by omega)];omega) (cellsR_one _)
 have e:((filR x m 0).toArray.toList.take 0++cellsR (List.replicate c (x,0))++(filR x m 0).toArray.toList.drop (0+(cellsR (List.replicate c (x,0))).length))=filR x m c:=by
  have:=filR_more x m 0 c (by omega)
  rw [Nat.zero_add,Nat.zero_mul] at this;rw [←this];unfold splice;rw [List.append_assoc]
 rw [e] at h;refine ⟨_,h,setRow_heap W B _ _ _ _ hB,⟨rfl,rfl,rfl,by simp [World.setRow],fun k hk hne=>setRow_other W B k _ (fun e=>hne (by rw [e]))⟩⟩
theorem repR_any (g0 x m:Nat) (w:World) (hx:x<16) (hc:w.heap[g0]?=some (.cells #[.int .i64 x,.int .i64 0,.int .i64 0] 187 (0,0))) (hm:m≤100000) :
  Calls Tryz.prog 188 #[.slice (some ⟨g0,0,none⟩) 1 1,.int .i64 m] w fun e w'=>e=.returned (.slice (some ⟨w.heap.size,0,none⟩) m m) ∧
   w'.heap[w.heap.size]?=some (.cells (cellsR (List.replicate m (x,0))).toArray 187 (0,0))∧Below w.heap.size w w':=by
 have hend:filR x m m=cellsR (List.replicate m (x,0)):=by unfold filR;rw [Nat.sub_self,List.replicate_zero,List.append_nil]
 rw [←hend];clear hend;have C1:=hid (Lz.mul_any m w (by omega))
 obtain ⟨i0,hi,hz0,hz1,hz2⟩:=Huf.info_parts info_run
 have hms:IntKind.u64.wrap (m:Int)=m:=by
  have e3:IntKind.u64.bits=64:=rfl;have e4:IntKind.u64.signed=false:=rfl;simp [IntKind.wrap,e3,e4];omega
 have hmk:(Instr.makeSlice 183 (.int .i64 m) (.int .i64 m)).run Tryz.prog w=.ok (.slice (some ⟨w.heap.size,0,none⟩) m m) (w.alloc (.cells (filR x m 0).toArray 187)):=by
  have:=run_make (P:=Tryz.prog) w 183 187 i0 (.agg #[.int .i64 0,.int .i64 0,.int .i64 0]) Tryz.underlying183 hi hz0 .i64 .i64 m m (by omega) (by omega) (by rw [hz2];omega) (by omega)
  rw [this,hz1]
  have e:(madeCells (Value.agg #[.int .i64 0,.int .i64 0,.int .i64 0]).cells (((m:Nat):Int).toNat*3))=(filR x m 0).toArray:=by
   apply Array.toList_inj.1
   rw [show (Value.agg #[.int .i64 0,.int .i64 0,.int .i64 0]).cells=#[Value.int .i64 0,Value.int .i64 0,Value.int .i64 0] from rfl,Int.toNat_natCast,cellsR_made]
   simp [filR]
  rw [e]
  simp
 obtain ⟨c,hcm⟩:∃c:Nat,c=Nat.min 1 m:=⟨_,rfl⟩
 have hc1:c≤1∧c≤m∧(c=0→m=0):=by
  rw [hcm];simp only [Nat.min_def];split <;> omega
 obtain ⟨A1,hA1⟩:∃A1,w.alloc (.cells (filR x m 0).toArray 187)=A1:=⟨_,rfl⟩;have hA2:A1.heap[w.heap.size]?=some (.cells (filR x m 0).toArray 187 (0,0)):=by rw [←hA1];exact heap_alloc_new _ _
 have hA3:Below w.heap.size w A1:=by rw [←hA1];exact (Below.refl _ _).alloc (Nat.le_refl _) _
 have hg:g0<w.heap.size:=(Array.getElem?_eq_some_iff.1 hc).1;have hA4:A1.heap[g0]?=some (.cells #[.int .i64 x,.int .i64 0,.int .i64 0] 187 (0,0)):=(hA3.block g0 hg).trans hc;have hxb:xb x=0:=by unfold xb;rw [if_pos hx]
 obtain ⟨A2,hcp,hB2,hb2⟩:=run_copy_filR A1 3 x w.heap.size m m m 1 1 c ⟨g0,0,none⟩ hA2 hcm hc1.2.1 (by
   intro j v hj;rw [cellsR_rep] at hj
   by_cases hjc:j<c*3
   ·rw [if_pos hjc] at hj;rw [Go.WideShapes.add_plain,Nat.zero_add,cell_of_row _ _ _ _ _ _ hA4,←hj];obtain rfl | rfl | rfl:j=0∨j=1∨j=2:=by omega
    ·rfl
    ·rfl
    ·simp [hxb]
   ·rw [if_neg hjc] at hj;cases hj)
 have HB2:=hid hB2;have HBL:=hid (hA3.grown hb2 hA3.size (fun j hj=>by simp at hj;omega))
 rw [hA1] at hmk;have d8:decide ((m:Int)<0)=false:=decide_eq_false (by omega)
 have d9:decide ((9223372036854775807:Int)<(m:Int))=false:=decide_eq_false (by omega)
 clear hA1 hA2 hA3 hA4 hc hcm hB2 hb2 hxb
 go_enter Tryz.func188,Tryz.ntmps188
 go_wp2_with fail
 refine C1.out.mono ?_;rintro r w1 ⟨rfl,rfl⟩;clear C1
 go_wp2_with fail
 go_loopw [8] (fun i wr=>∃n:Nat,n≤m∧(n=0→m=0)∧i=.int .i64 n∧wr.heap[w.heap.size]?=some (.cells (filR x m n).toArray 187 (0,0))∧Below w.heap.size w wr) (fun i _=>m-(intOf i).toNat)
 case atStart=>exact ⟨c,hc1.2.1,hc1.2.2,rfl,HB2.out,HBL.out⟩
 case round=>
  obtain ⟨n,hn,hn0,rfl,hB,hb⟩:=hrel;clear HB2 HBL hcp hmk
  by_cases hlt:n<m
  ·have HB:=hid hB;have HL:=hid hb;clear hB hb;obtain ⟨d,hdm⟩:∃d:Nat,d=Nat.min n (m-n):=⟨_,rfl⟩
   have hd1:1≤d∧n+d≤m:=by
    rw [hdm];simp only [Nat.min_def];split <;> omega
   have hdn:d≤n:=by rw [hdm];exact Nat.min_le_left _ _
   have HBD:Hid (wr.drew.heap[w.heap.size]?=some (.cells (filR x m n).toArray 187 (0,0))):=hid HB.out;have HP2:=hid (rep_srcR HBD.out hdn);have HLN:Hid ((cellsR (List.replicate d (x,0))).length=d*3):=hid (by rw [cellsR_length,List.length_replicate])
   have HF2:Hid (n*3+(cellsR (List.replicate d (x,0))).length≤(filR x m n).length):=hid (by rw [HLN.out,filR_length _ _ _ hn];omega)
   have HM2:=hid (filR_more x m n d hd1.2);have HN2:=hid hdm;have HO:=hid (cellsR_one (List.replicate d (x,0)));have HOF:Hid (n*3/3*3=n*3):=hid (by omega)
   clear hdm;obtain ⟨CS,hCS⟩:∃CS,cellsR (List.replicate d (x,0))=CS:=⟨_,rfl⟩;rw [hCS] at HP2 HLN HF2 HM2 HO;clear hCS;have hnm:¬m=n:=by omega
   go_wp2_with fail
   go_region_law (refine step_copy_rowK rfl (.tmp 41) (.tmp 44) 183 183 rfl 187 Tryz.underlying183 3 (by kernel_rfl) ⟨w.heap.size,0,none⟩ (m-n) (m-n) n m w.heap.size (n*3) (by rw [HOF.out];simp [Act.eval,Act.put]) (by simp [Act.eval,Act.put]) HOF.out (filR x m n) 187 HBD.out d CS HN2.out HLN.out HP2.out HF2.out HO.out w.heap.size w HL.out.drew (Nat.le_refl _) ?_;intro w3 hg3 hb3)
   have HB3:Hid (w3.heap[w.heap.size]?=some (.cells (filR x m (n+d)).toArray 187 (0,0))):=hid (by rw [←HM2.out];exact hg3.out)
   have HL3:=hid hb3;have hw:IntKind.i64.wrap ((n:Int)+d)=n+d:=IntWalk.i64_in _ (by omega)
   rw [hw];simp only [List.getElem_toArray,List.getElem_cons_succ,List.getElem_cons_zero,Act.put,List.setIfInBounds_toArray,List.set_cons_succ,List.set_cons_zero];clear hg3 hb3 HB HL HBD HP2 HLN HF2 HM2 HN2 HO HOF
   go_wp2_with fail
   exact ⟨⟨n+d,hd1.2,by omega,by go_num,HB3.out,HL3.out⟩,by simp [intOf];omega⟩
  ·obtain rfl:n=m:=by omega
   have HB:=hid hB;have HL:=hid hb;clear hB hb
   go_wp2_with fail
   go_ret;exact ⟨rfl,HB.out,HL.out⟩
end Go.Proofs.YthbjllabgpaaaaaGreat.Dfl
namespace Go.Proofs.YthbjllabgpaaaaaGreat.Dfl
open Go.Lib (hid)
set_option maxHeartbeats 4000000
open Go.ChangeShapes Go.WideShapes Go.ChangeAt Go.RowKit
open Go.Proofs.YthbjllabgpaaaaaGreat.Def
set_option linter.unusedVariables false
set_option maxRecDepth 100000
structure RunsAt (B:Nat) (w:World) (v:Value) (Y:List (Nat×Nat)):Prop where
 own:w.ownsRow 0 187 3 v Y.length (cellsR Y)
 new:∀j,v.ownBlock=some j→B≤j
theorem RunsAt.nil (B:Nat) (w:World):RunsAt B w (.slice none 0 0) []:=⟨World.ownsRow_nil _ _ _ _,fun j h=>by cases h⟩
theorem RunsAt.sees {B:Nat} {w:World} {v:Value} {Y:List (Nat×Nat)} (h:RunsAt B w v Y):Huf.Sees w 3 v Y.length (cellsR Y):=by
 refine ⟨cellsR_length Y,cellsR_one Y,?_⟩;rcases h.own.2 with ⟨h1,h2⟩ | ⟨g,cap,cur,h1,_⟩
 ·exact .inl ⟨h1,h2⟩
 ·have h1:v=.slice (some ⟨g,0,none⟩) Y.length cap:=h1;subst h1;refine .inr ⟨g,0,cap,rfl,(h.own.lt g rfl).2,fun j u hj=>?_⟩
  have:=h.own.cells (g:=g) rfl j u hj
  rwa [Go.WideShapes.add_plain] at this
theorem RunsAt.below {B:Nat} {w w':World} {v:Value} {Y:List (Nat×Nat)} (h:RunsAt B w v Y) (k:Below w.heap.size w w'):RunsAt B w' v Y:=by
 refine ⟨⟨h.own.1,?_⟩,h.new⟩;rcases h.own.2 with h1 | ⟨g,cap,cur,h1,h2,hg,h3⟩
 ·exact .inl h1
 ·refine .inr ⟨g,cap,cur,h1,h2,?_,h3⟩;rw [k.block g (Array.getElem?_eq_some_iff.1 hg).1];exact hg
theorem RunsAt.grown {B:Nat} {w0 wr w':World} {v v':Value} {Y Z:List (Nat×Nat)} (h:RunsAt B wr v Y) (hb:Below B w0 wr) (hB:B≤w0.heap.size) (ho:w'.ownsRow 0 187 3 v' (Y.length+Z.length) (cellsR Y++cellsR Z)) (hg:wr.grownBy w' v.ownBlock) (hn:∀k,v'.ownBlock=some k→v.ownBlock=some k∨wr.heap.size≤k) :
  RunsAt B w' v' (Y++Z)∧Below B w0 w':=by
 refine ⟨⟨by rw [List.length_append,cellsR_append];exact ho,fun j hj=>?_⟩,hb.grown hg (Nat.le_trans hB hb.size) h.new⟩
 rcases hn j hj with h1 | h1
 ·exact h.new j h1
 ·have:=hb.size;omega
theorem run_lit (w:World) (y:Nat×Nat) (T:TypeId):∀j u,(cellsR [y])[j]?=some u→(w.alloc (.cells #[.int .i64 (y.1:Nat),.int .i64 (y.2:Nat),.int .i64 (xb y.1:Nat)] T)).cell? ((⟨w.heap.size,0,none⟩:Addr).add j)=some u:=by
 intro j u hj;rw [Go.WideShapes.add_plain,Nat.zero_add,cell_of_row _ _ j _ _ _ (heap_alloc_new _ _)]
 match j,hj with
 | 0,h=>exact h
 | 1,h=>exact h
 | 2,h=>exact h
def SpansAt (w:World) (g:Nat) (S:List Nat):Prop:=g<w.heap.size∧∀i (h:i<S.length),w.cell? ⟨g,i*3,none⟩=some (.int .i64 (S[i]:Nat))∧w.cell? ⟨g,i*3+1,none⟩=some (.int .i64 (lst S[i]:Nat))∧w.cell? ⟨g,i*3+2,none⟩=some (.int .i64 (xb S[i]:Nat))
theorem several_any (g:Nat) (S:List Nat) (q cap x n:Nat) (w:World) (hq:S.length=q) (hS:SpansAt w g S) (hok:∀s∈S,okS x s) (hx:x<16) (hn:n≤1000) (hq2:q≤100) :
  Calls Tryz.prog 183 #[.slice (some ⟨g,0,none⟩) q cap,.int .i64 x,.int .i64 n] w fun e w'=>∃v Y,e=.returned v∧Sev x Y n∧RunsAt w.heap.size w' v Y∧Below w.heap.size w w'∧SevR x S n Y:=by
 obtain ⟨i0,hi,hz0,hz1,hz2⟩:=Huf.info_parts info_run;have HS:=hid hS;have HOK:=hid hok;have HQ:=hid hq;clear hS hok
 go_enter Tryz.func183,Tryz.ntmps183
 go_wp2_with fail
 go_loopw [2,7,13] (fun sn u i wr=>∃(k m:Nat) (Y:List (Nat×Nat)),k≤q∧m≤n∧i=.int .i64 k∧sn=.int .i64 m∧Sev x Y (n-m)∧RunsAt w.heap.size wr u Y∧Below w.heap.size w wr∧SevK x S n k m Y) (fun _ _ i _=>q-(intOf i).toNat)
 case atStart=>exact ⟨0,n,[],Nat.zero_le _,Nat.le_refl _,rfl,rfl,by rw [Nat.sub_self];exact Sev.nil x,RunsAt.nil _ _,Below.refl _ _,fun Z h=>h⟩
 case round=>
  obtain ⟨k,m,Y,hk,hm,rfl,rfl,hY,hR,hb,hK⟩:=hrel;have HKK:=hid hK;clear hK
  by_cases hlt:k<q
  ·have hlt':(k:Int)<q:=by omega
   have hkq:k<S.length:=by omega
   obtain ⟨hg,hc⟩:=HS.out;obtain ⟨q1,q2,q3⟩:=hc k hkq;have c1:=(hb.cell (p:=⟨g,k*3,none⟩) hg).trans q1;have c2:=(hb.cell (p:=⟨g,k*3+1,none⟩) hg).trans q2;have c3:=(hb.cell (p:=⟨g,k*3+2,none⟩) hg).trans q3;have hs:=HOK.out S[k] (List.getElem_mem hkq);have HDR:=hid (List.drop_eq_getElem_cons hkq);generalize S[k]=s at *;obtain ⟨L,hL⟩:∃L,lst s=L:=⟨_,rfl⟩;obtain ⟨E,hE⟩:∃E,xb s=E:=⟨_,rfl⟩;have hL2:=hs.lst_pos;have hE2:E≤7:=by rw [←hE];unfold xb;split <;> (try split) <;> (try split) <;> omega
   rw [hL] at c2 hL2;rw [hE] at c3;have HSL:=hid (And.intro hs (And.intro hL hE));have hX:=heap_alloc_new wr (.cells #[.int .i64 s,.int .i64 L,.int .i64 E] 231);have bX:Below wr.heap.size wr (wr.alloc (.cells #[.int .i64 s,.int .i64 L,.int .i64 E] 231)):=(Below.refl _ _).alloc (Nat.le_refl _) _;have oX:u7.ownBlock≠some wr.heap.size:=fun e=>by have:=(hR.own.lt _ e).2;omega
   have sX:wr.heap.size<(wr.alloc (.cells #[.int .i64 s,.int .i64 L,.int .i64 E] 231)).heap.size:=by simp
   generalize hW5:wr.alloc (.cells #[.int .i64 s,.int .i64 L,.int .i64 E] 231)=w5 at *;have R5:=hid (hR.below bX);have B5:=hid (hb.trans (bX.mono hb.size));generalize hP:wr.heap.size=P at *;have HX:=hid (And.intro hX (And.intro oX sX));have HY:=hid hY;clear hY hR hb hX bX oX sX q1 q2 q3 hc hg hs hL hE
   go_wp2_with fail
   go_loopw [2,7] (fun sn u wr=>∃(m:Nat) (Y:List (Nat×Nat)),m≤n∧sn=.int .i64 m∧Sev x Y (n-m)∧RunsAt w.heap.size wr u Y∧Below w.heap.size w wr∧wr.heap[P]?=some (.cells #[.int .i64 s,.int .i64 L,.int .i64 E] 231 (0,0))∧u.ownBlock≠some P∧P<wr.heap.size∧SevK x S n k m Y) (fun sn _ _=>(intOf sn).toNat)
   case atStart=>exact ⟨m,Y,hm,rfl,HY.out,R5.out,B5.out,HX.out.1,HX.out.2.1,HX.out.2.2,HKK.out⟩
   case round=>
    clear c1 c2 c3 hW5 hP HX HY R5 B5;obtain ⟨m,Y,hm,rfl,hY,hR,hb,hp,ho,hps,hK⟩:=hrel;clear HKK;have HKK:=hid hK;clear hK;have d0:wr.cell? ⟨P,0,none⟩=some (.int .i64 s):=by rw [cell_of_row _ _ 0 _ _ _ hp];rfl
    have d1:wr.cell? ⟨P,1,none⟩=some (.int .i64 L):=by rw [cell_of_row _ _ 1 _ _ _ hp];rfl
    have d2:wr.cell? ⟨P,2,none⟩=some (.int .i64 E):=by rw [cell_of_row _ _ 2 _ _ _ hp];rfl
    have hml':(L:Int)≤m∨(m:Int)<L:=by omega
    by_cases hml:L≤m
    ·obtain ⟨d,hd⟩:∃d,m-L=d:=⟨_,rfl⟩;obtain ⟨T,hT⟩:∃T,2^E=T:=⟨_,rfl⟩
     have hT2:1≤T∧T≤128:=by
      rw [←hT];exact ⟨Nat.one_le_two_pow,Nat.le_trans (Nat.pow_le_pow_right (by decide) hE2) (by decide)⟩
     obtain ⟨M,hM⟩:∃M,T-1=M:=⟨_,rfl⟩;obtain ⟨e,he⟩:∃e,min d M=e:=⟨_,rfl⟩;have hd1:(m:Int)-L=d:=by omega
     have hp1:(2:Int)^E=(T:Int):=by rw [←hT];exact_mod_cast rfl
     have hp2:IntKind.i64.wrap (T:Int)=(T:Int):=IntWalk.i64_in _ (by omega)
     have hM1:(T:Int)-1=M:=by omega
     have he1:min (d:Int) (M:Int)=e:=by omega
     have he2:(if (M:Int)<(d:Int) then (M:Int) else (d:Int))=e:=by split <;> omega
     have he3:(if M<d then (M:Int) else (d:Int))=e:=by split <;> omega
     have hem:e≤d∧e≤M:=by omega
     have hge:decide ((L:Int)≤m)=true:=by simp;omega
     have hge2:decide (L≤m)=true:=by simp;omega
     have FE:Hid (Sev x (Y++[(s,e)]) (n-(d-e))∧d-e≤n∧d-e<m):=by
      obtain ⟨h1,h2,h3⟩:=HSL.out;refine ⟨?_,by omega,by omega⟩
      have:=(show Sev x Y (n-m) from hY).span h1 (e:=e) (by rw [h3,hT];omega)
      rw [h2] at this;rw [show n-(d-e)=n-m+(L+e) by omega]
      exact this
     obtain ⟨r,hr⟩:∃r,L+e=r:=⟨_,rfl⟩;obtain ⟨m',hm'⟩:∃m',d-e=m':=⟨_,rfl⟩;have hr1:(L:Int)+e=(r:Int):=by omega
     have hr2:(m:Int)-(r:Int)=(m':Int):=by omega
     have hr3:r≤1000:=by omega
     have NK:Hid (SevK x S n k m' (Y++[(s,e)])):=hid fun Z hZ=>by
      obtain ⟨h1,h2,h3⟩:=HSL.out;rw [List.append_assoc];refine HKK.out _ ?_;rw [HDR.out] at hZ ⊢;refine .more s _ m e Z (by omega) (by rw [h2,h3,hT];omega) ?_
      rw [h2,show m-(L+e)=m' by omega]
      exact hZ
     rw [hm'] at FE;have HXB:=hid HSL.out.2.2;have hR1:RunsAt w.heap.size wr.drew u7 Y:=⟨hR.own,hR.new⟩;have hb1:Below w.heap.size w wr.drew:=hb.drew;have hp1':wr.drew.heap[P]?=some (.cells #[.int .i64 s,.int .i64 L,.int .i64 E] 231 (0,0)):=hp;have hps1:P<wr.drew.heap.size:=hps;obtain ⟨W,hW⟩:∃W,wr.drew=W:=⟨_,rfl⟩;rw [hW] at hR1 hb1 hp1' hps1;have HO:Hid (∀o,(W.alloc o).ownsRow 0 187 3 u7 Y.length (cellsR Y)):=hid fun o=>hR1.own.alloc o
     have e0:W.cell? ⟨P,0,none⟩=some (.int .i64 s):=by rw [cell_of_row _ _ 0 _ _ _ hp1'];rfl
     have e1:W.cell? ⟨P,1,none⟩=some (.int .i64 L):=by rw [cell_of_row _ _ 1 _ _ _ hp1'];rfl
     have e2:W.cell? ⟨P,2,none⟩=some (.int .i64 E):=by rw [cell_of_row _ _ 2 _ _ _ hp1'];rfl
     have NEXT:Hid (∀y wr' v',(W.alloc (.cells #[.int .i64 (y.1:Nat),.int .i64 (y.2:Nat),.int .i64 (xb y.1:Nat)] 187)).grownBy wr' u7.ownBlock→Lz.Near (W.alloc (.cells #[.int .i64 (y.1:Nat),.int .i64 (y.2:Nat),.int .i64 (xb y.1:Nat)] 187)) u7 v'→wr'.ownsRow 0 187 3 v' (Y.length+1) (cellsR Y++cellsR [y]) →
       RunsAt w.heap.size wr' v' (Y++[y])∧Below w.heap.size w wr'∧wr'.heap[P]?=some (.cells #[.int .i64 s,.int .i64 L,.int .i64 E] 231 (0,0))∧v'.ownBlock≠some P∧P<wr'.heap.size):=by
      intro y wr' v' g1 n1 o1;have bb:=(Below.refl W.heap.size W).alloc (Nat.le_refl _) (.cells #[.int .i64 (y.1:Nat),.int .i64 (y.2:Nat),.int .i64 (xb y.1:Nat)] 187);obtain ⟨h1,h2⟩:=(hR1.below bb).grown (Z:=[y]) (hb1.trans (bb.mono hb1.size)) (Nat.le_refl _) o1 g1 n1;refine ⟨h1,h2,?_,fun e=>?_,Nat.lt_of_lt_of_le (Nat.lt_of_lt_of_le hps1 bb.size) g1.size⟩
      ·rw [g1.block P (Nat.lt_of_lt_of_le hps1 bb.size) (fun e=>ho e.symm),bb.block P hps1];exact hp1'
      ·rcases n1 P e with h | h
       ·exact ho h
       ·have:=bb.size;omega
     have N2:=hid (NEXT.out (s,e));have LIT:=hid (run_lit W (s,e) 187);simp only [HXB.out] at N2 LIT;have hyl:Y.length≤1000:=by have:=hY.2;omega
     generalize hYL:Y.length=yl at *;have HW:=hid hW;clear hY hR hb hp ho hps NEXT hd hT hM he hr hm' hml' hW hR1 hb1 hp1' hps1 HXB
     go_wp2_with fail
     go_region
     rw [HW.out];clear d0 d1 d2 HW
     go_wp2_with (at_builtin;refine Lz.wpList_append_near _ rfl _ _ 183 rfl 187 i0 (.agg #[.int .i64 0,.int .i64 0,.int .i64 0]) 3 24 Tryz.underlying183 hi hz0 hz1 hz2 rfl (by decide) u7 yl (cellsR Y) rfl (HO.out _) ⟨W.heap.size,0,none⟩ 1 1 (cellsR [(s,e)]) rfl rfl LIT.out (cellsR_one _) (by unfold maxLen;omega) (by omega) ?_;intro v6 w6 o6 g6 n6;have H6:=hid (N2.out w6 v6 g6 n6 o6);have f0:w6.cell? ⟨P,1,none⟩=some (.int .i64 L):=(cell_of_row _ _ 1 _ _ _ H6.out.2.2.1).trans rfl;clear o6 g6 n6 e0 e1 e2 LIT N2 HO)
     refine ⟨⟨m',Y++[(s,e)],FE.out.2.1,rfl,FE.out.1,H6.out.1,H6.out.2.1,H6.out.2.2.1,H6.out.2.2.2.1,H6.out.2.2.2.2,NK.out⟩,?_⟩
     have:=FE.out.2.2
     simp [intOf];omega
    ·have hge:decide ((L:Int)≤m)=false:=by simp;omega
     have hge2:decide (L≤m)=false:=by simp;omega
     have NK:Hid (SevK x S n (k+1) m Y):=hid fun Z hZ=>by
      obtain ⟨h1,h2,h3⟩:=HSL.out;refine HKK.out _ ?_;rw [HDR.out];exact .skip s _ m Z (by omega) hZ
     have HF:=hid (And.intro hY (And.intro hR hb));clear hY hR hb hp ho hps hml'
     go_wp2_with fail
     refine ⟨⟨k+1,m,Y,by omega,hm,by go_num,rfl,HF.out.1,HF.out.2.1,HF.out.2.2,NK.out⟩,?_⟩
     simp [intOf];omega
  ·obtain rfl:k=q:=by omega
   have hX:=heap_alloc_new wr (.cells #[.int .i64 x,.int .i64 0,.int .i64 0] 187);have bX:Below wr.heap.size wr (wr.alloc (.cells #[.int .i64 x,.int .i64 0,.int .i64 0] 187)):=(Below.refl _ _).alloc (Nat.le_refl _) _;have R5:=hid (hR.below bX);have B5:=hid (hb.trans (bX.mono hb.size));have CR:=hid (repR_any wr.heap.size x m _ hx hX (by omega))
   have HSR:Hid (SevR x S n (Y++List.replicate m (x,0))):=hid (HKK.out _ (by rw [List.drop_of_length_le (by have:=HQ.out;omega)];exact .done m))
   have HY:=hid hY;have hyl:Y.length≤1000:=by have:=hY.2;omega
   clear hY hR hb hX bX
   go_wp2_with fail
   refine CR.out.mono ?_;rintro r w6 ⟨rfl,hX6,b6⟩
   have S6:Huf.Sees w6 3 (.slice (some ⟨(wr.alloc (.cells #[.int .i64 x,.int .i64 0,.int .i64 0] 187)).heap.size,0,none⟩) m m) m (cellsR (List.replicate m (x,0))):=by
    refine ⟨by rw [cellsR_length,List.length_replicate],cellsR_one _,.inr ⟨_,0,m,rfl,(Array.getElem?_eq_some_iff.1 hX6).1,fun j u hj=>?_⟩⟩
    rw [Nat.zero_add,cell_of_row _ _ j _ _ _ hX6,List.getElem?_toArray];exact hj
   have R6:=hid (R5.out.below b6);have B6:=hid (B5.out.trans (b6.mono B5.out.size));generalize (wr.alloc (.cells #[.int .i64 x,.int .i64 0,.int .i64 0] 187))=w5 at *;have HS6:=hid S6;obtain ⟨Z,hZ⟩:∃Z,List.replicate m (x,0)=Z:=⟨_,rfl⟩;have HZ:Hid (Sev x (Y++Z) n∧Z.length=m):=hid ⟨by have:=HY.out.plain hx m;rw [hZ] at this;rw [show n-m+m=n by omega] at this;exact this,by rw [←hZ,List.length_replicate]⟩
   rw [hZ] at HS6 HSR
   have NEXT:Hid (∀wr' v',w6.grownBy wr' u7.ownBlock→Bit.Near w6 u7 v'→wr'.ownsRow 0 187 3 v' (Y.length+m) (cellsR Y++cellsR Z)→RunsAt w.heap.size wr' v' (Y++Z)∧Below w.heap.size w wr'):=by
    intro wr' v' g1 n1 o1;exact R6.out.grown (Z:=Z) B6.out (Nat.le_refl _) (by rw [HZ.out.2];exact o1) g1 n1
   have HO:=hid R6.out.own;generalize hYL:Y.length=yl at *;clear S6 hX6 b6 R5 B5 R6 B6 CR hZ
   go_wp2_with (at_builtin;refine Huf.wpl_append_sees _ rfl _ _ 183 rfl 187 i0 (.agg #[.int .i64 0,.int .i64 0,.int .i64 0]) 3 24 Tryz.underlying183 hi hz0 hz1 hz2 rfl (by decide) u7 yl (cellsR Y) rfl HO.out _ m (cellsR Z) rfl HS6.out (by unfold maxLen;omega) (by omega) ?_;intro v7 w7 o7 g7 n7;have H7:=hid (NEXT.out w7 v7 g7 n7 o7);clear o7 g7 n7)
   go_ret;exact ⟨_,_,rfl,HZ.out.1,H7.out.1,H7.out.2,HSR.out⟩
end Go.Proofs.YthbjllabgpaaaaaGreat.Dfl
