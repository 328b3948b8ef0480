/-
  Texts in one: DefSym, DefMath, DefOrd, DefSt, DefPlain, DefBlkM, DefStored.
-/
import Derived.Test.YthbjllabgpaaaaaGreatAllSymR
import Derived.Test.YthbjllabgpaaaaaGreatAllSym
import Derived.Test.YthbjllabgpaaaaaGreatAllRf
namespace Go.Proofs.YthbjllabgpaaaaaGreat.Def
open Go.Lib (hid)
set_option maxHeartbeats 8000000
open Go.ChangeShapes Go.WideShapes Go.ChangeAt Go.RowKit
open Go.Proofs.YthbjllabgpaaaaaGreat.Huf (nxG nx_spec nextB nextB_length nextB_succ bigN findV find_any IsBits codeV codeV_lt Stop info_parts top fst cn used)
open Go.Proofs.YthbjllabgpaaaaaGreat.Bit (BlAt From Near RfAt rfbits_any rV rI rOk errI tat num cellsB row_ne wpList_append_near info_bool lenOf cellsB_length rgrown_trans)
open Go.Proofs.YthbjllabgpaaaaaGreat.Sym
set_option linter.unusedVariables false
set_option maxRecDepth 100000
theorem refSymbol_any (c n b p:Nat) (v:Value) (N:List Nat) (T:List Bool) (w:World) (hN:N.length=n) (hn:n≤320) (h15:∀x∈N,x≤15) (hU:used N 15≤32768) (hc:CodesAt w c n N) (hr:RfAt w b v T p false) (hp:p≤T.length) (hT:T.length≤8000000) (s j:Nat) (hx:nxG N T p false 15 0 0=(s,0,j,false)) :
  Calls Tryz.prog 85 #[.slice (some ⟨c,0,none⟩) n n,.pointer (some ⟨b,0,none⟩)] w fun r w'=>
   r=.returned (.tuple #[.int .i64 (s:Int),.int .i64 0])∧RfAt w' b v T j false∧w.grownBy w' (some b):=by
 obtain ⟨t0,hi0,hz0,hz1,hz2⟩:=info_parts info_bool;obtain ⟨m,_,hm15,hpm,hall,hst⟩:=nx_spec N T p h15 15 0 0 rfl rfl (by omega) (by simp [top,fst,cn])
 rw [hx] at hst;clear hx;have H15:=hid h15;have HSM:=hid (small_codes h15 hU);have HC:=hid hc;have HR:=hid hr;have HALL:=hid hall;have HST:=hid hst;have HT:=hid hT;have hbw:=hr.lt;have hvw:∀k,v.ownBlock=some k→k<w.heap.size:=fun k hk=>(World.ownsRow.lt hr.row k hk).2
 have HVW:=hid hvw;clear hst hall hc hr h15 hU hvw hT
 go_enter Tryz.func85,Tryz.ntmps85
 go_wp2_with fail
 go_loopw [6] (fun u wr=>∃q:Nat,q≤m∧BlAt wr u (nextB T p q)∧RfAt wr b v T (p+q) false∧w.grownBy wr (some b)∧From w.heap.size u∧lenOf u=q) (fun u _=>m-lenOf u)
 case atStart=>exact ⟨0,Nat.zero_le _,BlAt.nil _,HR.out,World.grownBy.refl _ _,From.nil _,rfl⟩
 case round=>
  obtain ⟨q,hq,hbl,hrf,hg,hf,hlen⟩:=hrel;have hnl:(nextB T p q).length=q:=nextB_length T p q (by omega)
  obtain ⟨ua,uc,rfl,_⟩:=hbl.shape;rw [hnl] at hbl hf hlen ⊢
  have hcw:CodesAt wr c n N:=rowK HC.out fun k hk=>by
   cases hk
   exact hg.block c HC.out.lt (fun e=>by
    cases e
    obtain ⟨_,h2⟩:=HC.out;rcases h2 with ⟨e1,_⟩ | ⟨g',cap,cur,e1,_,h3,_⟩
    ·cases e1
    ·cases e1
     have:=HR.out.blk
     rw [h3] at this;simp at this)
  have CF:=hid (find_any c n q uc ua N (nextB T p q) wr hN hnl hn (by omega) H15.out HSM.out hcw (bits_at hbl))
  have HBL:=hid hbl;have HRF:=hid hrf;have HG:=hid hg;have HF:=hid hf;clear hbl hrf hg hf hcw hlen
  go_wp2_with fail
  refine CF.out.mono ?_;rintro r w2 ⟨rfl,b2⟩;have HBL2:=hid (HBL.out.below b2);have HRF2:=hid (HRF.out.below b2);have HG2:Hid (w.grownBy w2 (some b)):=hid (rgrown_trans HG.out ⟨b2.os,b2.tape,b2.output,b2.size,fun i hi _=>b2.block i hi⟩)
  clear b2 HBL HRF HG CF
  by_cases hqm:q<m
  ·obtain ⟨e1,e2⟩:=HALL.out q (Nat.zero_le _) hqm;rw [e1];obtain ⟨n1,n2,n3⟩:=next_bit T (p+q) e2;have CB:=hid (rfbits_any b v T (p+q) false 1 w2 HRF2.out (by omega) (by have:=HT.out;omega))
   rw [show Bit.cnt 1=1 from rfl,n1,n2,n3] at CB
   have hsn:=nextB_snoc T p q e2;generalize tat T (p+q)=bit at *;have HSN:=hid hsn;clear n1 n2 n3 hsn e1
   go_wp2_with fail
   refine CB.out.mono ?_;rintro r w3 ⟨rfl,r3,g3⟩;have HBL3:=hid (HBL2.out.block fun k hk=>g3.block k (World.ownsRow.lt HBL2.out k hk).2 (fun e=>by cases e;exact row_ne HBL2.out HRF2.out.blk (by decide) hk))
   have HG3:=hid (rgrown_trans HG2.out g3);have HRF3:Hid (RfAt w3 b v T (p+q+1) false):=hid r3;obtain ⟨k0,k1,k2,_,_⟩:=r3.cells;have k2':w3.cell? ⟨b,2,none⟩=some (.int .i64 0):=k2;clear r3 g3 CB HBL2 HG2 HRF2 k2
   have FIN:Hid (∀v6 w6,w6.ownsRow 0 4 1 v6 (q+1) (cellsB (nextB T p q)++[.bool bit])→(w3.alloc (.cells #[.bool bit] 4)).grownBy w6 (Value.slice ua q uc).ownBlock→Near (w3.alloc (.cells #[.bool bit] 4)) (.slice ua q uc) v6 →
     BlAt w6 v6 (nextB T p (q+1))∧RfAt w6 b v T (p+(q+1)) false∧w.grownBy w6 (some b)∧From w.heap.size v6∧lenOf v6=q+1):=hid fun v6 w6 o6 g6 n6=>by
    have hs:(w3.alloc (.cells #[.bool bit] 4)).heap.size=w3.heap.size+1:=by simp
    have hb3:Below w3.heap.size w3 (w3.alloc (.cells #[.bool bit] 4)):=(Below.refl _ _).alloc (Nat.le_refl _) _;have hws:=HG3.out.size
    have ob:BlAt w6 v6 (nextB T p (q+1)):=by
     rw [HSN.out];unfold BlAt;rw [List.length_append,hnl,Bit.cellsB_append];exact o6
    refine ⟨ob,?_,?_,?_,?_⟩
    ·exact rf_row (HRF3.out.below hb3) g6 hbw HVW.out HF.out
    ·exact grown_row (rgrown_trans HG3.out ⟨hb3.os,hb3.tape,hb3.output,hb3.size,fun i hi _=>hb3.block i hi⟩) g6 HF.out
    ·exact HF.out.near n6 (by omega)
    ·obtain ⟨a',c',e,_⟩:=ob.shape;rw [e,nextB_length T p (q+1) (by omega)];rfl
   have hq6:q+1≤m:=by omega
   clear HSN HRF3 HG3 HF;rcases (show bit=true∨bit=false by cases bit <;> simp) with rfl | rfl
   all_goals (
    go_wp2_with (at_builtin;refine wpList_append_near _ rfl _ _ 58 rfl 4 t0 (.bool false) 1 1 Tryz.underlying58 hi0 hz0 hz1 hz2 rfl (by decide) (.slice ua q uc) q (cellsB (nextB T p q)) rfl (row_own (HBL3.out.alloc _) hnl) ⟨w3.heap.size,0,none⟩ 1 1 [.bool _] rfl rfl (cell_one_new _ _ _) (by intro u hu;simp at hu;subst hu;rfl) (by unfold maxLen;omega) (by omega) ?_;intro v6 w6 o6 g6 n6;have H6:=hid (FIN.out v6 w6 o6 g6 n6);clear o6 g6 n6)
    refine ⟨⟨q+1,hq6,H6.out⟩,?_⟩;rw [H6.out.2.2.2.2];show m-(q+1)<m-q
    omega)
  ·obtain rfl:q=m:=by omega
   have hE:w2.cell? ⟨b,2,none⟩=some (.int .i64 0):=HRF2.out.cells.2.2.1;rcases HST.out with ⟨s1,s2,s3,s4⟩ | ⟨s1,s2,s3⟩ | ⟨sy,s1,s2⟩
   ·simp at s4
   ·simp at s3
   ·simp only [Prod.mk.injEq] at s2;obtain ⟨rfl,_,rfl,_⟩:=s2;rw [s1];have hge:(0:Int)≤(s:Int):=by omega
    have hge2:decide ((0:Int)≤(s:Int))=true:=by simp
    go_wp2_with fail
    go_ret2;exact ⟨rfl,HRF2.out,HG2.out⟩
end Go.Proofs.YthbjllabgpaaaaaGreat.Def
namespace Go.Proofs.YthbjllabgpaaaaaGreat.Def
open Go.Lib (hid)
set_option maxHeartbeats 8000000
open Go.Proofs.YthbjllabgpaaaaaGreat.Huf (nxG codeV used fine fine_parts nats nats_le allIn allIn_iff)
open Go.Proofs.YthbjllabgpaaaaaGreat.Bit (rV rI rOk num num_bitsOf bitsOf bitsOf_length cnt)
open Go.Proofs.YthbjllabgpaaaaaGreat.Sym
set_option linter.unusedVariables false
set_option maxRecDepth 100000
def ordL:List Nat:=[16,17,18,0,8,7,9,6,10,5,11,4,12,3,13,2,14,1,15]
def ordF (i:Nat):Nat:=ordL.getD i 0
theorem ordF_lt:∀i,ordF i<19:=by
 intro i;rcases Nat.lt_or_ge i 19 with h | h
 ·exact (by decide:∀i:Fin 19,ordF i.1<19) ⟨i,h⟩
 ·unfold ordF;rw [List.getD_eq_getElem?_getD,List.getElem?_eq_none (by exact h)]
  decide
theorem ordF_onto {s:Nat} (hs:s<19):∃i,i<19∧ordF i=s:=by
 obtain ⟨i,h⟩:=(by decide:∀s:Fin 19,∃i:Fin 19,ordF i.1=s.1) ⟨s,hs⟩
 exact ⟨i.1,i.2,h⟩
def xb (s:Nat):Nat:=if s<16 then 0 else if s=16 then 2 else if s=17 then 3 else 7
def times (s x:Nat):Nat:=if s<16 then 1 else if s<18 then 3+x else 11+x
def lastN (l:List Nat):Nat:=l.getD (l.length-1) 0
def valN (l:List Nat) (s:Nat):Nat:=if s<16 then s else if s=16 then lastN l else 0
def grow (l:List Nat) (y:Nat×Nat):List Nat:=l++List.replicate (times y.1 y.2) (valN l y.1)
def okY (l:List Nat) (y:Nat×Nat):Prop:=y.1<19∧y.2<2^xb y.1∧(y.1=16→l≠[])
def yB (O:List Nat) (y:Nat×Nat):List Bool:=cd O y.1++bitsOf (xb y.1) (y.2:Int)
theorem times_pos (s x:Nat):1≤times s x:=by
 unfold times;split;· omega
 split <;> omega
theorem grow_length (l:List Nat) (y:Nat×Nat):(grow l y).length=l.length+times y.1 y.2:=by simp [grow]
theorem grow_low (l:List Nat) (s x:Nat) (h:s<16):grow l (s,x)=l++[s]:=by simp [grow,times,valN,h]
inductive Rows (O:List Nat):List Nat→List (Nat×Nat)→List Nat→Prop
 | done (l:List Nat):Rows O l [] l
 | more (l:List Nat) (y:Nat×Nat) (Y:List (Nat×Nat)) (l':List Nat):okY l y→O.getD y.1 0≠0→Rows O (grow l y) Y l'→Rows O l (y::Y) l'
theorem Rows.length {O l l':List Nat} {Y:List (Nat×Nat)} (h:Rows O l Y l'):l.length+Y.length≤l'.length:=by
 induction h with
 | done l=>simp
 | more l y Y l' _ _ _ ih=>
  rw [grow_length] at ih
  have:=times_pos y.1 y.2
  rw [List.length_cons];omega
theorem Rows.nil {O l l':List Nat} {Y:List (Nat×Nat)} (h:Rows O l Y l') (e:l.length=l'.length):Y=[]∧l=l':=by
 cases h with
 | done=>exact ⟨rfl,rfl⟩
 | more _ y Y _ h1 h2 h3=>
  have:=h3.length
  rw [grow_length] at this
  have:=times_pos y.1 y.2
  omega
theorem Rows.cons {O l l':List Nat} {Y:List (Nat×Nat)} (h:Rows O l Y l') (e:l.length<l'.length):∃s x Y',Y=(s,x)::Y'∧okY l (s,x)∧O.getD s 0≠0∧Rows O (grow l (s,x)) Y' l'∧l.length+times s x≤l'.length:=by
 cases h with
 | done=>omega
 | more _ y Y _ h1 h2 h3=>
  obtain ⟨s,x⟩:=y
  have:=h3.length
  rw [grow_length] at this;exact ⟨s,x,Y,rfl,h1,h2,h3,by simp only at this;omega⟩
theorem has_bits {T:List Bool} {p k A:Nat} (h:Has T p (bitsOf k (A:Int))) (hA:A<2^k):rOk T p false k=true∧rV T p false k=A∧rI T p false k=p+k:=by
 obtain ⟨k1,k2⟩:=h;rw [bitsOf_length] at k1 k2;have h1:rOk T p false k=true:=by unfold rOk;simp;omega
 have h2:num (bitsOf k (A:Int))=A:=by
  have:=num_bitsOf k (A:Int)
  have h3:((A:Int))%2^k=(A:Int):=Int.emod_eq_of_lt (by omega) (by exact_mod_cast hA)
  rw [h3] at this
  exact_mod_cast this
 refine ⟨h1,?_,?_⟩
 ·unfold rV;rw [if_pos h1,k2,h2]
 ·unfold rI;rw [if_pos h1]
def ordB (O:List Nat) (k:Nat):List Bool:=(List.range k).flatMap fun i=>bitsOf 3 ((O.getD (ordF i) 0:Nat):Int)
theorem ordB_succ (O:List Nat) (k:Nat):ordB O (k+1)=ordB O k++bitsOf 3 ((O.getD (ordF k) 0:Nat):Int):=by simp [ordB,List.range_succ]
theorem ordB_length (O:List Nat) (k:Nat):(ordB O k).length=3*k:=by
 induction k with
 | zero=>rfl
 | succ k ih=>rw [ordB_succ,List.length_append,ih,bitsOf_length];omega
theorem ordB_split (O:List Nat) (i k:Nat) (h:i<k):∃r,ordB O k=(ordB O i++bitsOf 3 ((O.getD (ordF i) 0:Nat):Int))++r:=by
 induction k with
 | zero=>omega
 | succ k ih=>
  rcases Nat.lt_or_ge i k with h1 | h1
  ·obtain ⟨r,e⟩:=ih h1;exact ⟨r++bitsOf 3 ((O.getD (ordF k) 0:Nat):Int),by rw [ordB_succ,e,List.append_assoc]⟩
  ·obtain rfl:i=k:=by omega
   exact ⟨[],by rw [ordB_succ,List.append_nil]⟩
theorem ordB_at {O:List Nat} {T:List Bool} {p i k:Nat} (h:i<k) (hT:Has T p (ordB O k)):Has T (p+3*i) (bitsOf 3 ((O.getD (ordF i) 0:Nat):Int)):=by
 obtain ⟨r,e⟩:=ordB_split O i k h;rw [e] at hT
 have:=hT.left.right
 rw [ordB_length] at this;exact this
structure IsHdr (L M:List Nat) (k:Nat) (O:List Nat) (Y:List (Nat×Nat)):Prop where
 lits:257≤L.length∧L.length≤286
 dists:1≤M.length∧M.length≤30
 many:4≤k∧k≤19
 own:O.length=19
 most:∀x∈O,x≤7
 rest:∀i,k≤i→i<19→O.getD (ordF i) 0=0
 room:used O 15≤32768
 rows:Rows O [] Y (L++M)
def hdrB (L M:List Nat) (k:Nat) (O:List Nat) (Y:List (Nat×Nat)):List Bool:=
 bitsOf 5 ((L.length-257:Nat):Int)++(bitsOf 5 ((M.length-1:Nat):Int)++(bitsOf 4 ((k-4:Nat):Int)++(ordB O k++Y.flatMap (yB O))))
theorem hdrB_length (L M:List Nat) (k:Nat) (O:List Nat) (Y:List (Nat×Nat)):(hdrB L M k O Y).length=14+3*k+(Y.flatMap (yB O)).length:=by
 unfold hdrB;simp only [List.length_append,bitsOf_length,ordB_length];omega
theorem ints_nats {l:List Nat}:nats (ints l)=l:=by
 unfold nats ints;rw [List.map_map]
 conv=>rhs;rw [←List.map_id l]
 exact List.map_congr_left fun x _=>by simp
theorem fine_ints {l:List Nat} (h1:l.length≤320) (h2:∀x∈l,x≤15) (h3:used l 15≤32768):fine (ints l)=true:=by
 unfold fine;rw [ints_nats,decide_eq_true h3,ints_length,decide_eq_true h1];simp only [Bool.true_and,Bool.and_true];rw [allIn_iff];intro x hx;obtain ⟨y,hy,rfl⟩:=List.mem_map.1 hx
 have:=h2 y hy
 omega
end Go.Proofs.YthbjllabgpaaaaaGreat.Def
namespace Go.Proofs.YthbjllabgpaaaaaGreat.Def
open Go.Lib (hid)
set_option maxHeartbeats 8000000
open Go.ChangeShapes Go.WideShapes Go.ChangeAt Go.RowKit
open Go.Proofs.YthbjllabgpaaaaaGreat.Sym
set_option linter.unusedVariables false
set_option maxRecDepth 100000
theorem refOrder_any (w:World) :
  Calls Tryz.prog 82 #[] w fun e w'=>∃a,e=.returned (.slice (some ⟨a,0,none⟩) 19 19)∧AtN w' a 19 ordF∧Below w.heap.size w w'∧w.heap.size≤a:=by
 go_enter Tryz.func82,Tryz.ntmps82
 go_wp2
 go_ret;exact ⟨_,rfl,heap_alloc_new w _,(Below.refl w.heap.size w).alloc (Nat.le_refl _) _,Nat.le_refl _⟩
def ownF (O:List Nat) (k:Nat) (s:Nat):Nat:=if (ordL.take k).contains s=true then O.getD s 0 else 0
theorem ownF_zero (O:List Nat) (s:Nat):ownF O 0 s=0:=by simp [ownF]
theorem ordL_get {k:Nat} (h:k<19):ordL.take (k+1)=ordL.take k++[ordF k]:=by
 rw [List.take_succ_eq_append_getElem (by exact h)]
 unfold ordF;rw [List.getD_eq_getElem?_getD,List.getElem?_eq_getElem (by exact h)]
 rfl
theorem ownF_succ (O:List Nat) {k:Nat} (h:k<19) (s:Nat):(if s=ordF k then O.getD (ordF k) 0 else ownF O k s)=ownF O (k+1) s:=by
 unfold ownF;rw [ordL_get h];simp only [List.contains_eq_mem,List.mem_append,List.mem_singleton,decide_eq_true_eq]
 by_cases h1:s=ordF k
 ·simp [h1]
 ·simp [h1]
theorem ownF_all {O:List Nat} {k:Nat} (hk:k≤19) (h:∀i,k≤i→i<19→O.getD (ordF i) 0=0) (s:Nat) (hs:s<19):ownF O k s=O.getD s 0:=by
 unfold ownF
 by_cases h1:(ordL.take k).contains s=true
 ·rw [if_pos h1]
 ·rw [if_neg h1];obtain ⟨i,hi,rfl⟩:=ordF_onto hs;rcases Nat.lt_or_ge i k with h2 | h2
  ·exfalso
   apply h1
   rw [List.contains_eq_mem,decide_eq_true_eq,List.mem_take_iff_getElem];refine ⟨i,?_,?_⟩
   ·exact Nat.lt_min.2 ⟨h2,hi⟩
   ·unfold ordF;rw [List.getD_eq_getElem?_getD,List.getElem?_eq_getElem (by exact hi)]
    rfl
  ·exact (h i h2 hi).symm
theorem own_list {O:List Nat} (h:O.length=19):(List.range 19).map (fun s=>O.getD s 0)=O:=by
 apply List.ext_getElem
 ·simp [h]
 ·intro i h1 h2;simp [List.getD_eq_getElem?_getD,h2]
end Go.Proofs.YthbjllabgpaaaaaGreat.Def
namespace Go.Proofs.YthbjllabgpaaaaaGreat.Def
open Go.Lib (hid)
set_option maxHeartbeats 8000000
open Go.ChangeShapes Go.WideShapes Go.ChangeAt Go.RowKit
open Go.Proofs.YthbjllabgpaaaaaGreat.Huf (IsInts cellsN cellsN_length cellsN_append)
open Go.Proofs.YthbjllabgpaaaaaGreat.Bit (BlAt From Near RfAt rfbits_any rV rI rOk bitsOf bitsOf_length lenOf rgrown_trans rgrown_set row_ne cnt cnt_nat)
open Go.Proofs.YthbjllabgpaaaaaGreat.Sym
set_option linter.unusedVariables false
set_option maxRecDepth 100000
set_option linter.unusedSimpArgs false
theorem bits_here {k:Nat} (hk:k≤32) {b p A:Nat} {v:Value} {T:List Bool} {w:World} (hr:RfAt w b v T p false) (hT:T.length≤8000000) (h:Has T p (bitsOf k (A:Int))) (hA:A<2^k) :
  Calls Tryz.prog 52 #[.pointer (some ⟨b,0,none⟩),.int .i64 (k:Int)] w fun r w'=>r=.returned (.int .i64 (A:Int))∧RfAt w' b v T (p+k) false∧w.grownBy w' (some b):=by
 have hp:p≤T.length:=by have:=h.1;omega
 obtain ⟨h1,h2,h3⟩:=has_bits h hA
 have:=rfbits_any b v T p false (k:Int) w hr hp (by omega)
 rw [cnt_nat k hk,h1,h2,h3] at this;exact this
theorem rf_other {w:World} {b g j p:Nat} {v x:Value} {T:List Bool} {e:Bool} (h:RfAt w b v T p e) (hb:b≠g) (hv:v.ownBlock≠some g):RfAt (w.setCell ⟨g,j,none⟩ x) b v T p e:=
 ⟨by rw [heap_setCell_other w ⟨g,j,none⟩ b x (fun e=>hb e)];exact h.blk,h.row.block fun k hk=>heap_setCell_other w ⟨g,j,none⟩ k x (fun e=>hv (by rw [hk,e]))⟩
theorem set_grown {w wr:World} {b g j:Nat} {x:Value} (h:w.grownBy wr (some b)) (hg:w.heap.size≤g):w.grownBy (wr.setCell ⟨g,j,none⟩ x) (some b):=by
 have G:=rgrown_set wr g j x;exact ⟨G.os.trans h.os,G.tape.trans h.tape,G.output.trans h.output,Nat.le_trans h.size G.size,fun i hi hr=>(G.block i (Nat.lt_of_lt_of_le hi h.size) (by simp;omega)).trans (h.block i hi hr)⟩
theorem below_grown {w wr:World} {b:Nat} (h:Below w.heap.size w wr):w.grownBy wr (some b):=⟨h.os,h.tape,h.output,h.size,fun i hi _=>h.block i hi⟩
theorem atn_call {w w':World} {b g n:Nat} {f:Nat→Nat} (h:AtN w g n f) (hg:w.grownBy w' (some b)) (hb:g≠b):AtN w' g n f:=by
 unfold AtN;rw [hg.block g h.lt (by simp;omega)]
 exact h
structure St (w:World) (b c:Nat) (v:Value) (T:List Bool) (O:List Nat) (wr:World) (j:Nat) (u:Value) (l:List Nat):Prop where
 row:wr.ownsRow 0 3 1 u l.length (cellsN l)
 far:From w.heap.size u
 codes:CodesAt wr c 19 O
 apart:w.heap.size≤c∧b<w.heap.size∧∀k,v.ownBlock=some k→k<w.heap.size
 rd:RfAt wr b v T j false
 gr:w.grownBy wr (some b)
theorem codes_keep {wr w':World} {c n:Nat} {O:List Nat} (h:CodesAt wr c n O) (hk:w'.heap[c]?=wr.heap[c]?):CodesAt w' c n O:=rowK h fun j hj=>by cases hj;exact hk
theorem St.call {w wr w':World} {b c j j':Nat} {v u:Value} {T:List Bool} {O l:List Nat} (h:St w b c v T O wr j u l) (hr:RfAt w' b v T j' false) (hg:wr.grownBy w' (some b)):St w b c v T O w' j' u l:=by
 obtain ⟨a1,a2,a3⟩:=h.apart;refine ⟨rowK h.row fun k hk=>hg.block k (World.ownsRow.lt h.row k hk).2 (fun e=>?_),h.far,codes_keep h.codes (hg.block c h.codes.lt (by simp;omega)),h.apart,hr,rgrown_trans h.gr hg⟩
 have:=h.far k hk
 cases e
 omega
theorem St.below {w wr w':World} {b c j:Nat} {v u:Value} {T:List Bool} {O l:List Nat} (h:St w b c v T O wr j u l) (k:Below wr.heap.size wr w'):St w b c v T O w' j u l:=
 h.call (h.rd.below k) (below_grown k)
theorem St.form {w wr:World} {b c j:Nat} {v u:Value} {T:List Bool} {O l:List Nat} (h:St w b c v T O wr j u l):∃a cap,u=.slice a l.length cap:=by
 rcases h.row.2 with ⟨rfl,h1⟩ | ⟨g,cap,cur,rfl,_⟩
 ·exact ⟨none,0,by rw [h1]⟩
 ·exact ⟨_,_,rfl⟩
theorem St.at {w wr:World} {b c j n cap:Nat} {a:Option Addr} {v:Value} {T:List Bool} {O l:List Nat} (h:St w b c v T O wr j (.slice a n cap) l) (hn:l.length=n) (h0:0<n):∃g,a=some ⟨g,0,none⟩∧g<wr.heap.size∧n≤cap∧∀i,i<n→wr.cell? ⟨g,i,none⟩=some (.int .i64 (l.getD i 0:Nat)):=by
 obtain ⟨g,cp,e,hi⟩:=row_ints h.row rfl (by omega)
 simp only [Value.slice.injEq] at e;obtain ⟨rfl,e2,rfl⟩:=e;obtain ⟨g',off,e3,hg,hc⟩:=Go.Proofs.YthbjllabgpaaaaaGreat.Sym.ints_at hi hn h0;simp only [Option.some.injEq,Addr.mk.injEq] at e3;obtain ⟨rfl,rfl,_⟩:=e3;refine ⟨g,rfl,hg,?_,fun i hi=>by have:=hc i hi;rwa [Nat.zero_add] at this⟩
 rcases h.row.2 with ⟨e4,h1⟩ | ⟨g4,cap4,cur,e4,_,_,h2,_⟩
 ·cases e4
 ·simp only [Value.slice.injEq] at e4;obtain ⟨_,_,rfl⟩:=e4;omega
theorem St.app {w wr w1:World} {b c j x:Nat} {v u u':Value} {T:List Bool} {O l:List Nat} {cs:Array Value} {ty:TypeId} (h:St w b c v T O wr j u l)
  (ho:w1.ownsRow 0 3 1 u' (l.length+1) (cellsN l++[.int .i64 (x:Nat)])) (hg:(wr.alloc (.cells cs ty)).grownBy w1 u.ownBlock) (hn:Near (wr.alloc (.cells cs ty)) u u') :
  St w b c v T O w1 j u' (l++[x]):=by
 obtain ⟨a1,a2,a3⟩:=h.apart;have hb:Below wr.heap.size wr (wr.alloc (.cells cs ty)):=(Below.refl _ _).alloc (Nat.le_refl _) _;have h2:=h.below hb;have hs:=h.gr.size
 have hcu:u.ownBlock≠some c:=by
  obtain ⟨_,k2⟩:=h2.codes;rcases k2 with ⟨e1,_⟩ | ⟨g',cap,cur,e1,_,h3,_⟩
  ·cases e1
  ·cases e1
   exact row_ne h2.row h3 (by decide)
 exact ⟨by rw [List.length_append,cellsN_append];exact ho,h.far.near (Bit.Near.alloc hn) hs,codes_keep h2.codes (hg.block c h2.codes.lt (fun e=>hcu e.symm)),h.apart,rf_row h2.rd hg a2 a3 h.far,grown_row h2.gr hg h.far⟩
theorem run_low (W:World) (gl t cap n:Nat) (h:n≤cap) :
  (Instr.slice 92 (.slice (some ⟨gl,0,none⟩) t cap) none (some (.int .i64 (n:Int))) none).run Tryz.prog W=.ok (.slice (some ⟨gl,0,none⟩) n cap) W:=by
 have h1:(n:Int)≤cap:=by omega
 have hb:=run_sliceBound (P:=Tryz.prog) (w:=W) .i64 (n:Int) cap .sliceAcap (by omega) h1
 by_cases h0:cap=0
 ·obtain rfl:n=0:=by omega
  simp [Instr.slice,run_underlying Tryz.underlying92,Instr.sliceBounds,run_sliceBound,h0]
 ·have h2:¬(0=cap):=fun e=>h0 e.symm
  simp [Instr.slice,run_underlying Tryz.underlying92,Instr.sliceBounds,run_sliceBound,h1,hb,Addr.add,h0]
theorem run_high (W:World) (gl t cap n:Nat) (h:n≤t) (h3:t≤cap) (h4:n<cap) :
  (Instr.slice 92 (.slice (some ⟨gl,0,none⟩) t cap) (some (.int .i64 (n:Int))) none none).run Tryz.prog W=.ok (.slice (some ⟨gl,n,none⟩) (t-n) (cap-n)) W:=by
 have h0:(n:Int)≤t:=by omega
 have hb:=run_sliceBound (P:=Tryz.prog) (w:=W) .i64 (n:Int) t .sliceB (by omega) h0
 have h5:¬(cap=n):=by omega
 simp [Instr.slice,run_underlying Tryz.underlying92,Instr.sliceBounds,run_sliceBound,h0,hb,Addr.add,h5];exact fun e=>e.symm
end Go.Proofs.YthbjllabgpaaaaaGreat.Def
namespace Go.Proofs.YthbjllabgpaaaaaGreat.Def
open Go.Lib (hid)
set_option maxHeartbeats 8000000
open Go.ChangeShapes Go.WideShapes Go.ChangeAt Go.RowKit
open Go.Proofs.YthbjllabgpaaaaaGreat.Bit (RfAt rfbytes_any yOk yS yI tb tb_length tbits tbits_append tbits_length pack pack_tbits pack_cut bitsOf bitsOf_length bitsOf_add bitsOf_num num num_bitsOf rgrown_trans rgrown_drewN gap)
open Go.Proofs.YthbjllabgpaaaaaGreat.Sym
set_option linter.unusedVariables false
set_option maxRecDepth 100000
theorem xor_full (n:Nat) (h:n≤65535):n ^^^ (65535-n)=65535:=by
 apply Nat.eq_of_testBit_eq
 intro i;have e:65535-n=2^16-(n+1):=by omega
 have e2:(65535:Nat)=2^16-(0+1):=by decide
 rw [Nat.testBit_xor,e,Nat.testBit_two_pow_sub_succ (by omega),e2,Nat.testBit_two_pow_sub_succ (by omega),Nat.zero_testBit]
 by_cases hi:i<16
 ·simp [hi]
 ·have hl:n.testBit i=false:=Nat.testBit_lt_two_pow (Nat.lt_of_lt_of_le (by omega:n<2^16) (Nat.pow_le_pow_right (by omega) (by omega)))
  simp [hi,hl]
theorem i64_full (n:Nat) (h:n≤65535):bits .xor .i64 (n:Int) ((65535-n:Nat):Int)=65535:=by
 have of:∀(k m:Nat),m<2^k→(BitVec.ofInt k (m:Int)).toNat=m:=fun k m h=>by rw [BitVec.ofInt_natCast,BitVec.toNat_ofNat,Nat.mod_eq_of_lt h]
 show IntKind.i64.wrap ((BitVec.ofInt 64 (n:Int) ^^^ BitVec.ofInt 64 ((65535-n:Nat):Int)).toNat:Int)=_;rw [BitVec.toNat_xor,of _ _ (by omega),of _ _ (by omega),xor_full n h]
 rfl
theorem bits8_mod (n:Nat):bitsOf 8 ((UInt8.ofNat n).toNat:Int)=bitsOf 8 (n:Int):=by
 have h:=bitsOf_num (bitsOf 8 (n:Int));rw [bitsOf_length] at h;have h2:=num_bitsOf 8 (n:Int)
 have h3:((UInt8.ofNat n).toNat:Int)=((num (bitsOf 8 (n:Int)):Nat):Int):=by
  rw [h2]
  simp
 rw [h3,h]
def two (n:Nat):List UInt8:=[UInt8.ofNat n,UInt8.ofNat (n/256)]
theorem bits16 (n:Nat):bitsOf 16 (n:Int)=tbits (two n):=by
 have e:bitsOf 16 (n:Int)=bitsOf 8 (n:Int)++bitsOf 8 ((n:Int)/2^8):=bitsOf_add 8 8 n;have e2:((n:Int)/2^8)=((n/256:Nat):Int):=by omega
 rw [e,e2,←bits8_mod n,←bits8_mod (n/256)];simp [two,tbits]
theorem bytes_here {t:ByteArray} {f:Nat} {l:List UInt8} (h:Has (tb t) (8*f) (tbits l)):f+l.length≤t.size∧t.extract f (f+l.length)=⟨l.toArray⟩:=by
 obtain ⟨h1,h2⟩:=h;rw [tb_length,tbits_length] at h1;refine ⟨by omega,?_⟩
 rw [←pack_cut,←tbits_length l,h2,pack_tbits]
def plB (s:List UInt8):List Bool:=bitsOf 16 (s.length:Int)++(bitsOf 16 ((65535-s.length:Nat):Int)++tbits s)
theorem plB_length (s:List UInt8):(plB s).length=32+8*s.length:=by
 unfold plB;simp only [List.length_append,bitsOf_length,tbits_length];omega
theorem wrap_pair (a b:UInt8):wrap64 (wrap64 (a.toNat:Int)+wrap64 (256*wrap64 (b.toNat:Int)))=(a.toNat:Int)+256*(b.toNat:Int):=by
 have h1:=a.toNat_lt;have h2:=b.toNat_lt;rw [IntWalk.wrap64_in (a.toNat:Int) (by omega),IntWalk.wrap64_in (b.toNat:Int) (by omega),IntWalk.wrap64_in (256*(b.toNat:Int)) (by omega)]
 exact IntWalk.wrap64_in _ (by omega)
theorem refPlain_any (b i f:Nat) (most:Int) (v:Value) (t s:ByteArray) (w:World) (hr:RfAt w b v (tb t) i false) (ht:t.size≤100000) (hn:s.size≤65535) (hm:(s.size:Int)≤most) (hf:(i+7)/8=f) (h:Has (tb t) (8*f) (plB s.data.toList)) :
  Calls Tryz.prog 53 #[.pointer (some ⟨b,0,none⟩),.int .i64 most] w fun r w'=>r=.returned (.tuple #[.string s,.int .i64 0])∧RfAt w' b v (tb t) (8*f+(plB s.data.toList).length) false∧w.grownBy w' (some b):=by
 obtain ⟨n,hsz⟩:∃n,s.size=n:=⟨_,rfl⟩;have hsl:s.data.toList.length=n:=by rw [←hsz];simp
 have hle:=h.1;rw [plB_length,tb_length,hsl] at hle;rw [plB_length,hsl];unfold plB at h;rw [hsl,bits16,bits16,←tbits_append,←tbits_append,←List.append_assoc] at h;have h4:Has (tb t) (8*f) (tbits (two n++two (65535-n))):=by rw [tbits_append] at h;exact h.left
 have h5:Has (tb t) (8*(f+4)) (tbits s.data.toList):=by
  rw [tbits_append] at h
  have:=h.right
  rw [tbits_length] at this;exact this
 obtain ⟨_,e4⟩:=bytes_here h4;obtain ⟨_,e5⟩:=bytes_here h5;rw [hsl] at e5;have k1:yOk (tb t) i false 4=true:=by unfold yOk;rw [tb_length];simp;omega
 have k2:yS t i false 4=⟨#[UInt8.ofNat n,UInt8.ofNat (n/256),UInt8.ofNat (65535-n),UInt8.ofNat ((65535-n)/256)]⟩:=by unfold yS;rw [if_pos k1,hf];exact e4
 have k3:yI (tb t) i false 4=8*(f+4):=by unfold yI;rw [if_pos k1,hf];rfl
 have hfn:(8*(f+4)+7)/8=f+4:=by omega
 have k4:yOk (tb t) (8*(f+4)) false (n:Int)=true:=by unfold yOk;rw [tb_length];simp;omega
 have k5:yS t (8*(f+4)) false (n:Int)=s:=by
  unfold yS;rw [if_pos k4,hfn,show (n:Int).toNat=n by omega,e5]
 have k6:yI (tb t) (8*(f+4)) false (n:Int)=8*f+(32+8*n):=by unfold yI;rw [if_pos k4,hfn,show (n:Int).toNat=n by omega];omega
 have hi:i≤(tb t).length:=by rw [tb_length];omega
 have C1:=hid (rfbytes_any b v t i false 4 w hr hi ht);rw [k1,k2,k3] at C1;have HT:=hid (And.intro ht (show 8*(f+4)≤(tb t).length by rw [tb_length];omega))
 have K:=hid (And.intro k4 (And.intro k5 k6));obtain ⟨m,hm0⟩:∃m,65535-n=m:=⟨_,rfl⟩;have hx:=i64_full n (by omega)
 rw [hm0] at C1 hx;have c0:(UInt8.ofNat n).toNat+256*(UInt8.ofNat (n/256)).toNat=n:=by simp;omega
 have c2:(UInt8.ofNat m).toNat+256*(UInt8.ofNat (m/256)).toNat=m:=by simp;omega
 generalize UInt8.ofNat n=x0 at *;generalize UInt8.ofNat (n/256)=x1 at *;generalize UInt8.ofNat m=x2 at *;generalize UInt8.ofNat (m/256)=x3 at *;have y0:(x0.toNat:Int)+256*(x1.toNat:Int)=(n:Int):=by omega
 have y2:(x2.toNat:Int)+256*(x3.toNat:Int)=(m:Int):=by omega
 have y4:(n:Int)+(m:Int)=65535:=by omega
 have y5:¬(most<(n:Int)):=by omega
 have b0:=x0.toNat_lt;have b1:=x1.toNat_lt;have b2:=x2.toNat_lt;have b3:=x3.toNat_lt;have bn:(n:Int)≤65535:=by omega
 have bm:(m:Int)≤65535:=by omega
 clear hr h h4 h5 e4 e5 k1 k2 k3 k4 k5 k6 hi hle hsz hsl hm hfn hf hm0 c0 c2 ht hn
 go_enter Tryz.func53,Tryz.ntmps53
 go_wp2_with fail
 refine C1.out.mono ?_;rintro r w1 ⟨rfl,r1,g1⟩;have HR:=hid r1;have HG:=hid g1;have z1:w1.cell? ⟨b,2,none⟩=some (.int .i64 0):=r1.cells.2.2.1;clear r1 g1 C1
 go_wp2_with fail
 go_quiet (fail)
 have g0:(⟨#[x0,x1,x2,x3]⟩:ByteArray)[0]'(by show 0<4;decide)=x0:=rfl
 have g1:(⟨#[x0,x1,x2,x3]⟩:ByteArray)[1]'(by show 1<4;decide)=x1:=rfl
 have g2:(⟨#[x0,x1,x2,x3]⟩:ByteArray)[2]'(by show 2<4;decide)=x2:=rfl
 have g3:(⟨#[x0,x1,x2,x3]⟩:ByteArray)[3]'(by show 3<4;decide)=x3:=rfl
 rw [g0,g1,wrap_pair x0 x1,y0];have z2:(w1.drewN nq).cell? ⟨b,2,none⟩=some (.int .i64 0):=z1;have HR2:=hid (HR.out.draws nq);have HG2:=hid (rgrown_drewN HG.out nq);clear z1 HR HG;generalize w1.drewN nq=w2 at *
 go_wp2_with fail
 go_quiet (fail)
 have HR3:=hid (HR2.out.draws nq);have HG3:=hid (rgrown_drewN HG2.out nq);clear z2 HR2 HG2;generalize w2.drewN nq=w3 at *
 go_wp2_with fail
 refine (rfbytes_any b v t (8*(f+4)) false (n:Int) w3 HR3.out HT.out.2 HT.out.1).mono ?_;rintro r w4 ⟨rfl,r4,g4⟩;rw [K.out.1,K.out.2.2] at r4;rw [K.out.2.1];have z4:w4.cell? ⟨b,2,none⟩=some (.int .i64 0):=r4.cells.2.2.1;have HR4:=hid r4;have HG4:=hid (rgrown_trans HG3.out g4);clear r4 g4 HR3 HG3
 go_wp2_with fail
 go_quiet (fail)
 go_wp2_with fail
 go_ret2;exact ⟨rfl,HR4.out.draws nq,rgrown_drewN HG4.out nq⟩
end Go.Proofs.YthbjllabgpaaaaaGreat.Def
namespace Go.Proofs.YthbjllabgpaaaaaGreat.Def
open Go.Lib (hid)
set_option maxHeartbeats 8000000
open Go.Proofs.YthbjllabgpaaaaaGreat.Huf (nxG codeV used fine fine_parts nats nats_le allIn allIn_iff)
open Go.Proofs.YthbjllabgpaaaaaGreat.Bit (rV rI rOk num num_bitsOf bitsOf bitsOf_length cnt cnt_nat codeBits codeBits_length tb tb_length tbits)
open Go.Proofs.YthbjllabgpaaaaaGreat.Lz (Tok okT okT_byte okT_piece wide run stepT errT run_pre expL expE exp_cases tailL cp_length)
open Go.Proofs.YthbjllabgpaaaaaGreat.Sym
set_option linter.unusedVariables false
set_option maxRecDepth 100000
def sumT (l:List Tok):Nat:=(l.map wide).sum
theorem sumT_cons (t:Tok) (l:List Tok):sumT (t::l)=wide t+sumT l:=by simp [sumT]
theorem run_sum:∀(l:List Tok) (all:List UInt8),(run all l).2=0→(run all l).1.length=all.length+sumT l:=by
 intro l
 induction l with
 | nil=>intro all _;simp [run,sumT]
 | cons t l ih=>
  intro all h;unfold run at h ⊢
  by_cases h0:errT all.length t=0
  ·rw [if_pos h0] at h ⊢;rw [ih _ h,sumT_cons]
   have hv:okT t=true:=by
    unfold errT at h0
    by_cases h1:okT t=true
    ·exact h1
    ·rw [if_neg h1] at h0;simp at h0
   unfold Go.Proofs.YthbjllabgpaaaaaGreat.Lz.stepT Go.Proofs.YthbjllabgpaaaaaGreat.Lz.wide
   by_cases h1:t.L=0
   ·rw [if_pos h1,List.length_append,h1];simp;omega
   ·rw [if_neg h1,cp_length]
    have:=okT_piece hv h1
    omega
  ·rw [if_neg h0] at h;exact absurd h h0
theorem exp_sum {win:List UInt8} {l:List Tok} (h:expE win l=0):(expL win l).length=sumT l:=by
 rcases exp_cases win l with ⟨h1,_⟩ | ⟨_,h1,_⟩
 ·exact absurd h h1
 ·have:=run_sum l (tailL win) (by rw [h1])
  rw [h1,List.length_append] at this;omega
theorem read_most {N M:List Nat} {T:List Bool} (n15:∀x∈N,x≤15) (nU:used N 15≤32768) (m15:∀x∈M,x≤15) (mU:used M 15≤32768) (he:N.getD 256 0≠0) (most:Int):∀(l:List Tok) (f i made:Nat) (acc:List Tok),
  (∀t∈l,okT t=true∧N.getD (litN t) 0≠0∧(t.L≠0→M.getD (di t.D.toNat) 0≠0))→Has T i (toksW N M l++cd N 256)→l.length<f→((made+sumT l:Nat):Int)≤most →
  readG N M T most f i made acc=(acc++l,0,i+(toksW N M l++cd N 256).length,false):=by
 intro l
 induction l with
 | nil=>
  intro f i made acc _ h hf _;obtain ⟨f,rfl⟩:∃f',f=f'+1:=⟨f-1,by simp at hf;omega⟩
  have e0:toksW N M []=[]:=rfl;rw [e0,List.nil_append] at h ⊢;rw [readG_end (nx_at n15 nU he h).1,List.append_nil]
 | cons t l ih=>
  intro f i made acc hall h hf hm;rw [List.length_cons] at hf;rw [sumT_cons] at hm;unfold wide at hm;obtain ⟨f,rfl⟩:∃f',f=f'+1:=⟨f-1,by omega⟩
  obtain ⟨hv,hN,hM⟩:=hall t (List.mem_cons_self);have ew:toksW N M (t::l)=tokW N M t++toksW N M l:=by simp [toksW]
  rw [ew,List.append_assoc] at h ⊢;obtain ⟨q,e1,e2,e3,_⟩:=tok_at n15 nU m15 mU hv hN hM h.left;rw [readG_next e1 e2 e3 (by omega),ih f _ _ _ (fun u hu=>hall u (List.mem_cons_of_mem _ hu)) h.right (by omega) (by omega)]
  have e9:i+(tokW N M t).length+(toksW N M l++cd N 256).length=i+(tokW N M t++(toksW N M l++cd N 256)).length:=by simp only [List.length_append];omega
  rw [e9,List.append_assoc]
  rfl
def Fit (N M:List Nat) (l:List Tok):Prop:=l.all okT=true∧cvB (ints N) (litC l) 286=true∧cvB (ints M) (dstC l) 30=true
theorem read_here {N M:List Nat} {l:List Tok} (h:Fit N M l) {T:List Bool} {i:Nat} (hh:Has T i (wrBits N M l)) (most:Int) (hm:((sumT l:Nat):Int)≤most) :
  rdG (ints N) (ints M) T i most=(l,0,i+(wrBits N M l).length,false):=by
 obtain ⟨hv,hL,hM⟩:=h;unfold cvB at hL hM;rw [Bool.and_eq_true] at hL hM;obtain ⟨f1,c1⟩:=hL;obtain ⟨f2,c2⟩:=hM;obtain ⟨_,g1,u1⟩:=fine_parts f1;obtain ⟨_,g2,u2⟩:=fine_parts f2;have g1':=nats_le g1;have g2':=nats_le g2;rw [ints_nats] at u1 c1 u2 c2 g1' g2'
 have hall:∀t∈l,okT t=true∧N.getD (litN t) 0≠0∧(t.L≠0→M.getD (di t.D.toNat) 0≠0):=fun t ht=>by
  have h1:=(List.all_eq_true.1 hv) t ht;exact ⟨h1,(covB_iff _ _ _).1 c1 _ (litN_lt h1) (lit_needs ht h1),fun h0=>(covB_iff _ _ _).1 c2 _ (di_lt h1 h0) (dst_needs ht h1 h0)⟩
 have he:=(covB_iff _ _ _).1 c1 256 (by decide) (end_needs l)
 have hlong:l.length≤(toksW N M l).length:=toks_long l fun t ht=>by
  obtain ⟨h1,h2,h3⟩:=hall t ht
  have hcd:∀s,N.getD s 0≠0→1≤(cd N s).length:=fun s h=>by
   unfold cd;rw [codeBits_length]
   have hx:N.getD s 0≤15:=by
    rcases Nat.lt_or_ge s N.length with h5 | h5
    ·rw [List.getD_eq_getElem?_getD,List.getElem?_eq_getElem h5];exact g1' _ (List.getElem_mem h5)
    ·rw [List.getD_eq_getElem?_getD,List.getElem?_eq_none h5];exact Nat.zero_le _
   rw [cnt_nat _ (by omega)];omega
  unfold tokW;unfold litN at h2
  split
  ·rename_i h0;rw [if_pos h0] at h2;exact hcd _ h2
  ·rename_i h0;rw [if_neg h0] at h2
   have:=hcd _ h2
   rw [List.length_append,List.length_append];omega
 have hl2:=hh.1;unfold rdG;rw [if_pos ⟨f1,f2⟩,ints_nats,ints_nats];have e:wrBits N M l=toksW N M l++cd N 256:=rfl;rw [e] at hh hl2 ⊢;rw [read_most g1' u1 g2' u2 he most l _ i 0 [] hall hh (by rw [List.length_append] at hl2;omega) (by rw [Nat.zero_add];exact hm)]
 rw [List.nil_append]
inductive Coded (T:List Bool) (p:Nat) (last:Bool):Nat→List Tok→Nat→Prop
 | fixed (l:List Tok):Fit fxL fxD l→Has T p ([last,true,false]++wrBits fxL fxD l)→Coded T p last 1 l (p+3+(wrBits fxL fxD l).length)
 | own (N M:List Nat) (k:Nat) (O:List Nat) (Y:List (Nat×Nat)) (l:List Tok):IsHdr N M k O Y→Fit N M l→Has T p ([last,false,true]++(hdrB N M k O Y++wrBits N M l)) →
   Coded T p last 2 l (p+3+(hdrB N M k O Y).length+(wrBits N M l).length)
inductive Blk (T:List Bool) (win:List UInt8) (p:Nat) (last:Bool):Nat→List UInt8→Nat→Prop
 | plain (s:List UInt8) (f:Nat):s.length≤65535→(p+10)/8=f→Has T p [last,false,false]→Has T (8*f) (plB s)→Blk T win p last 0 s (8*f+(plB s).length)
 | code (K:Nat) (l:List Tok) (q:Nat):Coded T p last K l q→expE win l=0→Blk T win p last K (expL win l) q
end Go.Proofs.YthbjllabgpaaaaaGreat.Def
namespace Go.Proofs.YthbjllabgpaaaaaGreat.Def
open Go.Lib (hid)
set_option maxHeartbeats 8000000
open Go.ChangeShapes Go.WideShapes Go.ChangeAt Go.RowKit
open Go.Proofs.YthbjllabgpaaaaaGreat.Bit (BlAt SeesV From Near tb tb_length tbits tbits_length pad fre bitsOf bitsOf_length cnt cnt_nat cellsB cellsB_length of_any all_any refAlign_any)
open Go.Proofs.YthbjllabgpaaaaaGreat.Sym
set_option linter.unusedVariables false
set_option maxRecDepth 100000
theorem pad_length (l:List Bool):(pad l).length=l.length+fre l:=by simp [pad]
def stOne (last:Bool) (l:List Bool) (s:List UInt8):List Bool:=pad (l++[last,false,false])++plB s
def stAll (last:Bool):Nat→List Bool→List UInt8→List Bool
 | 0,l,s=>stOne last l s
 | k+1,l,s=>stAll last k (stOne false l (s.take 65535)) (s.drop 65535)
def stB (last:Bool) (l:List Bool) (s:List UInt8):List Bool:=stAll last ((s.length-1)/65535) l s
theorem stB_last (last:Bool) (l:List Bool) (s:List UInt8) (h:s.length≤65535):stB last l s=stOne last l s:=by
 unfold stB;rw [show (s.length-1)/65535=0 by omega];rfl
theorem stB_more (last:Bool) (l:List Bool) (s:List UInt8) (h:65535<s.length):stB last l s=stB last (stOne false l (s.take 65535)) (s.drop 65535):=by
 unfold stB;rw [List.length_drop,show (s.length-1)/65535=(s.length-65535-1)/65535+1 by omega];rfl
theorem stOne_length (last:Bool) (l:List Bool) (s:List UInt8):(stOne last l s).length≤l.length+42+8*s.length:=by
 unfold stOne;rw [List.length_append,pad_length,plB_length,List.length_append];simp only [List.length_cons,List.length_nil];unfold fre;omega
end Go.Proofs.YthbjllabgpaaaaaGreat.Def
