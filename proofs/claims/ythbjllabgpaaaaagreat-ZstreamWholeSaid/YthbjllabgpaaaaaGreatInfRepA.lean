/-
  Texts in one: InfRep, InfBld.
-/
import Derived.Test.YthbjllabgpaaaaaGreatAllPack
import Derived.Test.YthbjllabgpaaaaaGreatAllHuf
import Derived.Lib.FrozenHead
namespace Go.Proofs.YthbjllabgpaaaaaGreat.Inf
open Go.Lib (hid)
set_option maxHeartbeats 2000000
open Go.ChangeShapes Go.WideShapes Go.ChangeAt Go.RowKit
open Go.Proofs.YthbjllabgpaaaaaGreat.Lz (mul_any info_int)
open Go.Proofs.YthbjllabgpaaaaaGreat.Huf (info_parts)
set_option linter.unusedVariables false
def fil (z:Int) (m n:Nat):List Value:=List.replicate n (.int .i64 z)++List.replicate (m-n) (.int .i64 0)
theorem fil_length (z:Int) (m n:Nat) (h:n≤m):(fil z m n).length=m:=by simp [fil];omega
theorem fil_get (z:Int) (m n j:Nat) (h:j<n):(fil z m n)[j]?=some (.int .i64 z):=by
 unfold fil;rw [List.getElem?_append_left (by simpa using h)]
 simp [h]
theorem fil_more (z:Int) (m n c:Nat) (h:n+c≤m):splice (fil z m n) n (List.replicate c (.int .i64 z))=fil z m (n+c):=by
 have e1:(fil z m n).take n=List.replicate n (.int .i64 z):=by
  unfold fil;rw [List.take_append];simp
 have e2:(fil z m n).drop (n+c)=List.replicate (m-(n+c)) (.int .i64 0):=by
  unfold fil;rw [List.drop_append];simp;omega
 unfold splice;rw [List.length_replicate,e1,e2,←List.append_assoc,List.replicate_append_replicate]
 rfl
theorem rep_one (c:Nat) (z:Value) (hz:z.oneCell'=true):∀v∈List.replicate c z,v.oneCell'=true:=fun v hv=>by
 rw [List.eq_of_mem_replicate hv];exact hz
theorem rep_src {z:Int} {w:World} {g o c:Nat} (h:∀j,j<c→w.cell? ⟨g,o+j,none⟩=some (.int .i64 z)):∀j v,(List.replicate c (Value.int .i64 z))[j]?=some v→w.cell? ((⟨g,o,none⟩:Addr).add j)=some v:=by
 intro j v hj;rw [List.getElem?_replicate] at hj
 by_cases hjc:j<c
 ·rw [if_pos hjc] at hj;rw [Go.WideShapes.add_plain,h j hjc];exact hj
 ·rw [if_neg hjc] at hj;cases hj
theorem run_copy_fil (z:Int) (W:World) (ty:TypeId) (B m n c dLen dCap sLen sCap:Nat) (a:Addr) (hB:W.heap[B]?=some (.cells (fil z m n).toArray 3 (0,0))) (hc:c=Nat.min sLen dLen) (hm:n+c≤m)
  (hsrc:∀j v,(List.replicate c (Value.int .i64 z))[j]?=some v→W.cell? (a.add j)=some v) :
  ∃W2,(Builtin.copy_ #[92,92] ty #[.slice (some ⟨B,n,none⟩) dLen dCap,.slice (some a) sLen sCap]).run Tryz.prog W=.ok (.int .i64 c) W2∧W2.heap[B]?=some (.cells (fil z m (n+c)).toArray 3 (0,0))∧W.grownBy W2 (some B):=by
 have h:=run_copy_row (P:=Tryz.prog) W 92 92 ty 3 B n dLen dCap a sLen sCap (fil z m n).toArray 3 (List.replicate c (.int .i64 z)) Tryz.underlying92 (by kernel_rfl) hB (by rw [List.length_replicate];exact hc) hsrc (by rw [List.length_replicate,List.size_toArray,fil_length _ _ _ (by omega)];exact hm) (rep_one _ _ rfl)
 have e:((fil z m n).toArray.toList.take n++List.replicate c (Value.int .i64 z)++(fil z m n).toArray.toList.drop (n+(List.replicate c (Value.int .i64 z)).length))=fil z m (n+c):=by
  rw [←fil_more z m n c hm];unfold splice;rw [List.append_assoc]
 rw [e,List.length_replicate] at h;refine ⟨_,h,setRow_heap W B _ _ _ _ hB,⟨rfl,rfl,rfl,by simp [World.setRow],fun k hk hne=>setRow_other W B k _ (fun e=>hne (by rw [e]))⟩⟩
set_option maxRecDepth 10000 in
theorem repeat_any (z:Int) (g0 o cc m:Nat) (w:World) (hc:w.cell? ⟨g0,o,none⟩=some (.int .i64 z)) (hg:g0<w.heap.size) (hm:m≤1000000) :
  Calls Tryz.prog 139 #[.slice (some ⟨g0,o,none⟩) 1 cc,.int .i64 m] w fun e w'=>e=.returned (.slice (some ⟨w.heap.size,0,none⟩) m m) ∧
   w'.heap[w.heap.size]?=some (.cells (fil z m m).toArray 3 (0,0))∧Below w.heap.size w w':=by
 have C1:=hid (mul_any m w hm);obtain ⟨i0,hi,hz0,hz1,hz2⟩:=info_parts info_int
 have hms:IntKind.u64.wrap (m:Int)=m:=by
  have e3:IntKind.u64.bits=64:=rfl;have e4:IntKind.u64.signed=false:=rfl;simp [IntKind.wrap,e3,e4];omega
 have hmk:(Instr.makeSlice 92 (.int .i64 m) (.int .i64 m)).run Tryz.prog w=.ok (.slice (some ⟨w.heap.size,0,none⟩) m m) (w.alloc (.cells (fil z m 0).toArray 3)):=by
  have:=run_make (P:=Tryz.prog) w 92 3 i0 (.int .i64 0) Tryz.underlying92 hi hz0 .i64 .i64 m m (by omega) (by omega) (by rw [hz2];omega) (by omega)
  rw [this,hz1]
  have e:(madeCells (Value.int .i64 0).cells (((m:Nat):Int).toNat*1))=(fil z m 0).toArray:=by
   apply Array.toList_inj.1
   rw [show (Value.int IntKind.i64 0).cells=#[Value.int .i64 0] from rfl,toList_madeCells_one]
   simp [fil]
  rw [e]
  simp
 obtain ⟨c,hcm⟩:∃c:Nat,c=Nat.min 1 m:=⟨_,rfl⟩
 have hc1:c≤1∧c≤m∧(c=0→m=0):=by
  rw [hcm];simp only [Nat.min_def];split <;> omega
 obtain ⟨A1,hA1⟩:∃A1,w.alloc (.cells (fil z m 0).toArray 3)=A1:=⟨_,rfl⟩;have hA2:A1.heap[w.heap.size]?=some (.cells (fil z m 0).toArray 3 (0,0)):=by rw [←hA1];exact heap_alloc_new _ _
 have hA3:Below w.heap.size w A1:=by rw [←hA1];exact (Below.refl _ _).alloc (Nat.le_refl _) _
 have hA4:A1.cell? ⟨g0,o,none⟩=some (.int .i64 z):=(hA3.cell (p:=⟨g0,o,none⟩) hg).trans hc
 obtain ⟨A2,hcp,hB2,hb2⟩:=run_copy_fil z A1 3 w.heap.size m 0 c m m 1 cc ⟨g0,o,none⟩ hA2 hcm (by omega) (rep_src fun j hj=>by
   obtain rfl:j=0:=by omega
   exact hA4)
 rw [Nat.zero_add] at hB2;have HB2:=hid hB2;have HBL:=hid (hA3.grown hb2 hA3.size (fun j hj=>by simp at hj;omega))
 rw [hA1] at hmk;have d8:decide ((m:Int)<0)=false:=decide_eq_false (by omega)
 have d9:decide ((9223372036854775807:Int)<(m:Int))=false:=decide_eq_false (by omega)
 clear hA1 hA2 hA3 hA4 hc hcm hB2 hb2
 go_enter Tryz.func139,Tryz.ntmps139
 go_wp2_with fail
 refine C1.out.mono ?_;rintro r w1 ⟨rfl,rfl⟩;clear C1
 go_wp2_with fail
 go_loopw [8] (fun i wr=>∃n:Nat,n≤m∧(n=0→m=0)∧i=.int .i64 n∧wr.heap[w.heap.size]?=some (.cells (fil z m n).toArray 3 (0,0))∧Below w.heap.size w wr) (fun i _=>m-(intOf i).toNat)
 case atStart=>exact ⟨c,hc1.2.1,hc1.2.2,rfl,HB2.out,HBL.out⟩
 case round=>
  obtain ⟨n,hn,hn0,rfl,hB,hb⟩:=hrel;clear HB2 HBL hcp hmk
  by_cases hlt:n<m
  ·have HB:=hid hB;have HL:=hid hb;clear hB hb;obtain ⟨d,hdm⟩:∃d:Nat,d=Nat.min n (m-n):=⟨_,rfl⟩
   have hd1:1≤d∧n+d≤m:=by
    rw [hdm];simp only [Nat.min_def];split <;> omega
   have hn2:(List.replicate d (Value.int .i64 z)).length=Nat.min n (m-n):=by rw [List.length_replicate];exact hdm
   have hdn:d≤n:=by rw [hdm];exact Nat.min_le_left _ _
   have hp2:∀W:World,Below wr.heap.size wr W→∀j v,(List.replicate d (Value.int .i64 z))[j]?=some v→W.cell? ((⟨w.heap.size,0,none⟩:Addr).add j)=some v:=fun W hW=>
    rep_src fun j hj=>by
     rw [Nat.zero_add];refine (hW.cell (p:=⟨w.heap.size,j,none⟩) (Array.getElem?_eq_some_iff.1 HB.out).1).trans ?_;rw [cell_of_row _ _ _ _ _ _ HB.out,List.getElem?_toArray,fil_get _ _ _ _ (by omega)]
   have hf2:n+(List.replicate d (Value.int .i64 z)).length≤(fil z m n).length:=by rw [List.length_replicate,fil_length _ _ _ hn];omega
   have HN2:=hid hn2;have HP2:=hid (hp2 wr.drew (Below.refl _ wr).drew);have HF2:=hid hf2;have HM2:=hid (fil_more z m n d hd1.2);have HL2:Hid (goInt (List.replicate d (Value.int .i64 z)).length=.int .i64 d):=hid (by rw [List.length_replicate];rfl)
   clear hn2 hp2 hf2 hdm;have hnm:¬m=n:=by omega
   go_wp2_with fail
   go_region_law (refine step_copy_splice rfl (.tmp 41) (.tmp 44) 92 92 rfl 3 Tryz.underlying92 (by kernel_rfl) (some ⟨w.heap.size,n,none⟩) (some ⟨w.heap.size,0,none⟩) (m-n) (m-n) n m (by simp [Act.eval,Act.put]) (by simp [Act.eval,Act.put]) w.heap.size n (fil z m n) 3 (by exact HB.out) (List.replicate d (.int .i64 z)) HN2.out (fun _=>⟨rfl,_,rfl,HP2.out⟩) HF2.out (rep_one _ _ rfl) w.heap.size w HL.out.drew (Nat.le_refl _) ?_;intro w3 hg3 hb3;rw [HL2.out])
   have HB3:Hid (w3.heap[w.heap.size]?=some (.cells (fil z m (n+d)).toArray 3 (0,0))):=hid (by rw [←HM2.out];exact hg3.out)
   have HL3:=hid hb3;have hw:IntKind.i64.wrap ((n:Int)+d)=n+d:=IntWalk.i64_in _ (by omega)
   rw [hw];simp only [List.getElem_toArray,List.getElem_cons_succ,List.getElem_cons_zero,Act.put,List.setIfInBounds_toArray,List.set_cons_succ,List.set_cons_zero];clear hg3 hb3 HB HL HN2 HP2 HF2 HM2 HL2
   go_wp2_with fail
   exact ⟨⟨n+d,hd1.2,by omega,by go_num,HB3.out,HL3.out⟩,by simp [intOf];omega⟩
  ·obtain rfl:n=m:=by omega
   have HB:=hid hB;have HL:=hid hb;clear hB hb
   go_wp2_with fail
   go_ret;exact ⟨rfl,HB.out,HL.out⟩
end Go.Proofs.YthbjllabgpaaaaaGreat.Inf
namespace Go.Proofs.YthbjllabgpaaaaaGreat.Inf
open Go.Lib (hid)
set_option maxHeartbeats 2000000
open Go.ChangeShapes Go.WideShapes Go.ChangeAt Go.RowKit
open Go.Proofs.YthbjllabgpaaaaaGreat.Bit (RdAt tb tb_length)
open Go.Proofs.YthbjllabgpaaaaaGreat.Huf (info_parts)
open Go.Proofs.YthbjllabgpaaaaaGreat.Lz (info_u8)
set_option linter.unusedVariables false
set_option maxRecDepth 100000
structure ChB (w:World) (B c r:Nat) (A:Int) (p v:Value) (l:List UInt8) (m:Int) (t:ByteArray) (i:Nat) (bad:Bool):Prop where
 far:B≤c
 farR:B≤r
 blk:w.heap[c]?=some (.cells #[.pointer (some ⟨r,0,none⟩),.int .i64 A,p,v,.int .i64 m] 72 (0,0))
 own:w.ownsRowF B 5 1 v l.length (Lib.byteCells l)
 ne:v.ownBlock≠some c
 full:v=.slice none 0 0∨l≠[]
 rd:RdAt 107 w r t i bad
theorem ChB.lt {w:World} {B c r i:Nat} {A m:Int} {p v:Value} {l:List UInt8} {t:ByteArray} {bad:Bool} (h:ChB w B c r A p v l m t i bad):c<w.heap.size:=(Array.getElem?_eq_some_iff.1 h.blk).1
theorem ChB.cells {w:World} {B c r i:Nat} {A m:Int} {p v:Value} {l:List UInt8} {t:ByteArray} {bad:Bool} (h:ChB w B c r A p v l m t i bad) :
  w.cell? ⟨c,0,none⟩=some (.pointer (some ⟨r,0,none⟩))∧w.cell? ⟨c,1,none⟩=some (.int .i64 A)∧w.cell? ⟨c,2,none⟩=some p∧w.cell? ⟨c,3,none⟩=some v∧w.cell? ⟨c,4,none⟩=some (.int .i64 m) ∧
  (∀j,w.frozen? ⟨c,j,none⟩=false)∧w.shape? c=some (72,5):=by
 have hb:=h.blk;refine ⟨?_,?_,?_,?_,?_,fun j=>frozen_of_row w c j _ _ hb,by simp [World.shape?,hb]⟩
 ·rw [cell_of_row w c 0 _ _ _ hb];rfl
 ·rw [cell_of_row w c 1 _ _ _ hb];rfl
 ·rw [cell_of_row w c 2 _ _ _ hb];rfl
 ·rw [cell_of_row w c 3 _ _ _ hb];rfl
 ·rw [cell_of_row w c 4 _ _ _ hb];rfl
theorem ChB.rne {w:World} {B c r i:Nat} {A m:Int} {p v:Value} {l:List UInt8} {t:ByteArray} {bad:Bool} (h:ChB w B c r A p v l m t i bad):r≠c:=by
 rintro rfl;have h1:=h.rd;unfold Bit.RdAt at h1;rw [h.blk] at h1;simp at h1
theorem ChB.own_ne {w:World} {B c r i:Nat} {A m:Int} {p v:Value} {l:List UInt8} {t:ByteArray} {bad:Bool} (h:ChB w B c r A p v l m t i bad):v.ownBlock≠some r:=
 Lib.ownBlock_neF h.own h.rd (by decide)
theorem ChB.draws {w:World} {B c r i:Nat} {A m:Int} {p v:Value} {l:List UInt8} {t:ByteArray} {bad:Bool} (h:ChB w B c r A p v l m t i bad) (n:Nat):ChB (w.drewN n) B c r A p v l m t i bad:=⟨h.far,h.farR,h.blk,h.own,h.ne,h.full,h.rd⟩
theorem ChB.drew {w:World} {B c r i:Nat} {A m:Int} {p v:Value} {l:List UInt8} {t:ByteArray} {bad:Bool} (h:ChB w B c r A p v l m t i bad):ChB w.drew B c r A p v l m t i bad:=h.draws 1
theorem ChB.used {w:World} {B c r i:Nat} {A m:Int} {p v:Value} {l:List UInt8} {t:ByteArray} {bad:Bool} (h:ChB w B c r A p v l m t i bad) (q:Value):ChB (w.setCell ⟨c,2,none⟩ q) B c r A q v l m t i bad:=by
 have hg:w.grownBy (w.setCell ⟨c,2,none⟩ q) (some c):=Bit.rgrown_set w c 2 q;refine ⟨h.far,h.farR,?_,h.own.kept hg (.inr h.ne),h.ne,h.full,h.rd.kept hg (fun e=>h.rne (by cases e;rfl))⟩
 rw [heap_setCell_same w c 2 _ _ _ h.blk];rfl
theorem ChB.put {w w2:World} {B c r i:Nat} {A m:Int} {p v v':Value} {l l':List UInt8} {t:ByteArray} {bad:Bool} (h:ChB w B c r A p v l m t i bad) (hg:w.grownBy w2 v.ownBlock) (ho:w2.ownsRowF B 5 1 v' l'.length (Lib.byteCells l'))
  (hs:v'=.slice none 0 0∨l'≠[]):ChB (w2.setCell ⟨c,3,none⟩ v') B c r A p v' l' m t i bad:=by
 have hb2:w2.heap[c]?=some (.cells #[.pointer (some ⟨r,0,none⟩),.int .i64 A,p,v,.int .i64 m] 72 (0,0)):=(hg.block c h.lt (fun e=>h.ne e.symm)).trans h.blk
 have hg2:w2.grownBy (w2.setCell ⟨c,3,none⟩ v') (some c):=Bit.rgrown_set w2 c 3 v';have hne:v'.ownBlock≠some c:=Lib.ownBlock_neF ho hb2 (by decide)
 have hr2:RdAt 107 w2 r t i bad:=h.rd.kept hg (fun e=>h.own_ne e.symm)
 refine ⟨h.far,h.farR,?_,ho.kept hg2 (.inr hne),hne,hs,hr2.kept hg2 (fun e=>h.rne (by cases e;rfl))⟩
 rw [heap_setCell_same w2 c 3 _ _ _ hb2];rfl
theorem ChB.kept {w w':World} {B c r i:Nat} {A m:Int} {p v:Value} {l:List UInt8} {t:ByteArray} {bad:Bool} (h:ChB w B c r A p v l m t i bad) {j:Nat} {bad':Bool} (hg:w.grownBy w' (some r)) (hr:RdAt 107 w' r t j bad'):ChB w' B c r A p v l m t j bad':=
 ⟨h.far,h.farR,(hg.block c h.lt (fun e=>h.rne (by cases e;rfl))).trans h.blk,h.own.kept hg (.inr h.own_ne),h.ne,h.full,hr⟩
theorem ChB.below {w w':World} {B c r i:Nat} {A m:Int} {p v:Value} {l:List UInt8} {t:ByteArray} {bad:Bool} (h:ChB w B c r A p v l m t i bad) (hb:Below w.heap.size w w'):ChB w' B c r A p v l m t i bad:=by
 have hg:w.grownBy w' none:=⟨hb.os,hb.tape,hb.output,hb.size,fun k hk _=>hb.block k hk⟩
 exact ⟨h.far,h.farR,(hb.block c h.lt).trans h.blk,h.own.kept hg (by cases v.ownBlock <;> simp),h.ne,h.full,h.rd.kept hg (by simp)⟩
def Oth (w w':World) (c:Nat) (v:Value):Prop:=∀k,k<w.heap.size→k≠c→v.ownBlock≠some k→w'.heap[k]?=w.heap[k]?
theorem Oth.refl (w:World) (c:Nat) (v:Value):Oth w w c v:=fun _ _ _ _=>rfl
theorem Oth.set {w w':World} {c:Nat} {v:Value} (h:Oth w w' c v) (o:Nat) (x:Value):Oth w (w'.setCell ⟨c,o,none⟩ x) c v:=fun k hk h1 h2=>(heap_setCell_other w' ⟨c,o,none⟩ k x (fun e=>h1 e)).trans (h k hk h1 h2)
theorem Oth.grown {w w1 w2:World} {c:Nat} {v:Value} (h:Oth w w1 c v) (hs:w.heap.size≤w1.heap.size) (hg:w1.grownBy w2 v.ownBlock):Oth w w2 c v:=fun k hk h1 h2=>(hg.block k (Nat.lt_of_lt_of_le hk hs) (fun e=>h2 e.symm)).trans (h k hk h1 h2)
theorem oth_freeze (w:World) (c g n cap:Nat) (a:Nat):Oth w (w.freeze ⟨g,0,none⟩ n) c (.slice (some ⟨g,0,none⟩) a cap):=by
 intro k hk h1 h2;have hgk:g≠k:=fun e=>h2 (by simp [Value.ownBlock,e])
 unfold World.freeze
 split
 ·rfl
 ·simp only [Array.getElem?_modify];rw [if_neg hgk]
theorem info_builder:(Tryz.prog.info? 70).map (·.size)=some 2:=by kernel_rfl
theorem lies_builder:liesAt Tryz.prog Tryz.prog.depth 72 (5/Tryz.prog.cellsOf 72) 2 70 1=true:=by kernel_rfl
theorem copyCheck_any (B c r i:Nat) (A m:Int) (p v:Value) (l:List UInt8) (t:ByteArray) (bad:Bool) (w:World) (h:ChB w B c r A p v l m t i bad) (hp:p=.pointer none∨p=.pointer (some ⟨c,2,none⟩)) :
  Calls Tryz.prog 92 #[.pointer (some ⟨c,2,none⟩)] w fun e w'=>e=.returned (.tuple #[])∧ChB w' B c r A (.pointer (some ⟨c,2,none⟩)) v l m t i bad∧Below B w w'∧Oth w w' c v:=by
 obtain ⟨_,_,c2,_,_,fz,sh⟩:=h.cells;have fz2:=fz 2;clear fz;rcases hp with rfl | rfl
 ·obtain ⟨j,hj,hjs⟩:=Option.map_eq_some_iff.1 info_builder;have hT:=Lib.run_to_unsafe (P:=Tryz.prog) (src:=67) (dst:=153) w ⟨c,2,none⟩ (by kernel_rfl) (by kernel_rfl) hj (by rw [hjs];decide) sh (by show 2<5;decide)
  have hF:=Lib.run_from_unsafe (P:=Tryz.prog) (src:=153) (dst:=67) w ⟨c,2,none⟩ (by kernel_rfl) (by kernel_rfl) hj sh lies_builder
  have H:=hid h;clear h sh hj hjs
  go_enter Tryz.func92,Tryz.ntmps92
  go_wp2
  rw [run_callFunc_extern Tryz.func111 (by kernel_rfl) (by kernel_rfl) (by kernel_rfl) (e:=Extern.AbiNoEscape.same) (by kernel_rfl)]
  rw [Lib.run_noEscape];simp only [Result.andThen];rw [Oper.upon_value]
  go_wp2
  go_end0;have hg:=Bit.rgrown_set w c 2 (.pointer (some ⟨c,2,none⟩));exact ⟨rfl,H.out.used _,(Below.refl B w).setCell (p:=⟨c,2,none⟩) H.out.far _,(Oth.refl w c v).set 2 _⟩
 ·have H:=hid h;clear h sh
  go_enter Tryz.func92,Tryz.ntmps92
  go_wp2
  obtain ⟨j,hj,_⟩:=Option.map_eq_some_iff.1 info_builder;rw [Lib.run_neq_ptr_same w _ (by kernel_rfl) hj]
  go_wp2
  go_end0;exact ⟨rfl,H.out,Below.refl _ _,Oth.refl _ _ _⟩
theorem str_cells (l:List UInt8) (s:ByteArray):Lib.byteCells l++Lib.strCells s=Lib.byteCells (l++s.data.toList):=by rw [Lib.byteCells_append];rfl
theorem write_any (B c r i:Nat) (A m:Int) (p v:Value) (l:List UInt8) (s t:ByteArray) (bad:Bool) (w:World) (h:ChB w B c r A p v l m t i bad) (hp:p=.pointer none∨p=.pointer (some ⟨c,2,none⟩)) (hB:B≤w.heap.size) (hl:l.length+s.size≤100000000) :
  Calls Tryz.prog 59 #[.pointer (some ⟨c,2,none⟩),.string s] w fun e w'=>e=.returned (.tuple #[.int .i64 s.size,.nilIface])∧∃v',ChB w' B c r A (.pointer (some ⟨c,2,none⟩)) v' (l++s.data.toList) m t i bad∧Below B w w'∧Oth w w' c v:=by
 obtain ⟨i0,hi,hz0,hz1,hz2⟩:=info_parts info_u8;have C1:=hid (copyCheck_any B c r i A m p v l t bad w h hp);have HB:=hid hB;have HL:=hid hl;clear h hp hB hl
 go_enter Tryz.func59,Tryz.ntmps59
 go_wp2_with fail
 refine C1.out.mono ?_;rintro e w1 ⟨rfl,h1,b1,o1⟩;have O1:=hid o1;obtain ⟨_,_,c2,c3,_,fz,_⟩:=h1.cells;have H1:=hid h1;have B1:=hid b1;have hown:=hid h1.own;clear h1 b1 o1 C1
 go_wp2_with (at_builtin;refine Lib.wpList_append_own_stringF _ rfl _ _ 68 9 rfl B 5 i0 (by kernel_rfl) (by kernel_rfl) hi hz0 hz1 hz2 _ _ _ rfl hown.out s rfl ?c3 ?c4 ?c5 ?_)
 case c3=>have:=HL.out;unfold maxLen;omega
 case c4=>have:=HL.out;omega
 case c5=>exact Nat.le_trans HB.out B1.out.size
 intro v' w2 ho hg hn
 have ho2:w2.ownsRowF B 5 1 v' (l++s.data.toList).length (Lib.byteCells (l++s.data.toList)):=by
  rw [←str_cells,List.length_append];have e:s.data.toList.length=s.size:=by simp
  rw [e];exact ho
 have hs:v'=.slice none 0 0∨l++s.data.toList≠[]:=by
  by_cases h0:v'=.slice none 0 0
  ·exact .inl h0
  ·right
   intro e;rw [List.append_eq_nil_iff] at e
   apply h0
   rw [hn];refine ⟨?_,?_⟩
   ·rcases H1.out.full with h | h
    ·exact h
    ·exact absurd e.1 h
   ·have:=congrArg List.length e.2
    simpa using this
 have H2:=hid (H1.out.put hg ho2 hs);have HB2:=hid (B1.out.grown hg (Nat.le_trans HB.out B1.out.size) (fun k hk=>(H1.out.own.lt k hk).1))
 have hb2:w2.heap[c]?=some (.cells #[.pointer (some ⟨r,0,none⟩),.int .i64 A,.pointer (some ⟨c,2,none⟩),v,.int .i64 m] 72 (0,0)):=(hg.block c H1.out.lt (fun e=>H1.out.ne e.symm)).trans H1.out.blk
 have d2:w2.cell? ⟨c,2,none⟩=some (.pointer (some ⟨c,2,none⟩)):=by rw [cell_of_row w2 c 2 _ _ _ hb2];rfl
 have d3:w2.cell? ⟨c,3,none⟩=some v:=by rw [cell_of_row w2 c 3 _ _ _ hb2];rfl
 have f3:w2.frozen? ⟨c,3,none⟩=false:=frozen_of_row w2 c 3 _ _ hb2
 obtain ⟨ao,n',cap,rfl⟩:∃ao n' cap,v'=.slice ao n' cap:=by
  rcases ho.2 with ⟨hv,_⟩ | ⟨g,cap,cur,fz,hv,_⟩
  ·exact ⟨_,_,_,hv⟩
  ·exact ⟨_,_,_,hv⟩
 have FAR:=H1.out.far;have O2:=hid (O1.out.grown B1.out.size hg);clear ho ho2 hs hg hn hb2 hown
 go_wp2_with fail
 go_ret2;exact ⟨rfl,_,H2.out,HB2.out.setCell (p:=⟨c,3,none⟩) FAR _,O2.out.set 3 _⟩
theorem ChB.froze {w:World} {B c r i g cap:Nat} {A m:Int} {p:Value} {l:List UInt8} {t:ByteArray} {bad:Bool} (h:ChB w B c r A p (.slice (some ⟨g,0,none⟩) l.length cap) l m t i bad):ChB (w.freeze ⟨g,0,none⟩ l.length) B c r A p (.slice (some ⟨g,0,none⟩) l.length cap) l m t i bad:=by
 have hgc:g≠c:=fun e=>h.ne (by simp [Value.ownBlock,e])
 have hgr:g≠r:=fun e=>h.own_ne (by simp [Value.ownBlock,e])
 unfold World.freeze
 split
 ·exact h
 ·rename_i hn0;refine ⟨h.far,h.farR,?_,⟨h.own.1,?_⟩,h.ne,h.full,?_⟩
  ·simp only [Array.getElem?_modify];rw [if_neg hgc];exact h.blk
  ·rcases h.own.2 with ⟨hv,_⟩ | ⟨g',cap',cur,fz,hv,hbg,hg,hfz,rest⟩
   ·cases hv
   ·injection hv with ha _ hcap
    injection ha with ha
    injection ha with hgg _ _
    subst hgg;subst hcap;obtain ⟨lo,hi⟩:=fz;refine .inr ⟨g,_,cur,(if lo==hi then (0,0+l.length) else (min lo 0,max hi (0+l.length))),rfl,hbg,?_,?_,rest⟩
    ·simp [Array.getElem?_modify,hg]
    ·simp only at hfz
     split <;> simp <;> omega
  ·have:=h.rd
   unfold Bit.RdAt at this ⊢;simp only [Array.getElem?_modify];rw [if_neg hgr];exact this
theorem string_any (B c r i:Nat) (A m:Int) (p v:Value) (l:List UInt8) (t:ByteArray) (bad:Bool) (w:World) (h:ChB w B c r A p v l m t i bad) (hl:l.length≤100000000) :
  Calls Tryz.prog 61 #[.pointer (some ⟨c,2,none⟩)] w fun e w'=>e=.returned (.string ⟨l.toArray⟩)∧ChB w' B c r A p v l m t i bad∧Below B w w'∧Oth w w' c v:=by
 obtain ⟨_,_,c2,c3,_,_,_⟩:=h.cells
 by_cases h0:l=[]
 ·subst h0;rcases h.full with rfl | h1
  ·have hSD:(Builtin.unsafeSliceData_ #[68] 140 #[.slice none 0 0]).run Tryz.prog w.drew=.ok (.pointer none) w.drew:=rfl;have hUS:=fun (W:World) (q:Option Addr)=>(Lib.run_unsafeString_none W (P:=Tryz.prog) 140 3 9 q)
   have H:=hid h.drew;clear h c2
   go_enter Tryz.func61,Tryz.ntmps61
   go_wp2
   go_region
   all_goals (go_wp2;go_ret;exact ⟨rfl,H.out,Below.drew (Below.refl B w),fun _ _ _ _=>rfl⟩)
  ·exact absurd rfl h1
 ·have hl0:l.length≠0:=by simpa using h0
  obtain ⟨g,cap,cur,fz,rfl,hbg,hg,hfz,hnc,hcm,hcs,htake⟩:∃g cap cur fz,v=.slice (some ⟨g,0,none⟩) l.length cap∧B≤g∧w.heap[g]?=some (.cells cur 5 fz)∧fz.2≤l.length*1∧l.length≤cap∧cap≤maxLen∧cur.size=cap*1∧cur.toList.take (l.length*1)=Lib.byteCells l:=by
   rcases h.own.2 with ⟨_,hz⟩ | ⟨g,cap,cur,fz,hv,rest⟩
   ·exact absurd hz hl0
   ·exact ⟨g,cap,cur,fz,hv,rest⟩
  have hSD:(Builtin.unsafeSliceData_ #[68] 140 #[.slice (some ⟨g,0,none⟩) l.length cap]).run Tryz.prog w.drew=.ok (.pointer (some ⟨g,0,none⟩)) w.drew:=
   Lib.run_unsafeSliceData_row _ _ _ _ _ _ (by omega)
  have hUS:(Builtin.unsafeString_ #[140,3] 9 #[.pointer (some ⟨g,0,none⟩),.int .i64 l.length]).run Tryz.prog w.drew=.ok (.string ⟨l.toArray⟩) (w.drew.freeze ⟨g,0,none⟩ l.length):=by
   refine Lib.run_unsafeString_row w.drew 140 3 9 5 (by kernel_rfl) (by kernel_rfl) g cur.size (by have hg':w.drew.heap[g]?=some (.cells cur 5 fz):=hg;simp [World.shape?,hg']) l h0 (by omega) (by omega) ?_
   intro j x hx
   have:=h.own.cells (g:=g) rfl j (.int .u8 x.toNat) (by simp [Lib.byteCells,hx])
   exact this
  have H:=hid h.drew.froze;have HG:=hid hbg;have c3d:w.drew.cell? ⟨c,3,none⟩=some (.slice (some ⟨g,0,none⟩) l.length cap):=c3;clear h c2 h0 hbg hg hfz hcs htake hcm
  go_enter Tryz.func61,Tryz.ntmps61
  go_wp2
  go_region
  all_goals (go_wp2;go_ret;exact ⟨rfl,H.out,Lib.below_freeze (Below.drew (Below.refl B w)) (p:=⟨g,0,none⟩) HG.out _,oth_freeze w.drew c g _ _ _⟩)
end Go.Proofs.YthbjllabgpaaaaaGreat.Inf
