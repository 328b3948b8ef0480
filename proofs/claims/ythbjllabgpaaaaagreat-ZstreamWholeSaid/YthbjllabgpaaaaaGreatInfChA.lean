/-
  Texts in one: InfChain, InfNxs.
-/
import Derived.Test.YthbjllabgpaaaaaGreatInfBlk
import Derived.Test.YthbjllabgpaaaaaGreatInfRepA
import Derived.Test.YthbjllabgpaaaaaGreatRegAct
namespace Go.Proofs.YthbjllabgpaaaaaGreat.Inf
open Go.Lib (hid)
set_option maxHeartbeats 4000000
open Go.ChangeShapes Go.WideShapes Go.ChangeAt Go.RowKit
open Go.Proofs.YthbjllabgpaaaaaGreat.Bit (RdAt tb tb_length rnew_any rgrown_trans)
open Go.Proofs.YthbjllabgpaaaaaGreat.Lz (tail_any tailB tailB_small)
open Go.Proofs.YthbjllabgpaaaaaGreat.Sym
open Go.Proofs.YthbjllabgpaaaaaGreat.Def
set_option linter.unusedVariables false
set_option maxRecDepth 100000
def us (c:Nat):Value:=.pointer (some ⟨c,2,none⟩)
theorem begin_any (win t:ByteArray) (most:Int) (w:World) (hw:win.size≤32768) (ht:t.size≤1000000) :
  Calls Tryz.prog 33 #[.string win,.string t,.int .i64 most] w fun r w'=>∃c R v,r=.returned (.pointer (some ⟨c,0,none⟩))∧ChB w' w.heap.size c R (win.size:Nat) (us c) v win.data.toList most t 0 false∧Below w.heap.size w w':=by
 have CT:=hid (tail_any win w (by unfold maxLen;omega))
 rw [tailB_small win hw] at CT;have CN:=hid (rnew_any t w);have HT:=hid (And.intro hw ht);clear ht
 go_enter Tryz.func33,Tryz.ntmps33
 go_wp2_with fail
 refine CT.out.mono ?_;rintro r w1 ⟨rfl,rfl⟩;clear CT
 go_wp2_with fail
 refine CN.out.mono ?_;rintro r w1 ⟨rfl,r1,b1⟩;have R1:=hid r1;have B1:=hid b1;clear r1 b1 CN
 go_wp2_with fail
 have bl:Below w1.heap.size w1 (w1.alloc (.cells #[.pointer (some ⟨w.heap.size,0,none⟩),.int .i64 (win.size:Nat),.pointer none,.slice none 0 0,.int .i64 most] 72)):=(Below.refl _ _).alloc (Nat.le_refl _) _
 have h0:ChB (w1.alloc (.cells #[.pointer (some ⟨w.heap.size,0,none⟩),.int .i64 (win.size:Nat),.pointer none,.slice none 0 0,.int .i64 most] 72)) w.heap.size w1.heap.size w.heap.size (win.size:Nat) (.pointer none) (.slice none 0 0) [] most t 0 false:=
  ⟨B1.out.size,Nat.le_refl _,heap_alloc_new _ _,World.ownsRowF_nil _ _ _ _,by simp [Value.ownBlock],.inl rfl,rd_below R1.out bl⟩
 have B2:=hid (B1.out.trans (bl.mono B1.out.size));have CW:=hid (write_any _ _ _ _ _ _ _ _ [] win t false _ h0 (.inl rfl) B2.out.size (by simp;omega))
 clear h0 bl B1 R1;refine CW.out.mono ?_;rintro r w3 ⟨rfl,v',h3,b3,_⟩;have H3:=hid h3;have B3:=hid (B2.out.trans b3);clear h3 b3 CW B2
 go_wp2_with fail
 go_ret;exact ⟨_,_,v',rfl,H3.out,B3.out⟩
theorem drop_bytes {l:List UInt8} {A:Nat} {S:ByteArray} (h:S=⟨l.toArray⟩):S.extract A S.size=⟨(l.drop A).toArray⟩:=by
 subst h
 apply ByteArray.ext
 apply Array.ext'
 have e:(⟨l.toArray⟩:ByteArray).size=l.length:=by show l.toArray.size=_;simp
 rw [e];simp [ByteArray.data_extract];rw [List.take_of_length_le (by simp)]
theorem made_any (B c R i A:Nat) (m:Int) (v:Value) (l:List UInt8) (t:ByteArray) (bad:Bool) (w:World) (h:ChB w B c R (A:Nat) (us c) v l m t i bad) (hl:l.length≤1000000) (hA:A≤l.length) :
  Calls Tryz.prog 36 #[.pointer (some ⟨c,0,none⟩)] w fun r w'=>r=.returned (.string ⟨(l.drop A).toArray⟩)∧ChB w' B c R (A:Nat) (us c) v l m t i bad∧Below B w w'∧Oth w w' c v:=by
 have CS:=fun W (hW:ChB W B c R (A:Nat) (us c) v l m t i bad)=>string_any B c R i (A:Nat) m (us c) v l t bad W hW (by omega)
 obtain ⟨S,hS⟩:∃S:ByteArray,S=⟨l.toArray⟩:=⟨_,rfl⟩;have hz:S.size=l.length:=by rw [hS];show l.toArray.size=_;simp
 rw [←hS] at CS;rw [←drop_bytes hS];have hAS:A≤S.size:=by omega
 have hS1:S.size≤1000000:=by omega
 have CS':=hid CS;have H:=hid h;obtain ⟨_,c1,_⟩:=h.cells;have c1d:w.drew.cell? ⟨c,1,none⟩=some (.int .i64 (A:Nat)):=c1;clear CS hS hz hl hA h
 go_enter Tryz.func36,Tryz.ntmps36
 go_wp2_with fail
 go_region_with (go_at_call 61;refine (CS'.out _ H.out.drew).mono ?_;rintro r w2 ⟨rfl,h2,b2,o2⟩;have H2:=hid h2;have O2:Hid (Oth w w2 c v):=hid o2;have B2:=hid ((Below.drew (Below.refl B w)).trans b2);have d1:=h2.cells.2.1;clear h2 b2 o2)
 all_goals (go_wp2_with fail;go_ret;exact ⟨rfl,H2.out,B2.out,O2.out⟩)
theorem ChB.beside {w:World} {B c r i k:Nat} {A m:Int} {p v:Value} {l:List UInt8} {t:ByteArray} {bad:Bool} {cs:Array Value} {T:TypeId} (h:ChB w B c r A p v l m t i bad) (hk:w.heap[k]?=some (.cells cs T (0,0))) (h1:T≠72) (h2:T≠5):k≠c∧v.ownBlock≠some k:=by
 refine ⟨fun e=>?_,Lib.ownBlock_neF h.own hk h2⟩
 rw [e,h.blk] at hk;simp only [Option.some.injEq,Obj.cells.injEq] at hk;exact h1 hk.2.1.symm
theorem ChB.stays {w w':World} {B c r i k:Nat} {A m:Int} {p v:Value} {l:List UInt8} {t:ByteArray} {bad:Bool} {cs:Array Value} {T:TypeId} (h:ChB w B c r A p v l m t i bad) (o:Oth w w' c v) (hk:w.heap[k]?=some (.cells cs T (0,0))) (h1:T≠72) (h2:T≠5):w'.heap[k]?=some (.cells cs T (0,0)):=
 (o k (Array.getElem?_eq_some_iff.1 hk).1 (h.beside hk h1 h2).1 (h.beside hk h1 h2).2).trans hk
theorem blk_err {t:ByteArray} {win:List UInt8} {p:Nat} {most:Int} (h:(blkG t win p most).2.2.2.1≠0):(blkG t win p most).2.2.1=⟨#[]⟩:=by
 unfold blkG at h ⊢;simp only at h ⊢
 split
 ·rfl
 ·rename_i h1;rw [if_neg h1] at h;unfold blkC at h ⊢
  split
  ·rfl
  ·rename_i h2;rw [if_neg h2] at h;exact absurd rfl h
end Go.Proofs.YthbjllabgpaaaaaGreat.Inf
namespace Go.Proofs.YthbjllabgpaaaaaGreat.Inf
open Go.Lib (hid)
set_option maxHeartbeats 4000000
open Go.ChangeShapes Go.WideShapes Go.ChangeAt Go.RowKit
open Go.Proofs.YthbjllabgpaaaaaGreat.Bit (RdAt tb tb_length rnew_any rgrown_trans)
open Go.Proofs.YthbjllabgpaaaaaGreat.Sym
open Go.Proofs.YthbjllabgpaaaaaGreat.Def
open Go.Proofs.YthbjllabgpaaaaaGreat.RegAct
set_option linter.unusedVariables false
set_option maxRecDepth 100000
def PtrV (v:Value) (w:World):Prop:=∃P,v=.pointer (some ⟨P,0,none⟩)
def nxU (c R:Nat) (S M s:ByteArray) (m mo e:Int) (k:Nat) (last:Bool) (i:Nat) (v:Value) (w:World):Prop:=
 match i with
 | 0=>v=.pointer (some ⟨c,0,none⟩)
 | 1=>v=.pointer (some ⟨c,0,none⟩)
 | 2=>v=.pointer (some ⟨c,0,none⟩)
 | 3=>v=.pointer (some ⟨R,0,none⟩)
 | 4=>v=.pointer (some ⟨c,0,none⟩)
 | 5=>v=.pointer (some ⟨c,0,none⟩)
 | 6=>v=.pointer (some ⟨c,2,none⟩)
 | 7=>v=.string S
 | 8=>v=.pointer (some ⟨c,0,none⟩)
 | 9=>v=.pointer (some ⟨c,0,none⟩)
 | 10=>v=.pointer (some ⟨c,4,none⟩)
 | 11=>v=.int .i64 m
 | 12=>v=.pointer (some ⟨c,0,none⟩)
 | 13=>v=.string M
 | 14=>v=.int .i64 (M.size:Nat)
 | 15=>v=.int .i64 mo
 | 16=>v=.tuple #[.agg #[.int .i64 (k:Nat),.bool last,.string s],.int .i64 e]
 | 17=>v=.tuple #[.agg #[.int .i64 (k:Nat),.bool last,.string s],.int .i64 e]
 | 18=>v=.agg #[.int .i64 (k:Nat),.bool last,.string s]
 | 19=>v=.int .i64 e
 | 20=>PtrV v w
 | 22=>v=.int .i64 e
 | _=>True
def nxF (e:Int) (i:Nat) (v:Value) (w:World):Prop:=
 match i with
 | 22=>v=.int .i64 e
 | _=>True
def zb:Array Value:=#[.int .i64 0,.bool false,.string ⟨#[]⟩]
theorem ChB.same {w:World} {B c r i j:Nat} {A m:Int} {p v:Value} {l:List UInt8} {t:ByteArray} {b1 b2:Bool} (h:ChB w B c r A p v l m t i b1) (k:ChB w B c r A p v l m t j b2):i=j∧b1=b2:=by
 have h1:=h.rd;have h2:=k.rd;unfold Bit.RdAt at h1 h2;rw [h1] at h2;simp only [Option.some.injEq,Obj.cells.injEq,Array.mk.injEq,List.cons.injEq,Value.int.injEq,true_and,and_true,Int.natCast_inj] at h2;refine ⟨h2.1,?_⟩;have h3:=h2.2
 cases b1 <;> cases b2 <;> simp_all [Bit.errI]
structure NxS (w1:World) (B c R A:Nat) (v:Value) (l:List UInt8) (m:Int) (t:ByteArray) (p q:Nat) (bad:Bool) (R0:Nat) (bc:Array Value) (ℓ:Nat→Bool) (a:Act) (W:World):Prop where
 ch:ChB W B c R (A:Nat) (us c) v l m t (if ℓ 16 then q else p) (if ℓ 16 then bad else false)
 be:Below B w1 W
 r0:W.heap[R0]?=some (.cells zb 75 (0,0))
 pt:ℓ 20=true→∃P,B≤P∧a.tmps[4]?=some (.pointer (some ⟨P,0,none⟩))∧P≠R0∧W.heap[P]?=some (.cells (if ℓ 21 then bc else zb) 75 (0,0))
theorem put_other {a:Act} {d:Option Tmp} {x:Value} (hd:d≠some 4):(a.put d x).tmps[4]?=a.tmps[4]?:=by
 cases d with
 | none=>rfl
 | some d=>
  show (a.tmps.setIfInBounds d x)[4]?=_;exact Array.getElem?_setIfInBounds_ne (fun e=>hd (by rw [e]))
theorem NxS.keep {w1 W W':World} {B c R A:Nat} {v:Value} {l:List UInt8} {m:Int} {t:ByteArray} {p q:Nat} {bad:Bool} {R0:Nat} {bc:Array Value} {ℓ:Nat→Bool} {a:Act} (h:NxS w1 B c R A v l m t p q bad R0 bc ℓ a W) (i:Nat) (h1:(16:Nat)≠i) (h2:(20:Nat)≠i) (h3:(21:Nat)≠i) (d:Option Tmp) (hd:d≠some 4) (x:Value)
  (hc:∀j b,ChB W B c R (A:Nat) (us c) v l m t j b→ChB W' B c R (A:Nat) (us c) v l m t j b) (hb:Below B W W') (ho:Oth W W' c v):NxS w1 B c R A v l m t p q bad R0 bc (fun j=>if j=i then true else ℓ j) (a.put d x) W':=by
 refine ⟨?_,h.be.trans hb,h.ch.stays ho h.r0 (by decide) (by decide),fun h20=>?_⟩
 ·rw [if_neg h1];exact hc _ _ h.ch
 ·rw [if_neg h2] at h20;obtain ⟨P,g0,g1,g2,g3⟩:=h.pt h20;refine ⟨P,g0,by rw [put_other hd];exact g1,g2,?_⟩
  rw [if_neg h3];exact h.ch.stays ho g3 (by decide) (by decide)
theorem NxS.still {w1 W:World} {B c R A:Nat} {v:Value} {l:List UInt8} {m:Int} {t:ByteArray} {p q:Nat} {bad:Bool} {R0:Nat} {bc:Array Value} {ℓ:Nat→Bool} {a:Act} (h:NxS w1 B c R A v l m t p q bad R0 bc ℓ a W) (i:Nat) (h1:(16:Nat)≠i) (h2:(20:Nat)≠i) (h3:(21:Nat)≠i) (d:Option Tmp) (hd:d≠some 4) (x:Value) :
  NxS w1 B c R A v l m t p q bad R0 bc (fun j=>if j=i then true else ℓ j) (a.put d x) W:=h.keep i h1 h2 h3 d hd x (fun _ _ h=>h) (Below.refl _ _) (Oth.refl _ _ _)
theorem NxS.read {w1 W W':World} {B c R A:Nat} {v:Value} {l:List UInt8} {m:Int} {t:ByteArray} {p q:Nat} {bad:Bool} {R0:Nat} {bc:Array Value} {ℓ:Nat→Bool} {a:Act} (h:NxS w1 B c R A v l m t p q bad R0 bc ℓ a W) (hl:ℓ 16=false) (d:Option Tmp) (hd:d≠some 4) (x:Value) (hB:B≤w1.heap.size)
  (hr:RdAt 107 W' R t q bad) (hg:W.grownBy W' (some R)):NxS w1 B c R A v l m t p q bad R0 bc (fun j=>if j=16 then true else ℓ j) (a.put d x) W':=by
 have hch:=h.ch;rw [hl] at hch;have hrd:=hch.rd
 have ne:∀(k:Nat) (cs:Array Value),W.heap[k]?=some (.cells cs 75 (0,0))→W'.heap[k]?=some (.cells cs 75 (0,0)):=fun k cs hk=>by
  rw [hg.block k (Array.getElem?_eq_some_iff.1 hk).1 (fun e=>?_)]
  ·exact hk
  ·cases e
   unfold Bit.RdAt at hrd;rw [hk] at hrd;simp at hrd
 refine ⟨?_,h.be.grown hg (Nat.le_trans hB h.be.size) (fun j hj=>by cases hj;exact hch.farR),ne _ _ h.r0,fun h20=>?_⟩
 ·rw [if_pos (rfl:(16:Nat)=16)];exact hch.kept hg hr
 ·rw [if_neg (by decide:¬(20:Nat)=16)] at h20
  obtain ⟨P,g0,g1,g2,g3⟩:=h.pt h20;refine ⟨P,g0,by rw [put_other hd];exact g1,g2,?_⟩
  rw [if_neg (by decide:¬(21:Nat)=16)]
  exact ne _ _ g3
theorem NxS.var {w1 W:World} {B c R A:Nat} {v:Value} {l:List UInt8} {m:Int} {t:ByteArray} {p q:Nat} {bad:Bool} {R0:Nat} {bc:Array Value} {ℓ:Nat→Bool} {a:Act} (h:NxS w1 B c R A v l m t p q bad R0 bc ℓ a W) (hl:ℓ 21=false) (hz:4<a.tmps.size) (hB:B≤w1.heap.size) :
  NxS w1 B c R A v l m t p q bad R0 bc (fun j=>if j=20 then true else ℓ j) (a.put (some 4) (.pointer (some ⟨W.heap.size,0,none⟩))) (W.alloc (.cells zb 75)):=by
 have bl:Below W.heap.size W (W.alloc (.cells zb 75)):=(Below.refl _ _).alloc (Nat.le_refl _) _;have hs:B≤W.heap.size:=Nat.le_trans hB h.be.size;have hr:=(Array.getElem?_eq_some_iff.1 h.r0).1;refine ⟨?_,h.be.trans (bl.mono hs),(bl.block _ hr).trans h.r0,fun _=>⟨W.heap.size,hs,?_,by omega,?_⟩⟩
 ·rw [if_neg (by decide:¬(16:Nat)=20)];exact h.ch.below bl
 ·show (a.tmps.setIfInBounds 4 _)[4]?=_;simp [hz]
 ·rw [if_neg (by decide:¬(21:Nat)=20),hl];exact heap_alloc_new _ _
theorem ChB.aside {w:World} {B c r i k:Nat} {A m:Int} {p v:Value} {l:List UInt8} {t:ByteArray} {bad:Bool} {cs:Array Value} (h:ChB w B c r A p v l m t i bad) (hk:w.heap[k]?=some (.cells cs 75 (0,0))) (o:Nat) (x:Value):ChB (w.setCell ⟨k,o,none⟩ x) B c r A p v l m t i bad:=by
 obtain ⟨h1,h2⟩:=h.beside hk (by decide) (by decide)
 have hg:w.grownBy (w.setCell ⟨k,o,none⟩ x) (some k):=Bit.rgrown_set w k o x;refine ⟨h.far,h.farR,(hg.block c h.lt (fun e=>h1 (by cases e;rfl))).trans h.blk,h.own.kept hg (.inr h2),h.ne,h.full,h.rd.kept hg (fun e=>?_)⟩
 cases e
 have:=h.rd
 unfold Bit.RdAt at this;rw [hk] at this;simp at this
theorem NxS.put {w1 W:World} {B c R A:Nat} {v:Value} {l:List UInt8} {m:Int} {t:ByteArray} {p q:Nat} {bad:Bool} {R0:Nat} {x0 x1 x2:Value} {ℓ:Nat→Bool} {a:Act} (h:NxS w1 B c R A v l m t p q bad R0 #[x0,x1,x2] ℓ a W) (hl:ℓ 21=false) (P:Nat) (h4:a.tmps[4]?=some (.pointer (some ⟨P,0,none⟩))) (hP:P≠R0) (hh:W.heap[P]?=some (.cells zb 75 (0,0))) (hB:B≤P) (x:Value) :
  NxS w1 B c R A v l m t p q bad R0 #[x0,x1,x2] (fun j=>if j=21 then true else ℓ j) (a.put none x) (((W.setCell ⟨P,0,none⟩ x0).setCell ⟨P,1,none⟩ x1).setCell ⟨P,2,none⟩ x2):=by
 have a1:=h.ch.aside hh 0 x0;have e1:=heap_setCell_same W P 0 _ _ x0 hh;have a2:=a1.aside e1 1 x1;have e2:=heap_setCell_same (W.setCell ⟨P,0,none⟩ x0) P 1 _ _ x1 e1;have a3:=a2.aside e2 2 x2;refine ⟨?_,((h.be.setCell (p:=⟨P,0,none⟩) hB _).setCell (p:=⟨P,1,none⟩) hB _).setCell (p:=⟨P,2,none⟩) hB _,?_,fun _=>⟨P,hB,h4,hP,?_⟩⟩
 ·rw [if_neg (by decide:¬(16:Nat)=21)];exact a3
 ·rw [heap_setCell_other _ ⟨P,2,none⟩ R0 _ (fun e=>hP e.symm),heap_setCell_other _ ⟨P,1,none⟩ R0 _ (fun e=>hP e.symm),heap_setCell_other _ ⟨P,0,none⟩ R0 _ (fun e=>hP e.symm)]
  exact h.r0
 ·rw [if_pos (rfl:(21:Nat)=21)];exact store3 hh x0 x1 x2
end Go.Proofs.YthbjllabgpaaaaaGreat.Inf
