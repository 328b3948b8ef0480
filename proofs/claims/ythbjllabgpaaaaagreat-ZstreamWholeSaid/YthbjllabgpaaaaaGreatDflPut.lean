/-
  Contracts of deflate's put, Whole and Segment.
-/
import Derived.Test.YthbjllabgpaaaaaGreatDflShort
namespace Go.Proofs.YthbjllabgpaaaaaGreat.Dfl
open Go.Lib (hid)
set_option maxHeartbeats 8000000
open Go.ChangeShapes Go.WideShapes Go.ChangeAt Go.RowKit
open Go.Proofs.YthbjllabgpaaaaaGreat.Bit (WrAt But Near bitsOf bitsOf_length tb wlen_any)
open Go.Proofs.YthbjllabgpaaaaaGreat.Def
open Go.Proofs.YthbjllabgpaaaaaGreat.Huf (needed_ne lead_ne)
open Go.Proofs.YthbjllabgpaaaaaGreat.RegTwo
set_option linter.unusedVariables false
set_option maxRecDepth 100000
theorem PutP.less {B B' N:Nat} {l0:List Bool} {G:List Bool→Prop} {K:Nat} {fid:FuncId} {caps:Array Value} {w:World} (h:PutP B' N l0 G K fid caps w) (hB:B≤B'):PutP B N l0 G K fid caps w:=
 ⟨h.lit,h.small,fun w2 h2 b v hw h3 h4=>h.puts w2 h2 b v hw (by omega) (fun k hk=>by have:=h4 k hk;omega)⟩
structure ShV (B:Nat) (l0:List Bool) (G:List Bool→Prop) (Z:Nat→Prop) (K:Nat) (F:FuncId) (C:Array Value) (w:World):Prop where
 is:∃N,PutP B N l0 G K F C w∧Z K
theorem ShV.below {B:Nat} {l0:List Bool} {G:List Bool→Prop} {Z:Nat→Prop} {K:Nat} {F:FuncId} {C:Array Value} {w w':World} (h:ShV B l0 G Z K F C w) (k:Below w.heap.size w w'):ShV B l0 G Z K F C w':=by
 obtain ⟨N,h1,h2⟩:=h.is;exact ⟨N,h1.keep (.below k),h2⟩
structure AggV (B:Nat) (l0:List Bool) (G:List Bool→Prop) (Z:Nat→Prop) (v:Value) (w:World):Prop where
 is:∃(K:Nat) (F:FuncId) (C:Array Value),v=.agg #[.int .i64 (K:Nat),.func (.func F) #[] C]∧ShV B l0 G Z K F C w
structure FunV (B:Nat) (l0:List Bool) (G:List Bool→Prop) (Z:Nat→Prop) (v:Value) (w:World):Prop where
 is:∃(K:Nat) (F:FuncId) (C:Array Value),v=.func (.func F) #[] C∧ShV B l0 G Z K F C w
def putU (B b P at_:Nat) (l0:List Bool) (G:List Bool→Prop) (Z:Nat→Prop) (win s:ByteArray) (last:Bool) (j:Nat) (v:Value) (w:World):Prop:=match j with
 | 0=>v=.string win
 | 1=>v=.agg #[.string s,.bool last]
 | 2=>v=.pointer (some ⟨b,0,none⟩)
 | 3=>v=.int .i64 at_
 | 4=>AggV B l0 G Z v w
 | 5=>FunV B l0 G Z v w
 | 6=>v=.pointer (some ⟨b,0,none⟩)
 | _=>True
def putF (X:Obj) (P:Nat) (b:Nat) (v0:Value) (w0:World) (l0:List Bool) (G:List Bool→Prop) (Z:Nat→Prop) (w:World):Prop:=(∃v' l1 K,Wt b v0 w0 w v' l1∧l1.length=l0.length+K∧G l1∧Z K)∧w.heap[P]?=some X
def putFin (X:Obj) (P:Nat) (b:Nat) (v0:Value) (w0:World) (l0:List Bool) (G:List Bool→Prop) (Z:Nat→Prop) (j:Nat) (v:Value) (w:World):Prop:=match j with
 | 7=>putF X P b v0 w0 l0 G Z w
 | _=>True
theorem putFin_keep {X:Obj} {P b:Nat} {v0:Value} {w0:World} {l0:List Bool} {G:List Bool→Prop} {Z:Nat→Prop} {W W':World} (j:Nat) (u0:Value) (h7:j=7→False) (h:putFin X P b v0 w0 l0 G Z j u0 W):putFin X P b v0 w0 l0 G Z j u0 W':=by
 unfold putFin at *
 split
 ·exact (h7 rfl).elim
 ·trivial
theorem putFin_below {X:Obj} {P b:Nat} {v0:Value} {w0:World} {l0:List Bool} {G:List Bool→Prop} {Z:Nat→Prop} {W W':World} (k:Below W.heap.size W W') (j:Nat) (u0:Value) (h:putFin X P b v0 w0 l0 G Z j u0 W):putFin X P b v0 w0 l0 G Z j u0 W':=by
 unfold putFin at h ⊢
 split at h
 ·obtain ⟨⟨v',l1,K,h1,h2⟩,h3⟩:=h;exact ⟨⟨v',l1,K,h1.below k,h2⟩,(k.block P (Array.getElem?_eq_some_iff.1 h3).1).trans h3⟩
 ·trivial
theorem putU_below {B b P at_:Nat} {l0:List Bool} {G:List Bool→Prop} {Z:Nat→Prop} {win s:ByteArray} {last:Bool} {W W':World} (k:Below W.heap.size W W') (j:Nat) (u:Value) (h:putU B b P at_ l0 G Z win s last j u W):putU B b P at_ l0 G Z win s last j u W':=by
 unfold putU at h ⊢
 split at h
 all_goals first
  | exact h
  | (obtain ⟨K,F,C,h1,h2⟩:=h.is;exact ⟨K,F,C,h1,h2.below k⟩)
theorem putU_other {B b P at_:Nat} {l0:List Bool} {G:List Bool→Prop} {Z:Nat→Prop} {win s:ByteArray} {last:Bool} {W W':World} (j:Nat) (u:Value) (h4:j=4→False) (h5:j=5→False) (h:putU B b P at_ l0 G Z win s last j u W):putU B b P at_ l0 G Z win s last j u W':=by
 unfold putU at h ⊢
 split at h
 all_goals first
  | exact h
  | exact (h4 rfl).elim
  | exact (h5 rfl).elim
def PutB (win s:ByteArray) (last:Bool) (l0 l1:List Bool):Prop:=
 Mks win.data.toList last l0 s.data.toList l1∧l1.length≤(stOne last l0 s.data.toList).length∧(win.data.toList=[]→∀c n,s.data.toList=List.replicate n c→l1.length≤l0.length+82+18*(n/258))∧ShD win.data.toList s.data.toList last l0 l1
theorem put_any (b:Nat) (v:Value) (win s:ByteArray) (last:Bool) (l0:List Bool) (w:World) (hw:WrAt w b v l0) (hl:l0.length≤800000) (ws:win.size≤100000) (hs:s.size≤5000) :
  Calls Tryz.prog 42 #[.pointer (some ⟨b,0,none⟩),.string win,.string s,.bool last] w fun r w'=>r=.returned (.tuple #[])∧∃v' l1,Wt b v w w' v' l1∧PutB win s last l0 l1:=by
 obtain ⟨at_,hat⟩:∃at_,l0.length=at_:=⟨_,rfl⟩;obtain ⟨G,hG⟩:∃G:List Bool→Prop,(fun l1=>Mks win.data.toList last l0 s.data.toList l1∧ShD win.data.toList s.data.toList last l0 l1)=G:=⟨_,rfl⟩
 obtain ⟨Z,hZ⟩:∃Z:Nat→Prop,(fun K=>l0.length+K≤(stOne last l0 s.data.toList).length∧(win.data.toList=[]→∀c n,s.data.toList=List.replicate n c→K≤82+18*(n/258)))=Z:=⟨_,rfl⟩
 have HSH:Hid (∀B W,B≤W.heap.size→Calls Tryz.prog 69 #[.string win,.agg #[.string s,.bool last],.int .i64 at_] W fun r w'=>∃v,r=.returned v∧AggV B l0 G Z v w'∧Below W.heap.size W w'):=hid fun B W h=>by
  rw [←hat,←hG,←hZ];refine (shortest_any l0 win s last W hl ws hs).mono ?_;rintro r w' ⟨N,K,F,C,rfl,h1,h2,h3,h4⟩;exact ⟨_,rfl,⟨K,F,C,rfl,N,h1.less h,h2,h3⟩,h4⟩
 have HOUT:Hid (∀X P W',putF X P b v w l0 G Z W'→∃v' l1,Wt b v w W' v' l1∧PutB win s last l0 l1):=hid fun X P W' h=>by
  obtain ⟨⟨v',l1,K,h1,h2,h3,h4⟩,_⟩:=h;rw [←hG] at h3;rw [←hZ] at h4;exact ⟨v',l1,h1,h3.1,by rw [h2];exact h4.1,(fun e c n hn=>by have:=h4.2 e c n hn;omega),h3.2⟩
 have HL:Hid (∀u W,WrAt W b u l0→Calls Tryz.prog 70 #[.pointer (some ⟨b,0,none⟩)] W fun r w'=>r=.returned (.int .i64 at_)∧∃n,w'=W.drewN n):=hid fun u W h=>by
  rw [←hat];exact wlen_any b u l0 W h (by omega)
 have C1:=hid (pieces_any s last w (by omega))
 have e1:pcs last s=[(s,last)]:=by unfold pcs;rw [if_pos (by omega)]
 rw [e1] at C1;have HW:=hid hw;clear hw hat hG hZ e1
 go_enter Tryz.func42,Tryz.ntmps42
 go_wp2_with fail
 refine C1.out.mono ?_;rintro r w1 ⟨pv,rfl,hp,hb⟩;obtain ⟨g,cap,rfl⟩:=Lz.own_form hp.own (by simp)
 have hg:=hp.new g rfl;have hg2:=(hp.own.lt g rfl).2;have q0:w1.cell? ⟨g,0,none⟩=some (.string s):=hp.own.cellAt (g:=g) 0 (by simp)
 have q1:w1.cell? ⟨g,1,none⟩=some (.bool last):=hp.own.cellAt (g:=g) 1 (by simp)
 have W1:=hid ((Wt.start HW.out).below hb);have HQ:Hid (w1.cell? ⟨g,0,none⟩=some (.string s)∧w1.cell? ⟨g,1,none⟩=some (.bool last)):=hid ⟨q0,q1⟩;rw [show [(s,last)].length=1 from rfl]
 clear hp hb C1 HW hg hg2 q0 q1
 go_wp2_with fail
 go_loopw [1,14] (fun u i wr=>(i=.int .i64 0∧u=.string win∧wr=w1)∨(i=.int .i64 1∧u=.string s∧∃v' l1,Wt b v w wr v' l1∧PutB win s last l0 l1)) (fun _ i _=>1-(intOf i).toNat)
 case atStart=>exact .inl ⟨rfl,rfl,rfl⟩
 case round=>
  rcases hrel with ⟨rfl,rfl,rfl⟩ | ⟨rfl,rfl,v',l1,h1,h2⟩
  ·obtain ⟨q0,q1⟩:=HQ.out;have hX:=heap_alloc_new wr (.cells #[.string s,.bool last] 116);have bX:Below wr.heap.size wr (wr.alloc (.cells #[.string s,.bool last] 116)):=(Below.refl _ _).alloc (Nat.le_refl _) _;have oX:=Off.new (w':=wr.alloc (.cells #[.string s,.bool last] 116)) W1.out.at_ (Nat.le_refl _) (by simp)
   generalize hW5:wr.alloc (.cells #[.string s,.bool last] 116)=w5 at *;generalize hPp:wr.heap.size=P at *;rw [←hPp] at bX;have W5:=hid (W1.out.below bX);have HP:Hid (w5.heap[P]?=some (.cells #[.string s,.bool last] 116 (0,0))∧Off b v w5 P):=hid ⟨hX,oX⟩
   have HD:Hid (∀W,Below w5.heap.size w5 W→W.cell? ⟨P,0,none⟩=some (.string s)∧W.cell? ⟨P,1,none⟩=some (.bool last)):=hid fun W hW=>
    ⟨(hW.cell (p:=⟨P,0,none⟩) (Array.getElem?_eq_some_iff.1 hX).1).trans ((cell_of_row _ _ 0 _ _ _ hX).trans rfl),(hW.cell (p:=⟨P,1,none⟩) (Array.getElem?_eq_some_iff.1 hX).1).trans ((cell_of_row _ _ 1 _ _ _ hX).trans rfl)⟩
   obtain ⟨B,hB⟩:∃B,w5.heap.size=B:=⟨_,rfl⟩;have HB:Hid (w5.heap.size=B∧b<B∧∀k,v.ownBlock=some k→k<B):=hid ⟨hB,by rw [←hB];exact Bit.WrRaw.lt W5.out.at_,fun k hk=>by rw [←hB];exact (W5.out.at_.own.lt k hk).2⟩
   clear hX bX oX hB
   go_wp2_with fail
   clear hPp hW5;refine region_ops (n:=29) (by kernel_rfl) (putU B b P at_ l0 G Z win s last) (putFin (.cells #[.string s,.bool last] 116) P b v w l0 G Z) (fun ℓ W=>ℓ 7=false→Below w5.heap.size w5 W) (by kernel_rfl) (by kernel_rfl) (by rfl) (by kernel_rfl) (fun _=>(Below.refl _ _).drew) ⟨?_,?_,?_,?_,?_,?_,?_,?_,trivial⟩ ?_
   ·intro ℓ act W hl hr hd hS hsame hdeps;have e1:act.tmps[1]?=some (.string win):=hsame 1 (by kernel_rfl)
    clear hsame hdeps;refine ⟨wanted_none (by rfl),fun K hK=>?_⟩
    go_simp;exact hK _ _ (by rfl) trivial hS (fun _ _ _ h=>h) (fun _ _ _ h=>h)
   ·intro ℓ act W hl hr hd hS hsame hdeps;have e9:act.tmps[9]?=some (.pointer (some ⟨P,0,none⟩)):=hsame 9 (by kernel_rfl)
    clear hsame hdeps;refine ⟨wanted_none (by rfl),fun K hK=>?_⟩
    have hb:=hS (hr 7 (by kernel_rfl))
    obtain ⟨d0,d1⟩:=HD.out W hb;go_simp;exact hK _ _ (by rfl) trivial hS (fun _ _ _ h=>h) (fun _ _ _ h=>h)
   ·intro ℓ act W hl hr hd hS hsame hdeps;have e0:act.tmps[0]?=some (.pointer (some ⟨b,0,none⟩)):=hsame 0 (by kernel_rfl)
    clear hsame hdeps;refine ⟨wanted_none (by rfl),fun K hK=>?_⟩
    go_simp;exact hK _ _ (by rfl) trivial hS (fun _ _ _ h=>h) (fun _ _ _ h=>h)
   ·intro ℓ act W hl hr hd hS hsame hdeps;obtain ⟨x20,e20,y20⟩:=hdeps ⟨2,.data⟩ (by simp) (by rfl) (by rfl) 20 (by rfl)
    replace y20:x20=.pointer (some ⟨b,0,none⟩):=y20
    subst y20;clear hsame hdeps;refine ⟨wanted_none (by rfl),fun K hK=>?_⟩
    have hb:=hS (hr 7 (by kernel_rfl))
    go_simp;refine (HL.out v W (W5.out.below hb).at_).mono ?_;rintro r w' ⟨rfl,nn,rfl⟩;have hk:Below W.heap.size W (W.drewN nn):=below_draws (Below.refl _ _);exact hK _ _ (by rfl) trivial (fun h=>below_draws (hS h)) (fun j u0 _ h=>putU_below hk j u0 h) (fun j u0 _ h=>putFin_below hk j u0 h)
   ·intro ℓ act W hl hr hd hS hsame hdeps;obtain ⟨x18,e18,y18⟩:=hdeps ⟨0,.data⟩ (by simp) (by rfl) (by rfl) 18 (by rfl)
    replace y18:x18=.string win:=y18
    subst y18;obtain ⟨x19,e19,y19⟩:=hdeps ⟨1,.data⟩ (by simp) (by rfl) (by rfl) 19 (by rfl)
    replace y19:x19=.agg #[.string s,.bool last]:=y19
    subst y19;obtain ⟨x21,e21,y21⟩:=hdeps ⟨3,.data⟩ (by simp) (by rfl) (by rfl) 21 (by rfl)
    replace y21:x21=.int .i64 at_:=y21
    subst y21;clear hsame hdeps;refine ⟨wanted_none (by rfl),fun K hK=>?_⟩
    have hb:=hS (hr 7 (by kernel_rfl))
    go_simp;refine (HSH.out B W (by rw [←HB.out.1];exact hb.size)).mono ?_
    rintro r w' ⟨v4,rfl,hv,b'⟩;exact hK _ _ hv trivial (fun h=>(hS h).trans (b'.mono (hS h).size)) (fun j u0 _ h=>putU_below b' j u0 h) (fun j u0 _ h=>putFin_below b' j u0 h)
   ·intro ℓ act W hl hr hd hS hsame hdeps;obtain ⟨x22,e22,y22⟩:=hdeps ⟨4,.data⟩ (by simp) (by rfl) (by rfl) 22 (by rfl)
    obtain ⟨⟨K0,F0,C0,rfl,hv⟩⟩:=(y22:AggV B l0 G Z x22 W);clear hsame hdeps;refine ⟨wanted_none (by rfl),fun K hK=>?_⟩
    go_simp;exact hK _ _ (show FunV B l0 G Z _ W from ⟨K0,F0,C0,rfl,hv⟩) trivial hS (fun _ _ _ h=>h) (fun _ _ _ h=>h)
   ·intro ℓ act W hl hr hd hS hsame hdeps;have e0:act.tmps[0]?=some (.pointer (some ⟨b,0,none⟩)):=hsame 0 (by kernel_rfl)
    clear hsame hdeps;refine ⟨wanted_none (by rfl),fun K hK=>?_⟩
    go_simp;exact hK _ _ (by rfl) trivial hS (fun _ _ _ h=>h) (fun _ _ _ h=>h)
   ·intro ℓ act W hl hr hd hS hsame hdeps;obtain ⟨x23,e23,y23⟩:=hdeps ⟨5,.data⟩ (by simp) (by rfl) (by rfl) 23 (by rfl)
    obtain ⟨⟨K1,F1,C1,rfl,hv⟩⟩:=(y23:FunV B l0 G Z x23 W);obtain ⟨x24,e24,y24⟩:=hdeps ⟨6,.data⟩ (by simp) (by rfl) (by rfl) 24 (by rfl)
    replace y24:x24=.pointer (some ⟨b,0,none⟩):=y24
    subst y24;clear hsame hdeps;refine ⟨wanted_none (by rfl),fun K hK=>?_⟩
    have hb:=hS hl;obtain ⟨N,hP1,hZ1⟩:=hv.is;rcases hP1.lit with ⟨rfl,Q,rfl⟩ | ⟨rfl,p1,p2,p3,p4,p5,p6,rfl⟩
    ·have CP:Calls Tryz.prog 120 #[.pointer (some ⟨b,0,none⟩),.pointer (some ⟨Q,0,none⟩)] W _:=hP1.puts W (Keep.refl _ _) b v (W5.out.below hb).at_ HB.out.2.1 HB.out.2.2;go_simp;refine CP.mono ?_;rintro r w' ⟨rfl,v',l1,h1,h2,h3⟩;exact hK _ _ (by trivial) ⟨⟨v',l1,K1,(W5.out.below hb).step h1.at_ h1.but h1.near,h2,h3,hZ1⟩,(h1.blk (HP.out.2.below hb).1.lt HP.out.2.ne HP.out.2.own).trans (((HP.out.2.below hb).2).trans HP.out.1)⟩ (fun h=>by cases h) (fun j u0 hm h=>putU_other j u0 (fun e=>by subst e;exact Bool.noConfusion ((show needed .any _ 7 4=false by kernel_rfl).symm.trans hm)) (fun e=>by subst e;exact Bool.noConfusion ((show needed .any _ 7 5=false by kernel_rfl).symm.trans hm)) h) (fun j u0 hm h=>putFin_keep j u0 (fun e=>absurd e.symm (lead_ne hm)) h)
    ·have CP:Calls Tryz.prog 127 #[.pointer (some ⟨b,0,none⟩),.pointer (some ⟨p1,0,none⟩),.pointer (some ⟨p2,0,none⟩),.pointer (some ⟨p3,0,none⟩),.pointer (some ⟨p4,0,none⟩),.pointer (some ⟨p5,0,none⟩),.pointer (some ⟨p6,0,none⟩)] W _:=hP1.puts W (Keep.refl _ _) b v (W5.out.below hb).at_ HB.out.2.1 HB.out.2.2;go_simp;refine CP.mono ?_;rintro r w' ⟨rfl,v',l1,h1,h2,h3⟩;exact hK _ _ (by trivial) ⟨⟨v',l1,K1,(W5.out.below hb).step h1.at_ h1.but h1.near,h2,h3,hZ1⟩,(h1.blk (HP.out.2.below hb).1.lt HP.out.2.ne HP.out.2.own).trans (((HP.out.2.below hb).2).trans HP.out.1)⟩ (fun h=>by cases h) (fun j u0 hm h=>putU_other j u0 (fun e=>by subst e;exact Bool.noConfusion ((show needed .any _ 7 4=false by kernel_rfl).symm.trans hm)) (fun e=>by subst e;exact Bool.noConfusion ((show needed .any _ 7 5=false by kernel_rfl).symm.trans hm)) h) (fun j u0 hm h=>putFin_keep j u0 (fun e=>absurd e.symm (lead_ne hm)) h)
   ·intro act W hd hz hsame hdone;obtain ⟨_,_,fin7⟩:=hdone 7 (by decide)
    clear hdone;obtain ⟨tm,df⟩:=act;obtain rfl:df=[]:=hd;have q0:=getD_same (hsame 0 (by kernel_rfl))
    have q1:=getD_same (hsame 1 (by kernel_rfl))
    have q2:=getD_same (hsame 2 (by kernel_rfl))
    have q3:=getD_same (hsame 3 (by kernel_rfl))
    have q4:=getD_same (hsame 4 (by kernel_rfl))
    have q5:=getD_same (hsame 5 (by kernel_rfl))
    have q6:=getD_same (hsame 6 (by kernel_rfl))
    have q7:=getD_same (hsame 7 (by kernel_rfl))
    have q8:=getD_same (hsame 8 (by kernel_rfl))
    have q9:=getD_same (hsame 9 (by kernel_rfl))
    have q10:=getD_same (hsame 10 (by kernel_rfl))
    have q11:=getD_same (hsame 11 (by kernel_rfl))
    have q12:=getD_same (hsame 12 (by kernel_rfl))
    have q13:=getD_same (hsame 13 (by kernel_rfl))
    have q14:=getD_same (hsame 14 (by kernel_rfl))
    have q15:=getD_same (hsame 15 (by kernel_rfl))
    have q16:=getD_same (hsame 16 (by kernel_rfl))
    have q17:=getD_same (hsame 17 (by kernel_rfl))
    have q26:=getD_same (hsame 26 (by kernel_rfl))
    have q27:=getD_same (hsame 27 (by kernel_rfl))
    have q28:=getD_same (hsame 28 (by kernel_rfl))
    clear hsame;rw [arr_all tm 29 hz,show List.range 29=[0,1,2,3,4,5,6,7,8,9,10,11,12,13,14,15,16,17,18,19,20,21,22,23,24,25,26,27,28] from rfl]
    simp only [List.map_cons,List.map_nil,List.getElem_toArray,List.getElem_cons_zero,List.getElem_cons_succ,q0,q1,q2,q3,q4,q5,q6,q7,q8,q9,q10,q11,q12,q13,q14,q15,q16,q17,q26,q27,q28];clear q0 q1 q2 q3 q4 q5 q6 q7 q8 q9 q10 q11 q12 q13 q14 q15 q16 q17 q26 q27 q28 hz;generalize tm.getD 18 undef=z18;generalize tm.getD 19 undef=z19;generalize tm.getD 20 undef=z20;generalize tm.getD 21 undef=z21;generalize tm.getD 22 undef=z22;generalize tm.getD 23 undef=z23;generalize tm.getD 24 undef=z24;generalize tm.getD 25 undef=z25;have HF:Hid (∃v' l1,Wt b v w W v' l1∧PutB win s last l0 l1):=hid (HOUT.out _ _ W fin7);obtain ⟨_,hX⟩:=(fin7:putF (.cells #[.string s,.bool last] 116) P b v w l0 G Z W);have d0:W.cell? ⟨P,0,none⟩=some (.string s):=(cell_of_row _ _ 0 _ _ _ hX).trans rfl;clear hX q0 q1 HQ HP HD HB HOUT HSH HL W1 W5
    go_wp2_with fail
    exact ⟨.inr ⟨by go_num,rfl,HF.out⟩,by simp [intOf]⟩
  ·have HH:=hid (And.intro h1 h2);clear h1 h2
   go_wp2_with fail
   go_end0;exact ⟨rfl,v',l1,HH.out.1,HH.out.2⟩
end Go.Proofs.YthbjllabgpaaaaaGreat.Dfl
