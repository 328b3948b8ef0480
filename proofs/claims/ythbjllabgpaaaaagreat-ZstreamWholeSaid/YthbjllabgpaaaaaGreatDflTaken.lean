/-
  Contracts of deflate's best and taken.
-/
import Derived.Test.YthbjllabgpaaaaaGreatDflOrder
namespace Go.Proofs.YthbjllabgpaaaaaGreat.Dfl
open Go.Lib (hid)
set_option maxHeartbeats 4000000
open Go.ChangeShapes Go.WideShapes Go.ChangeAt Go.RowKit
open Go.Proofs.YthbjllabgpaaaaaGreat.Bit (WrAt But Near bitsOf bitsOf_length cnt wbits_any)
open Go.Proofs.YthbjllabgpaaaaaGreat.Def
open Go.Proofs.YthbjllabgpaaaaaGreat.Huf (IsInts used cn)
open Go.Proofs.YthbjllabgpaaaaaGreat.Sym
set_option linter.unusedVariables false
set_option maxRecDepth 100000
theorem used_take {N:List Nat} {k:Nat} (h:∀i,k≤i→N.getD i 0=0):∀l,used (N.take k) l=used N l:=by
 have hz:∀l,cn (N.take k) (l+1)=cn N (l+1):=fun l=>by
  unfold cn;rw [if_neg (by omega),if_neg (by omega)]
  conv=>rhs;rw [←List.take_append_drop k N]
  rw [List.count_append]
  have:(N.drop k).count (l+1)=0:=by
   rw [List.count_eq_zero];intro hm;obtain ⟨i,hi,e⟩:=List.mem_iff_getElem.1 hm;rw [List.getElem_drop] at e;have h1:=h (k+i) (by omega)
   rw [List.length_drop] at hi;rw [List.getD_eq_getElem?_getD,List.getElem?_eq_getElem (by omega),Option.getD_some,e] at h1
   omega
  omega
 intro l
 induction l with
 | zero=>rfl
 | succ l ih=>show used (N.take k) l+cn (N.take k) (l+1)*_=used N l+cn N (l+1)*_;rw [ih,hz]
structure Cutoff (O:List Nat) (n least:Nat) (N:List Nat):Prop where
 is:N=O.take N.length
 low:least≤N.length
 high:N.length≤n
 rest:∀i,N.length≤i→i<n→O.getD i 0=0
 last:N.length=least∨O.getD (N.length-1) 0≠0
theorem Cutoff.le {O N M:List Nat} {n least:Nat} (h:Cutoff O n least N) (k:Cutoff O n least M):N.length≤M.length:=by
 refine Nat.le_of_not_lt fun hlt=>?_
 have h1:=k.low;have h2:=h.high;rcases h.last with e | e
 ·omega
 ·exact e (k.rest _ (by omega) (by omega))
theorem Cutoff.det {O N M:List Nat} {n least:Nat} (h:Cutoff O n least N) (k:Cutoff O n least M):N=M:=by
 rw [h.is,k.is,Nat.le_antisymm (h.le k) (k.le h)]
structure Best (f:Nat→Nat) (n least:Nat) (N:List Nat):Prop where
 low:least≤N.length
 high:N.length≤n
 le:∀x∈N,x≤15
 room:used N 15≤32768
 some_:∀s,s<n→f s≠0→N.getD s 0≠0
 tk:∃P,Huf.Taken ((List.range n).map f) n 15 P∧Cutoff ((List.range n).map fun i=>Huf.often i P) n least N
theorem Best.det {f:Nat→Nat} {n least:Nat} {N M:List Nat} (h:Best f n least N) (k:Best f n least M):N=M:=by
 obtain ⟨P,hP,hC⟩:=h.tk;obtain ⟨Q,hQ,hD⟩:=k.tk;obtain rfl:=hP.det hQ;exact hC.det hD
theorem best_any (g n least:Nat) (f:Nat→Nat) (w:World) (h:AtN w g n f) (hn:n≤300) (h1:1≤least) (hl:least≤n) (hf:∀s,s<n→f s≤1000000) :
  Calls Tryz.prog 122 #[.slice (some ⟨g,0,none⟩) n n,.int .i64 least] w fun e w'=>∃b k N,e=.returned (.slice (some ⟨b,0,none⟩) k n)∧N.length=k∧Best f n least N∧IsInts w' (some ⟨b,0,none⟩) (ints N)∧Below w.heap.size w w'∧w.heap.size≤b:=by
 have m1:∀w,(Instr.makeSlice 92 (.int .i64 n) (.int .i64 n)).run Tryz.prog w=.ok (.slice (some ⟨w.heap.size,0,none⟩) n n) (w.alloc (.cells (rowN n fun _=>0) 3)):=make_ints n (by omega)
 have HG:=hid (And.intro h hf);clear h hf
 go_enter Tryz.func122,Tryz.ntmps122
 go_wp2_with fail
 have A0:AtN (w.alloc (.cells (rowN n fun _=>0) 3)) w.heap.size n (fun _=>0):=heap_alloc_new _ _
 have B0:Below w.heap.size w (w.alloc (.cells (rowN n fun _=>0) 3)):=(Below.refl _ _).alloc (Nat.le_refl _) _
 generalize (w.alloc (.cells (rowN n fun _=>0) 3))=w0 at *
 obtain ⟨c0,hc0⟩:∃c0,w.heap.size=c0:=⟨_,rfl⟩;rw [hc0] at A0 ⊢;have HC0:=hid hc0;have HA:=hid (And.intro A0 B0);clear A0 B0 hc0 m1
 go_loopw [15] (fun i wr=>∃k:Nat,k≤n∧i=.int .i64 k∧AtN wr c0 n (fun j=>if j<k then f j else 0)∧Below w.heap.size w wr) (fun i _=>n-(intOf i).toNat)
 case atStart=>exact ⟨0,Nat.zero_le _,rfl,HA.out.1.congr fun j _=>by simp,HA.out.2⟩
 case round=>
  obtain ⟨k,hk,rfl,hA,hb⟩:=hrel;clear HA
  by_cases hlt:k<n
  ·have hlt':(k:Int)<n:=by omega
   have d1:=(hb.cell (p:=⟨g,k,none⟩) HG.out.1.lt).trans (HG.out.1.cell k hlt);have g0:=hA.cell k hlt;have g1:=hA.frozen k;have hfk:=HG.out.2 k hlt;have NX:=hid (hA.set k (f k))
   have HF:Hid (∀j,(if j=k then f k else if j<k then f j else 0)=if j<k+1 then f j else 0):=hid fun j=>by
    by_cases hj:j=k
    ·subst hj;simp
    ·rw [if_neg hj]
     by_cases hj2:j<k
     ·rw [if_pos hj2,if_pos (by omega)]
     ·rw [if_neg hj2,if_neg (by omega)]
   have HB:=hid hb
   have FIN:Hid (AtN (wr.setCell ⟨c0,k,none⟩ (.int .i64 (f k:Nat))) c0 n (fun j=>if j<k+1 then f j else 0)∧Below w.heap.size w (wr.setCell ⟨c0,k,none⟩ (.int .i64 (f k:Nat)))):=hid
    ⟨NX.out.congr fun j _=>HF.out j,HB.out.setCell (by rw [←HC0.out];exact Nat.le_refl _) _⟩
   generalize f k=fk at *;have e1:min (fk:Int) 1073741824=fk:=by omega
   have e2:(if (1073741824:Int)<(fk:Int) then (1073741824:Int) else (fk:Int))=fk:=by split <;> omega
   have e3:decide ((1073741824:Int)<(fk:Int))=false:=by simp;omega
   clear hA hb NX HF HB
   go_wp2_with fail
   refine ⟨⟨k+1,by omega,by go_num,FIN.out.1,FIN.out.2⟩,?_⟩
   simp [intOf];omega
  ·obtain rfl:k=n:=by omega
   have HA:=hid (And.intro (hA.congr (g:=f) fun j hj=>by rw [if_pos hj]) hb)
   have CB:=hid (best_most (some ⟨c0,0,none⟩) k k 15 ((List.range k).map f) wr (by simp) HA.out.1.isInts (by omega) (by decide) (by decide) (Nat.le_trans hn (by decide)) (by
    intro x hx;obtain ⟨s,hs,rfl⟩:=List.mem_map.1 hx;exact HG.out.2 s (List.mem_range.1 hs)))
   rw [show ((15:Nat):Int)=15 from rfl] at CB
   clear hA hb
   go_wp2_with fail
   refine CB.out.mono ?_;rintro r w1 ⟨bl,O,rfl,hF,hI,b1,hbl,hTK⟩;have TK:=hid hTK;have hOl:O.length=k:=by rw [hF.len];simp
   have HO:Hid (O.length=k∧(∀x∈O,x≤15)∧used O 15≤32768∧∀s,s<k→f s≠0→O.getD s 0≠0):=hid ⟨hOl,hF.le,hF.room,fun s hs h0 h1=>by
    have:=(hF.some_ s (by simpa using hs)).1 h1
    rw [range_getD k _ _ hs] at this;exact h0 this⟩
   have HI:=hid hI;have HN1:=hid (hOl ▸ nums_of hI (by omega))
   have HB1:=hid (HA.out.2.trans (b1.mono HA.out.2.size));have HBL:Hid (w.heap.size≤bl):=hid (Nat.le_trans HA.out.2.size hbl);clear hF hI b1 hbl CB HA hOl hTK
   go_wp2_with fail
   go_loopw [8] (fun s wr=>∃k1:Nat,s=.slice (some ⟨bl,0,none⟩) k1 k∧least≤k1∧k1≤k∧(∀i,k1≤i→i<k→O.getD i 0=0)∧∃q,wr=w1.drewN q) (fun s _=>match s with | .slice _ n _=>n | _=>0)
   case atStart=>exact ⟨k,rfl,hl,Nat.le_refl _,fun i h1 h2=>by omega,0,rfl⟩
   case round=>
    obtain ⟨k1,rfl,hk4,hk19,hrest,qq,rfl⟩:=hrel
    have OUT:Hid ((k1=least∨O.getD (k1-1) 0≠0)→∃N,N.length=k1∧Best f k least N∧IsInts (w1.drewN qq) (some ⟨bl,0,none⟩) (ints N)∧Below w.heap.size w (w1.drewN qq)∧w.heap.size≤bl):=hid (by
     intro hlast;obtain ⟨o1,o2,o3,o4⟩:=HO.out;obtain ⟨P,hP,hO⟩:=TK.out
     have hr:∀i,k1≤i→O.getD i 0=0:=fun i hi=>by
      rcases Nat.lt_or_ge i k with h | h
      ·exact hrest i hi h
      ·rw [List.getD_eq_getElem?_getD,List.getElem?_eq_none (by omega)];rfl
     have hlen:(O.take k1).length=k1:=by rw [List.length_take];omega
     have hget:∀s,s<k1→(O.take k1).getD s 0=O.getD s 0:=fun s hs=>by
      rw [List.getD_eq_getElem?_getD,List.getD_eq_getElem?_getD,List.getElem?_take_of_lt hs]
     refine ⟨O.take k1,hlen,⟨by omega,by omega,fun x hx=>o2 x (List.mem_of_mem_take hx),by rw [used_take hr];exact o3,fun s hs h0=>?_,P,hP,?_⟩,?_,below_draws HB1.out,HBL.out⟩
     ·have h2:=o4 s hs h0;rcases Nat.lt_or_ge s k1 with h3 | h3
      ·rw [hget s h3];exact h2
      ·exact absurd (hr s h3) h2
     ·rw [←hO];exact ⟨by rw [hlen],by rw [hlen];exact hk4,by rw [hlen];exact hk19,by rw [hlen];exact hrest,by rw [hlen];exact hlast⟩
     ·intro h0;refine ⟨bl,0,rfl,HN1.out.lt,fun i hi=>?_⟩
      have hi2:i<k1:=by rw [ints_length,hlen] at hi;exact hi
      rw [Nat.zero_add,ints_get _ i (by omega),hget i hi2]
      exact HN1.out.cell i (by omega))
    by_cases h4:least<k1
    ·obtain ⟨kk,hkk⟩:∃kk,k1-1=kk:=⟨_,rfl⟩;have hkk1:(k1:Int)-1=kk:=by omega
     have hkk3:kk<k1:=by omega
     have cl:(w1.drewN qq).cell? ⟨bl,kk,none⟩=some (.int .i64 (O.getD kk 0:Nat)):=HN1.out.cell kk (by omega)
     obtain ⟨ox,hox⟩:∃ox,O.getD kk 0=ox:=⟨_,rfl⟩;rw [hox] at cl;have g1:decide ((least:Int)<k1)=true:=by simp;omega
     have g2:decide (least<k1)=true:=by simp;omega
     have HOX:=hid hox
     by_cases hz:ox=0
     ·subst hz
      have HR:Hid (∀i,kk≤i→i<k→O.getD i 0=0):=hid fun i h1 h2=>by
       rcases Nat.lt_or_ge i k1 with h | h
       ·rw [show i=kk by omega];exact HOX.out
       ·exact hrest i h h2
      clear hrest hox hkk OUT
      go_wp2_with fail
      refine ⟨⟨kk,rfl,by omega,by omega,HR.out,_,rfl⟩,?_⟩
      show kk<k1;exact hkk3
     ·have z1:((ox:Int)==0)=false:=by simp;omega
      have z2:¬(ox:Int)=0:=by omega
      have LST:Hid (k1=least∨O.getD (k1-1) 0≠0):=hid (.inr (by rw [hkk,hox];exact hz))
      clear hrest hox hkk
      go_wp2_with fail
      go_ret;obtain ⟨N,o1,o2⟩:=OUT.out LST.out;exact ⟨bl,k1,N,rfl,o1,o2⟩
    ·have g1:decide ((least:Int)<k1)=false:=by simp;omega
     have g2:decide (least<k1)=false:=by simp;omega
     have LST:Hid (k1=least∨O.getD (k1-1) 0≠0):=hid (.inl (by omega))
     clear hrest
     go_wp2_with fail
     go_ret;obtain ⟨N,o1,o2⟩:=OUT.out LST.out;exact ⟨bl,k1,N,rfl,o1,o2⟩
end Go.Proofs.YthbjllabgpaaaaaGreat.Dfl
