/-
  Contracts of deflate's alike and runs.
-/
import Derived.Test.YthbjllabgpaaaaaGreatDflRowA
namespace Go.Proofs.YthbjllabgpaaaaaGreat.Dfl
open Go.Lib (hid)
set_option maxHeartbeats 4000000
open Go.ChangeShapes Go.WideShapes Go.ChangeAt Go.RowKit
open Go.Proofs.YthbjllabgpaaaaaGreat.Def
open Go.Proofs.YthbjllabgpaaaaaGreat.Huf (IsInts)
open Go.Proofs.YthbjllabgpaaaaaGreat.Sym (ints ints_length ints_get)
set_option linter.unusedVariables false
set_option maxRecDepth 100000
theorem own_lit (w:World) (g:Nat) (y:Nat×Nat) (h:w.heap[g]?=some (.cells #[.int .i64 (y.1:Nat),.int .i64 (y.2:Nat),.int .i64 (xb y.1:Nat)] 187 (0,0))):w.ownsRow 0 187 3 (.slice (some ⟨g,0,none⟩) 1 1) 1 (cellsR [y]):=
 ⟨rfl,.inr ⟨g,1,_,rfl,Nat.zero_le _,h,Nat.le_refl _,(by decide),rfl,rfl⟩⟩
theorem alike_any (x n:Nat) (w:World) (hx:x<16) (hn:n≤1000) (h1:1≤n) :
  Calls Tryz.prog 170 #[.int .i64 x,.int .i64 n] w fun e w'=>∃v Y,e=.returned v∧Alk x Y n∧RunsAt w.heap.size w' v Y∧Below w.heap.size w w'∧AlkR x n Y:=by
 obtain ⟨i0,hi,hz0,hz1,hz2⟩:=Huf.info_parts info_run
 by_cases h0:x=0
 ·subst h0;have hx0:((0:Nat):Int)=0:=rfl;rw [hx0]
  go_enter Tryz.func170,Tryz.ntmps170
  go_wp2_with fail
  have bX:Below w.heap.size w (w.alloc (.cells #[.int .i64 18,.int .i64 11,.int .i64 7,.int .i64 17,.int .i64 3,.int .i64 3] 231)):=(Below.refl _ _).alloc (Nat.le_refl _) _;have hX:=heap_alloc_new w (.cells #[.int .i64 18,.int .i64 11,.int .i64 7,.int .i64 17,.int .i64 3,.int .i64 3] 231);generalize (w.alloc (.cells #[.int .i64 18,.int .i64 11,.int .i64 7,.int .i64 17,.int .i64 3,.int .i64 3] 231))=w2 at *
  have SP:SpansAt w2 w.heap.size [18,17]:=by
   refine ⟨(Array.getElem?_eq_some_iff.1 hX).1,fun i hi=>?_⟩
   have hc:∀j,w2.cell? ⟨w.heap.size,j,none⟩=_:=fun j=>cell_of_row _ _ j _ _ _ hX
   rw [hc,hc,hc];obtain rfl | rfl:i=0∨i=1:=by simp at hi;omega
   ·exact ⟨rfl,rfl,rfl⟩
   ·exact ⟨rfl,rfl,rfl⟩
  have C1:=hid (several_any w.heap.size [18,17] 2 2 0 n w2 rfl SP (by intro s hs;simp at hs;unfold okS;omega) (by decide) hn (by decide))
  rw [hx0] at C1;have HB:=hid bX;clear SP bX hX hx0;refine C1.out.mono ?_;rintro r w3 ⟨v,Y,rfl,hY,hR,b3,hSR⟩;have HSR:=hid hSR;clear hSR;have FIN:=hid (And.intro (Alk.zero hY) (And.intro (show RunsAt w.heap.size w3 v Y from ⟨hR.own,fun j hj=>by have:=hR.new j hj;have:=HB.out.size;omega⟩) (HB.out.trans (b3.mono HB.out.size))))
  clear hY hR b3 C1 HB
  go_wp2_with fail
  go_ret;exact ⟨v,Y,rfl,FIN.out.1,FIN.out.2.1,FIN.out.2.2,.inl ⟨rfl,HSR.out⟩⟩
 ·have hx1:((x:Int)==0)=false:=by simp;omega
  have hx2:¬(x:Int)=0:=by omega
  obtain ⟨m,hm⟩:∃m,n-1=m:=⟨_,rfl⟩;have hm1:(n:Int)-1=m:=by omega
  go_enter Tryz.func170,Tryz.ntmps170
  go_wp2_with fail
  have hW0:=heap_alloc_new w (.cells #[.int .i64 x,.int .i64 0,.int .i64 0] 187);have b1:Below w.heap.size w (w.alloc (.cells #[.int .i64 x,.int .i64 0,.int .i64 0] 187)):=(Below.refl _ _).alloc (Nat.le_refl _) _;have s1:(w.alloc (.cells #[.int .i64 x,.int .i64 0,.int .i64 0] 187)).heap.size=w.heap.size+1:=by simp
  generalize (w.alloc (.cells #[.int .i64 x,.int .i64 0,.int .i64 0] 187))=w1 at *;have hX:=heap_alloc_new w1 (.cells #[.int .i64 16,.int .i64 3,.int .i64 2] 231);have b2:Below w1.heap.size w1 (w1.alloc (.cells #[.int .i64 16,.int .i64 3,.int .i64 2] 231)):=(Below.refl _ _).alloc (Nat.le_refl _) _;generalize (w1.alloc (.cells #[.int .i64 16,.int .i64 3,.int .i64 2] 231))=w2 at *;rw [s1] at hX
  have SP:SpansAt w2 (w.heap.size+1) [16]:=by
   refine ⟨(Array.getElem?_eq_some_iff.1 hX).1,fun i hi=>?_⟩
   have hc:∀j,w2.cell? ⟨w.heap.size+1,j,none⟩=_:=fun j=>cell_of_row _ _ j _ _ _ hX
   rw [hc,hc,hc];obtain rfl:i=0:=by simp at hi;omega
   exact ⟨rfl,rfl,rfl⟩
  have C1:=hid (several_any (w.heap.size+1) [16] 1 1 x m w2 rfl SP (by intro s hs;simp at hs;unfold okS;omega) hx (by omega) (by decide))
  have hxb:xb x=0:=by unfold xb;rw [if_pos hx]
  have hlt1:w.heap.size<w1.heap.size:=by omega
  have HW0:Hid (∀w',Below w2.heap.size w2 w'→w'.heap[w.heap.size]?=some (.cells #[.int .i64 x,.int .i64 0,.int .i64 0] 187 (0,0))∧Below w.heap.size w w'):=hid fun w' k=>by
   have hs2:=b2.size;refine ⟨?_,(b1.trans (b2.mono (by omega))).trans (k.mono (by omega))⟩
   rw [k.block _ (by omega),b2.block _ hlt1];exact hW0
  have HS2:Hid (w.heap.size≤w2.heap.size):=hid (by have:=b2.size;omega)
  have HXB:=hid hxb;clear SP b1 b2 hX hW0 s1 hlt1 hxb;refine C1.out.mono ?_;rintro r w3 ⟨v,Y,rfl,hY,hR,b3,hSR⟩;have HSR:=hid hSR;clear hSR;obtain ⟨hX3,hB3⟩:=HW0.out w3 b3;have hown:w3.ownsRow 0 187 3 (.slice (some ⟨w.heap.size,0,none⟩) 1 1) 1 (cellsR [(x,0)]):=own_lit w3 w.heap.size (x,0) (by simp only [HXB.out];exact hX3)
  have HO:=hid hown;have HA:=hid (Alk.one hx hY);have hyl:Y.length≤1000:=by have:=hY.2;omega
  have R3:RunsAt w.heap.size w3 (.slice (some ⟨w.heap.size,0,none⟩) 1 1) [(x,0)]:=⟨hown,fun j hj=>by cases hj;exact Nat.le_refl _⟩
  have HS:=hid hR.sees
  have NEXT:Hid (∀wr' v',w3.grownBy wr' (Value.slice (some ⟨w.heap.size,0,none⟩) 1 1).ownBlock→Bit.Near w3 (.slice (some ⟨w.heap.size,0,none⟩) 1 1) v'→wr'.ownsRow 0 187 3 v' (1+Y.length) (cellsR [(x,0)]++cellsR Y)→RunsAt w.heap.size wr' v' ([(x,0)]++Y)∧Below w.heap.size w wr'):=by
   intro wr' v' g1 n1 o1;exact R3.grown (Z:=Y) hB3 (Nat.le_refl _) o1 g1 n1
  generalize hYL:Y.length=yl at *;clear hX3 hB3 hown R3 hR hY b3 C1 HW0
  go_wp2_with (at_builtin;refine Huf.wpl_append_sees _ rfl _ _ 183 rfl 187 i0 (.agg #[.int .i64 0,.int .i64 0,.int .i64 0]) 3 24 Tryz.underlying183 hi hz0 hz1 hz2 rfl (by decide) (.slice (some ⟨w.heap.size,0,none⟩) 1 1) 1 (cellsR [(x,0)]) rfl HO.out _ yl (cellsR Y) rfl HS.out (by unfold maxLen;omega) (by omega) ?_;intro v7 w7 o7 g7 n7;have H7:=hid (NEXT.out w7 v7 g7 n7 o7);clear o7 g7 n7)
  go_ret;refine ⟨_,_,rfl,?_,H7.out.1,H7.out.2,.inr ⟨h0,Y,rfl,by rw [show n-1=m by omega];exact HSR.out⟩⟩
  have:=HA.out
  rw [show m+1=n by omega] at this
  exact this
theorem below_draws {B n:Nat} {w w':World} (h:Below B w w'):Below B w (w'.drewN n):=⟨h.os,h.tape,h.output,h.size,h.block⟩
theorem runs_any (g n cap:Nat) (L:List Nat) (w:World) (hL:L.length=n) (hg:g<w.heap.size) (hc:∀i (h:i<L.length),w.cell? ⟨g,i,none⟩=some (.int .i64 (L[i]:Nat))) (hcap:n≤cap) (hn:n≤1000) (h15:∀x∈L,x<16) :
  Calls Tryz.prog 148 #[.slice (some ⟨g,0,none⟩) n cap] w fun e w'=>∃v Y,e=.returned v∧Mk [] Y L∧RunsAt w.heap.size w' v Y∧Below w.heap.size w w'∧RunR L Y:=by
 obtain ⟨i0,hi,hz0,hz1,hz2⟩:=Huf.info_parts info_run;have HC:=hid (And.intro hg hc);have HL:=hid (And.intro hL h15);clear hg hc hL h15
 go_enter Tryz.func148,Tryz.ntmps148
 go_wp2_with fail
 go_loopw [0,3] (fun s u wr=>∃(k off c:Nat) (Y:List (Nat×Nat)),k≤n∧n-k≤c∧(k<n→off=k)∧s=.slice (some ⟨g,off,none⟩) (n-k) c∧Mk [] Y (L.take k)∧Y.length≤k∧RunsAt w.heap.size wr u Y∧Below w.heap.size w wr∧RunK L k Y) (fun s _ _=>match s with | .slice _ m _=>m | _=>0)
 case atStart=>exact ⟨0,0,cap,[],Nat.zero_le _,by omega,fun _=>rfl,rfl,by rw [List.take_zero];exact .done _,Nat.le_refl _,RunsAt.nil _ _,Below.refl _ _,fun Z h=>h⟩
 case round=>
  obtain ⟨k,off,c,Y,hk,hkc,hoff,rfl,hY,hyl,hR,hb,hK⟩:=hrel;have HKK:=hid hK;clear hK
  by_cases hlt:k<n
  ·obtain rfl:=hoff hlt;obtain ⟨m,hm⟩:∃m,n-off=m:=⟨_,rfl⟩;rw [hm] at hkc ⊢;have hm0:0<m:=by omega
   have hm1:(0:Int)<m:=by omega
   have hcell:∀j (h:j<m),wr.cell? ⟨g,off+j,none⟩=some (.int .i64 ((L.getD (off+j) 0:Nat):Int)):=fun j hj=>by
    have h1:=HL.out.1;rw [List.getD_eq_getElem?_getD,List.getElem?_eq_getElem (by omega),Option.getD_some]
    exact (hb.cell (p:=⟨g,off+j,none⟩) HC.out.1).trans (HC.out.2 _ (by omega))
   have h0:=hcell 0 hm0;rw [Nat.add_zero] at h0;obtain ⟨x,hx⟩:∃x,L.getD off 0=x:=⟨_,rfl⟩;rw [hx] at h0
   have hx15:x<16:=by
    have h1:=HL.out.1;rw [List.getD_eq_getElem?_getD,List.getElem?_eq_getElem (by omega),Option.getD_some] at hx
    rw [←hx];exact HL.out.2 _ (List.getElem_mem _)
   have HCE:=hid hcell;have HX:=hid hx;have HY:=hid (And.intro hY (And.intro hyl (And.intro hR hb)));clear hY hyl hR hb hcell hx hoff
   go_wp2_with fail
   go_loopw [4] (fun s w'=>∃j:Nat,1≤j∧j≤m∧s=.int .i64 j∧(∀i,i<j→L.getD (off+i) 0=x)∧∃q,w'=wr.drewN q) (fun s _=>m-(intOf s).toNat)
   case atStart=>
    refine ⟨1,Nat.le_refl _,hm0,rfl,fun i hi=>?_,0,rfl⟩
    rw [show off+i=off by omega];exact HX.out
   case round=>
    obtain ⟨j,hj1,hj2,rfl,hall,qq,rfl⟩:=hrel;have HALL:=hid hall;clear hall
    by_cases hA:j<m∧L.getD (off+j) 0=x
    ·obtain ⟨hjm,hjx⟩:=hA;have hcj:=HCE.out j hjm;rw [hjx] at hcj;have t1:decide ((j:Int)<m)=true:=by simp;omega
     have t2:decide (j<m)=true:=by simp;omega
     have HJ:=hid hjx;clear hjx
     go_wp2_with fail
     go_quiet (fail)
     go_wp2_with fail
     refine ⟨⟨j+1,by omega,by omega,by go_num,fun i hi=>?_,_,rfl⟩,?_⟩
     ·rcases Nat.lt_or_ge i j with h | h
      ·exact HALL.out i h
      ·rw [show i=j by omega];exact HJ.out
     ·simp [intOf];omega
    ·have TAIL:(j<m→∃y,L.getD (off+j) 0=y∧y≠x):=fun h=>⟨_,rfl,fun e=>hA ⟨h,e⟩⟩
     by_cases hjm:j<m
     ·obtain ⟨y,hy,hyx⟩:=TAIL hjm;have hcj:=HCE.out j hjm;rw [hy] at hcj;have t1:decide ((j:Int)<m)=true:=by simp;omega
      have t2:decide (j<m)=true:=by simp;omega
      have t3:((y:Int)==(x:Int))=false:=by simp;omega
      have t4:(y==x)=false:=by simp;omega
      have HEND:Hid (off+j<L.length→L.getD (off+j) 0≠x):=hid fun _=>by rw [hy];exact hyx
      clear hy hyx TAIL hA
      go_wp2_with fail
      go_quiet (fail)
      clear hcj;obtain ⟨W,hW⟩:∃W,(wr.drewN qq).drewN nq=W:=⟨_,rfl⟩;have RW:RunsAt w.heap.size W u3 Y:=by rw [←hW];exact ⟨HY.out.2.2.1.own,HY.out.2.2.1.new⟩
      have BW:Below w.heap.size w W:=by rw [←hW];exact below_draws (below_draws HY.out.2.2.2)
      have e0:W.cell? ⟨g,off,none⟩=some (.int .i64 x):=by rw [←hW];exact h0
      rw [hW];have RW:=hid RW;have BW:=hid BW;have HMK:=hid HY.out.1;have HYL:=hid HY.out.2.1;clear hW h0 HY HCE;have CA:=hid (alike_any x j W hx15 (by omega) hj1)
      go_wp2_with fail
      refine CA.out.mono ?_;rintro r w6 ⟨v,Z,rfl,hZ,hRZ,b6,hAR⟩;have HAR:=hid hAR;clear hAR;have R6:=hid (RW.out.below b6);have B6:=hid (BW.out.trans (b6.mono BW.out.size));have HS:=hid hRZ.sees;have HZ:=hid hZ;have hzl:Z.length≤1000:=by have:=hZ.2;omega
      have hyl2:Y.length≤1000:=by have:=HYL.out;omega
      have NEXT:Hid (∀wr' v',w6.grownBy wr' u3.ownBlock→Bit.Near w6 u3 v'→wr'.ownsRow 0 187 3 v' (Y.length+Z.length) (cellsR Y++cellsR Z)→RunsAt w.heap.size wr' v' (Y++Z)∧Below w.heap.size w wr'):=
       fun wr' v' g1 n1 o1=>R6.out.grown B6.out (Nat.le_refl _) o1 g1 n1
      have HO:=hid R6.out.own;obtain ⟨yl,hYL⟩:∃yl,Y.length=yl:=⟨_,rfl⟩;obtain ⟨zl,hZL⟩:∃zl,Z.length=zl:=⟨_,rfl⟩;have HYL2:=hid (And.intro hYL hZL);rw [hYL] at HO hyl2;rw [hZL] at HS hzl;rw [hYL,hZL] at NEXT;clear hYL hZL hZ hRZ b6 R6 B6 RW BW CA e0
      go_wp2_with (at_builtin;refine Huf.wpl_append_sees _ rfl _ _ 183 rfl 187 i0 (.agg #[.int .i64 0,.int .i64 0,.int .i64 0]) 3 24 Tryz.underlying183 hi hz0 hz1 hz2 rfl (by decide) u3 yl (cellsR Y) rfl HO.out _ zl (cellsR Z) rfl HS.out (by unfold maxLen;omega) (by omega) ?_;intro v7 w7 o7 g7 n7;have H7:=hid (NEXT.out w7 v7 g7 n7 o7);clear o7 g7 n7)
      have HL1:=HL.out.1
      have MK:Mk [] (Y++Z) (L.take (off+j)):=alike_more HMK.out HZ.out (fun i hi=>by
       have h1:=HALL.out i hi;rw [List.getD_eq_getElem?_getD,List.getElem?_eq_getElem (by omega),Option.getD_some] at h1
       rw [List.getElem?_eq_getElem (by omega),h1]) (by omega)
      have NK:RunK L (off+j) (Y++Z):=run_next HKK.out hj1 (by omega) HALL.out HEND.out HAR.out
      have LEN:(Y++Z).length≤off+j:=by
       have h1:=HZ.out.2;have h2:=HYL.out;rw [List.length_append];omega
      refine ⟨⟨off+j,_,c-j,Y++Z,by omega,by omega,fun _=>rfl,by rw [show n-(off+j)=m-j by omega],MK,LEN,H7.out.1,H7.out.2,NK⟩,?_⟩
      show m-j<m;omega
     ·have t1:decide ((j:Int)<m)=false:=by simp;omega
      have t2:decide (j<m)=false:=by simp;omega
      have HEND:Hid (off+j<L.length→L.getD (off+j) 0≠x):=hid fun h=>by have:=HL.out.1;omega
      clear TAIL hA
      go_wp2_with fail
      go_quiet (fail)
      obtain ⟨W,hW⟩:∃W,(wr.drewN qq).drewN nq=W:=⟨_,rfl⟩;have RW:RunsAt w.heap.size W u3 Y:=by rw [←hW];exact ⟨HY.out.2.2.1.own,HY.out.2.2.1.new⟩
      have BW:Below w.heap.size w W:=by rw [←hW];exact below_draws (below_draws HY.out.2.2.2)
      have e0:W.cell? ⟨g,off,none⟩=some (.int .i64 x):=by rw [←hW];exact h0
      rw [hW];have RW:=hid RW;have BW:=hid BW;have HMK:=hid HY.out.1;have HYL:=hid HY.out.2.1;clear hW h0 HY HCE;have CA:=hid (alike_any x j W hx15 (by omega) hj1)
      go_wp2_with fail
      refine CA.out.mono ?_;rintro r w6 ⟨v,Z,rfl,hZ,hRZ,b6,hAR⟩;have HAR:=hid hAR;clear hAR;have R6:=hid (RW.out.below b6);have B6:=hid (BW.out.trans (b6.mono BW.out.size));have HS:=hid hRZ.sees;have HZ:=hid hZ;have hzl:Z.length≤1000:=by have:=hZ.2;omega
      have hyl2:Y.length≤1000:=by have:=HYL.out;omega
      have NEXT:Hid (∀wr' v',w6.grownBy wr' u3.ownBlock→Bit.Near w6 u3 v'→wr'.ownsRow 0 187 3 v' (Y.length+Z.length) (cellsR Y++cellsR Z)→RunsAt w.heap.size wr' v' (Y++Z)∧Below w.heap.size w wr'):=
       fun wr' v' g1 n1 o1=>R6.out.grown B6.out (Nat.le_refl _) o1 g1 n1
      have HO:=hid R6.out.own;obtain ⟨yl,hYL⟩:∃yl,Y.length=yl:=⟨_,rfl⟩;obtain ⟨zl,hZL⟩:∃zl,Z.length=zl:=⟨_,rfl⟩;have HYL2:=hid (And.intro hYL hZL);rw [hYL] at HO hyl2;rw [hZL] at HS hzl;rw [hYL,hZL] at NEXT;clear hYL hZL hZ hRZ b6 R6 B6 RW BW CA e0
      go_wp2_with (at_builtin;refine Huf.wpl_append_sees _ rfl _ _ 183 rfl 187 i0 (.agg #[.int .i64 0,.int .i64 0,.int .i64 0]) 3 24 Tryz.underlying183 hi hz0 hz1 hz2 rfl (by decide) u3 yl (cellsR Y) rfl HO.out _ zl (cellsR Z) rfl HS.out (by unfold maxLen;omega) (by omega) ?_;intro v7 w7 o7 g7 n7;have H7:=hid (NEXT.out w7 v7 g7 n7 o7);clear o7 g7 n7)
      all_goals (
       have HL1:=HL.out.1
       have MK:Mk [] (Y++Z) (L.take (off+j)):=alike_more HMK.out HZ.out (fun i hi=>by
        have h1:=HALL.out i hi;rw [List.getD_eq_getElem?_getD,List.getElem?_eq_getElem (by omega),Option.getD_some] at h1
        rw [List.getElem?_eq_getElem (by omega),h1]) (by omega)
       have NK:RunK L (off+j) (Y++Z):=run_next HKK.out hj1 (by omega) HALL.out HEND.out HAR.out
       have LEN:(Y++Z).length≤off+j:=by
        have h1:=HZ.out.2;have h2:=HYL.out;rw [List.length_append];omega
       refine ⟨⟨off+j,(if c=j then off else off+j),c-j,Y++Z,by omega,by omega,fun h=>by omega,by rw [show n-(off+j)=m-j by omega];split <;> rfl,MK,LEN,H7.out.1,H7.out.2,NK⟩,?_⟩
       show m-j<m
       omega)
  ·obtain rfl:k=n:=by omega
   have hz:k-k=0:=Nat.sub_self k;rw [hz];have HL1:=HL.out.1;rw [List.take_of_length_le (by omega)] at hY
   have HF:=hid (And.intro hY (And.intro hR hb));clear hY hR hb
   go_wp2_with fail
   go_ret;exact ⟨_,_,rfl,HF.out.1,HF.out.2.1,HF.out.2.2,by have:=HKK.out [] (by rw [List.drop_of_length_le (by omega)];exact .nil);rwa [List.append_nil] at this⟩
end Go.Proofs.YthbjllabgpaaaaaGreat.Dfl
