/-
  Contract of symbols.Fixed: both rows are new ones.
-/
import Derived.Test.YthbjllabgpaaaaaGreatAllSym
namespace Go.Proofs.YthbjllabgpaaaaaGreat.Dfl
open Go.Lib (hid)
set_option maxHeartbeats 4000000
open Go.ChangeShapes Go.WideShapes Go.ChangeAt Go.RowKit
open Go.Proofs.YthbjllabgpaaaaaGreat.Huf (IsInts cellsN cellsN_length cellsN_append info_int info_parts cellsN_one)
open Go.Proofs.YthbjllabgpaaaaaGreat.Bit (Near From wpList_append_near grow_alloc below_row ownsRow_block)
open Go.Proofs.YthbjllabgpaaaaaGreat.Sym
set_option linter.unusedVariables false
set_option maxRecDepth 100000
theorem fixed_new (w:World) :
  Calls Tryz.prog 114 #[] w fun e w'=>∃a ca b cb,e=.returned (.tuple #[.slice (some ⟨a,0,none⟩) 288 ca,.slice (some ⟨b,0,none⟩) 30 cb])∧IsInts w' (some ⟨a,0,none⟩) (ints fxL)∧IsInts w' (some ⟨b,0,none⟩) (ints fxD)∧Below w.heap.size w w'∧w.heap.size≤a∧w.heap.size≤b:=by
 obtain ⟨t0,hi,hz0,hz1,hz2⟩:=info_parts info_int;have hB:=Nat.le_refl w.heap.size
 go_enter Tryz.func114,Tryz.ntmps114
 go_wp2_with fail
 go_loopw [0,3] (fun v i wr=>∃k:Nat,k≤288∧i=.int .i64 k∧wr.ownsRow 0 3 1 v k (cellsN (fxLk k))∧Below w.heap.size w wr∧From w.heap.size v) (fun _ i _=>288-(intOf i).toNat)
 case atStart=>exact ⟨0,by omega,rfl,World.ownsRow_nil _ _ _ _,Below.refl _ _,From.nil _⟩
 case round=>
  obtain ⟨k,hk,rfl,h1,bl1,f1⟩:=hrel;have H1:=hid h1;have BF:=hid (And.intro bl1 f1);clear h1 bl1 f1
  by_cases hlt:k<288
  ·have hlt':(k:Int)<288:=by omega
   have HK:=hid (show k+1≤288∧288-(k+1)<288-k by omega)
   by_cases c1:k≤143
   ·have hx:fxF k=8:=by unfold fxF;(repeat' split) <;> omega
    have HX:=hid hx;have c1':(k:Int)≤143:=by omega
    clear hx hlt hk
    go_wp2_with (at_builtin;refine wpList_append_near _ rfl _ _ 92 rfl 3 t0 (.int .i64 0) 1 8 Tryz.underlying92 hi hz0 hz1 hz2 rfl (by decide) u0 k (cellsN (fxLk k)) rfl (H1.out.alloc _) ⟨wr.heap.size,0,none⟩ 1 1 [.int .i64 ((8:Nat):Int)] rfl rfl (cell_one_new _ _ _) (by intro u hu;simp at hu;subst hu;rfl) (by unfold maxLen;omega) (by omega) ?_;intro v' w1 ho hg hn)
    have HH:=hid (app_next (fxLk_length k) hB BF.out.1 BF.out.2 ho hg hn);clear ho hg hn H1 BF
    go_wp2
    refine ⟨⟨k+1,HK.out.1,by go_num,by rw [fxLk_succ,HX.out];exact HH.out.1,HH.out.2.1,HH.out.2.2⟩,?_⟩
    have:=HK.out.2
    simp [intOf];omega
   by_cases c2:k≤255
   ·have hx:fxF k=9:=by unfold fxF;(repeat' split) <;> omega
    have HX:=hid hx;have c1':¬((k:Int)≤143):=by omega
    have c2':(k:Int)≤255:=by omega
    clear hx hlt hk
    go_wp2_with (at_builtin;refine wpList_append_near _ rfl _ _ 92 rfl 3 t0 (.int .i64 0) 1 8 Tryz.underlying92 hi hz0 hz1 hz2 rfl (by decide) u0 k (cellsN (fxLk k)) rfl (H1.out.alloc _) ⟨wr.heap.size,0,none⟩ 1 1 [.int .i64 ((9:Nat):Int)] rfl rfl (cell_one_new _ _ _) (by intro u hu;simp at hu;subst hu;rfl) (by unfold maxLen;omega) (by omega) ?_;intro v' w1 ho hg hn)
    have HH:=hid (app_next (fxLk_length k) hB BF.out.1 BF.out.2 ho hg hn);clear ho hg hn H1 BF
    go_wp2
    refine ⟨⟨k+1,HK.out.1,by go_num,by rw [fxLk_succ,HX.out];exact HH.out.1,HH.out.2.1,HH.out.2.2⟩,?_⟩
    have:=HK.out.2
    simp [intOf];omega
   by_cases c3:k≤279
   ·have hx:fxF k=7:=by unfold fxF;(repeat' split) <;> omega
    have HX:=hid hx;have c1':¬((k:Int)≤143):=by omega
    have c2':¬((k:Int)≤255):=by omega
    have c3':(k:Int)≤279:=by omega
    clear hx hlt hk
    go_wp2_with (at_builtin;refine wpList_append_near _ rfl _ _ 92 rfl 3 t0 (.int .i64 0) 1 8 Tryz.underlying92 hi hz0 hz1 hz2 rfl (by decide) u0 k (cellsN (fxLk k)) rfl (H1.out.alloc _) ⟨wr.heap.size,0,none⟩ 1 1 [.int .i64 ((7:Nat):Int)] rfl rfl (cell_one_new _ _ _) (by intro u hu;simp at hu;subst hu;rfl) (by unfold maxLen;omega) (by omega) ?_;intro v' w1 ho hg hn)
    have HH:=hid (app_next (fxLk_length k) hB BF.out.1 BF.out.2 ho hg hn);clear ho hg hn H1 BF
    go_wp2
    refine ⟨⟨k+1,HK.out.1,by go_num,by rw [fxLk_succ,HX.out];exact HH.out.1,HH.out.2.1,HH.out.2.2⟩,?_⟩
    have:=HK.out.2
    simp [intOf];omega
   have hx:fxF k=8:=by unfold fxF;(repeat' split) <;> omega
   have HX:=hid hx;have c1':¬((k:Int)≤143):=by omega
   have c2':¬((k:Int)≤255):=by omega
   have c3':¬((k:Int)≤279):=by omega
   clear hx hlt hk
   go_wp2_with (at_builtin;refine wpList_append_near _ rfl _ _ 92 rfl 3 t0 (.int .i64 0) 1 8 Tryz.underlying92 hi hz0 hz1 hz2 rfl (by decide) u0 k (cellsN (fxLk k)) rfl (H1.out.alloc _) ⟨wr.heap.size,0,none⟩ 1 1 [.int .i64 ((8:Nat):Int)] rfl rfl (cell_one_new _ _ _) (by intro u hu;simp at hu;subst hu;rfl) (by unfold maxLen;omega) (by omega) ?_;intro v' w1 ho hg hn)
   have HH:=hid (app_next (fxLk_length k) hB BF.out.1 BF.out.2 ho hg hn);clear ho hg hn H1 BF
   go_wp2
   refine ⟨⟨k+1,HK.out.1,by go_num,by rw [fxLk_succ,HX.out];exact HH.out.1,HH.out.2.1,HH.out.2.2⟩,?_⟩
   have:=HK.out.2
   simp [intOf];omega
  ·obtain rfl:k=288:=by omega
   rw [show ((288:Nat):Int)=288 from rfl]
   obtain ⟨ga,ca,rfl,hIA⟩:=row_ints H1.out (fxLk_length 288) (by decide)
   have HIA:=hid hIA;have HBL:=hid BF.out.1;have HFA:=hid (BF.out.2 ga rfl);have hB2:=Nat.le_refl wr.heap.size;clear hIA H1 BF hk hlt;generalize hwr:wr=wz at *;clear hwr
   go_wp2_with fail
   go_loopw [1,28] (fun v i wr=>∃k:Nat,k≤30∧i=.int .i64 k∧wr.ownsRow 0 3 1 v k (cellsN (List.replicate k 5))∧Below wz.heap.size wz wr∧From wz.heap.size v) (fun _ i _=>30-(intOf i).toNat)
   case atStart=>exact ⟨0,by omega,rfl,World.ownsRow_nil _ _ _ _,Below.refl _ _,From.nil _⟩
   case round=>
    obtain ⟨k,hk,rfl,h1,bl1,f1⟩:=hrel;have H1:=hid h1;have BF:=hid (And.intro bl1 f1);clear h1 bl1 f1
    by_cases hlt:k<30
    ·have hlt':(k:Int)<30:=by omega
     have HK:=hid (show k+1≤30∧30-(k+1)<30-k by omega)
     clear hlt hk
     go_wp2_with (at_builtin;refine wpList_append_near _ rfl _ _ 92 rfl 3 t0 (.int .i64 0) 1 8 Tryz.underlying92 hi hz0 hz1 hz2 rfl (by decide) u1 k (cellsN (List.replicate k 5)) rfl (H1.out.alloc _) ⟨wr.heap.size,0,none⟩ 1 1 [.int .i64 ((5:Nat):Int)] rfl rfl (cell_one_new _ _ _) (by intro u hu;simp at hu;subst hu;rfl) (by unfold maxLen;omega) (by omega) ?_;intro v' w1 ho hg hn)
     have HH:=hid (app_next (List.length_replicate) hB2 BF.out.1 BF.out.2 ho hg hn);clear ho hg hn H1 BF
     go_wp2
     refine ⟨⟨k+1,HK.out.1,by go_num,by rw [fxD_succ];exact HH.out.1,HH.out.2.1,HH.out.2.2⟩,?_⟩
     have:=HK.out.2
     simp [intOf];omega
    ·obtain rfl:k=30:=by omega
     rw [show ((30:Nat):Int)=30 from rfl]
     obtain ⟨gb,cb,rfl,hIB⟩:=row_ints H1.out (List.length_replicate) (by decide)
     have HIB:=hid hIB;have HIA2:=hid (HIA.out.below BF.out.1 (Nat.le_refl _));have HB2:=hid (HBL.out.trans (BF.out.1.mono HBL.out.size));have HFB:=hid (Nat.le_trans HBL.out.size (BF.out.2 gb rfl));clear hIB H1 BF hk hlt HIA HBL
     go_wp2_with fail
     go_ret2;exact ⟨_,_,_,_,rfl,HIA2.out,HIB.out,HB2.out,HFA.out,HFB.out⟩
end Go.Proofs.YthbjllabgpaaaaaGreat.Dfl
