/-
  Texts in one: LzBase, LzLong, LzExp, LzRef, LzPlain, LzPk, LzRep, LzChain, LzChains, LzLongest, LzPack.
-/
import Derived.Test.YthbjllabgpaaaaaGreatAllLz
import Derived.Laws.MakeOwn
import Derived.Test.YthbjllabgpaaaaaGreatAllBit
import Derived.Laws.CopyOwn
import Derived.Deep.RegionLaw
import Derived.Maps.OwnSet
import Derived.Maps.OwnOps
import Derived.Maps.Views
namespace Go.Proofs.YthbjllabgpaaaaaGreat.Lz
open Go.Lib (hid)
set_option maxHeartbeats 2000000
open Go.ChangeShapes Go.WideShapes Go.ChangeAt Go.RowKit
set_option linter.unusedVariables false
def tailB (s:ByteArray):ByteArray:=s.extract (s.size-32768) s.size
theorem tailB_list (s:ByteArray):(tailB s).data.toList=tailL s.data.toList:=by
 unfold tailB tailL;simp [ByteArray.data_extract]
 apply List.take_of_length_le
 simp
theorem tailB_size (s:ByteArray):(tailB s).size=min s.size 32768:=by
 have:=congrArg List.length (tailB_list s)
 rw [tailL_length] at this
 simpa using this
theorem bytes_ext {a b:ByteArray} (h:a.data.toList=b.data.toList):a=b:=by
 cases a;cases b
 simp at h;rw [h]
theorem tailB_small (s:ByteArray) (h:s.size≤32768):tailB s=s:=bytes_ext (by rw [tailB_list,tailL_small (by simpa using h)])
theorem tail_any (s:ByteArray) (w:World) (hs:s.size≤maxLen) :
  Calls Tryz.prog 46 #[.string s] w fun e w'=>e=.returned (.string (tailB s))∧w=w':=by
 unfold maxLen at hs;obtain ⟨m,hm⟩:∃m:Nat,s.size-32768=m:=⟨_,rfl⟩;have h1:max ((s.size:Int)-32768) 0=(m:Int):=by omega
 have h2:(if (s.size:Int)-32768<0 then (0:Int) else (s.size:Int)-32768)=(m:Int):=by split <;> omega
 have hms:m≤s.size:=by omega
 have e:tailB s=s.extract m s.size:=by unfold tailB;rw [hm]
 rw [e];clear e hm
 go_enter Tryz.func46,Tryz.ntmps46
 go_wp2_with fail
 go_ret;exact ⟨rfl,rfl⟩
theorem refTail_any (s:ByteArray) (w:World) (hs:s.size≤maxLen) :
  Calls Tryz.prog 90 #[.string s] w fun e w'=>e=.returned (.string (tailB s))∧w=w':=by
 unfold maxLen at hs
 by_cases h:32768<s.size
 ·obtain ⟨m,hm⟩:∃m:Nat,s.size=m+32768:=⟨s.size-32768,by omega⟩
  have e:tailB s=s.extract m s.size:=by unfold tailB;rw [show s.size-32768=m by omega]
  have h1:(s.size:Int)-32768=(m:Int):=by omega
  have hms:m≤s.size:=by omega
  rw [e];clear e hm
  go_enter Tryz.func90,Tryz.ntmps90
  go_wp2_with fail
  go_ret;exact ⟨rfl,rfl⟩
 ·rw [tailB_small s (by omega)]
  go_enter Tryz.func90,Tryz.ntmps90
  go_wp2_with fail
  go_ret;exact ⟨rfl,rfl⟩
end Go.Proofs.YthbjllabgpaaaaaGreat.Lz
namespace Go.Proofs.YthbjllabgpaaaaaGreat.Lz
open Go.Lib (hid)
set_option maxHeartbeats 2000000
open Go.ChangeShapes Go.WideShapes Go.ChangeAt Go.RowKit
set_option linter.unusedVariables false
theorem grown_near {a b c:World} {v v1:Value} (h:a.grownBy b v.ownBlock) (n:Near a v v1) (k:b.grownBy c v1.ownBlock):a.grownBy c v.ownBlock:=by
 refine ⟨k.os.trans h.os,k.tape.trans h.tape,k.output.trans h.output,Nat.le_trans h.size k.size,fun i hi hv=>?_⟩
 refine (k.block i (Nat.lt_of_lt_of_le hi h.size) fun e=>?_).trans (h.block i hi hv)
 rcases n i e.symm with h1 | h1
 ·exact hv h1.symm
 ·omega
theorem own_ne {w:World} {B size n P:Nat} {e T:TypeId} {v:Value} {xs:List Value} {cs:Array Value} (h:w.ownsRow B e size v n xs) (hP:w.heap[P]?=some (.cells cs T (0,0))) (hT:T≠e):v.ownBlock≠some P:=by
 intro h1;rcases h.2 with ⟨rfl,_⟩ | ⟨g,cap,cur,rfl,_,hg,_⟩
 ·simp [Value.ownBlock] at h1
 ·simp only [Value.ownBlock,Option.some.injEq] at h1;subst h1;rw [hP] at hg;simp only [Option.some.injEq,Obj.cells.injEq] at hg;exact hT hg.2.1
theorem cellsU_append (l m:List UInt8):cellsU (l++m)=cellsU l++cellsU m:=by simp [cellsU]
theorem cellsU_one (l:List UInt8):∀u∈cellsU l,u.oneCell'=true:=by
 intro u hu;obtain ⟨x,_,rfl⟩:=List.mem_map.1 hu
 rfl
theorem litU (w:World) (x:UInt8) (T:TypeId):∀j u,(cellsU [x])[j]?=some u→(w.alloc (.cells #[.int .u8 x.toNat] T)).cell? ((⟨w.heap.size,0,none⟩:Addr).add j)=some u:=by
 intro j u h
 match j,h with
 | 0,h=>
  simp [cellsU] at h;subst h;rw [Oct.addr_add,cell_of_row _ _ 0 _ _ _ (heap_alloc_new _ _)];rfl
 | j+1,h=>simp [cellsU] at h
theorem more_made {win bs:List UInt8} {all:List UInt8} {D k:Nat} (h:win++bs=cp all D k) (hD:1≤D) :
  (D≤bs.length→win++(bs++[bs.getD (bs.length-D) 0])=cp all D (k+1))∧(bs.length<D→D≤win.length+bs.length→win++(bs++[win.getD (win.length+bs.length-D) 0])=cp all D (k+1)):=by
 rw [cp,←h,List.length_append];refine ⟨fun h1=>?_,fun h1 h2=>?_⟩
 ·have e:(win++bs).getD (win.length+bs.length-D) 0=bs.getD (bs.length-D) 0:=by
   simp only [List.getD_eq_getElem?_getD];rw [List.getElem?_append_right (by omega),show win.length+bs.length-D-win.length=bs.length-D by omega]
  rw [e,List.append_assoc]
 ·have e:(win++bs).getD (win.length+bs.length-D) 0=win.getD (win.length+bs.length-D) 0:=by
   simp only [List.getD_eq_getElem?_getD];rw [List.getElem?_append_left (by omega)]
  rw [e,List.append_assoc]
set_option maxRecDepth 10000 in
theorem longer_any (win:ByteArray) (v:Value) (bs:List UInt8) (z:Int) (L D:Nat) (w:World) (hown:w.ownsRow 0 5 1 v bs.length (cellsU bs)) (h1:1≤D) (h2:D≤win.size+bs.length) (hL:L≤258)
  (hs:win.size≤1000000000) (hb:bs.length≤1000000000) :
  Calls Tryz.prog 162 #[.string win,v,.agg #[.int .i64 z,.int .i64 L,.int .i64 D]] w fun e w'=>∃v' bs',e=.returned v'∧win.data.toList++bs'=cp (win.data.toList++bs) D L ∧
   w'.ownsRow 0 5 1 v' bs'.length (cellsU bs')∧w.grownBy w' v.ownBlock∧Near w v v':=by
 obtain ⟨i0,hi,hz0,hz1,hz2⟩:=info_parts info_u8;have HO:=hid hown;clear hown
 go_enter Tryz.func162,Tryz.ntmps162
 go_wp2_with fail
 go_loopw [1,9] (fun x i wr=>∃(k:Nat) (bk:List UInt8),k≤L∧bk.length=bs.length+k∧i=.int .i64 k∧win.data.toList++bk=cp (win.data.toList++bs) D k∧wr.ownsRow 0 5 1 x bk.length (cellsU bk) ∧
   wr.heap[w.heap.size]?=some (.cells #[.int .i64 z,.int .i64 L,.int .i64 D] 136 (0,0))∧w.grownBy wr v.ownBlock∧Near w v x) (fun _ i _=>L-(intOf i).toNat)
 case atStart=>
  exact ⟨0,bs,Nat.zero_le _,rfl,rfl,rfl,HO.out.alloc _,heap_alloc_new _ _,World.grownBy_alloc _ _ _,Near.refl _ _⟩
 case round=>
  obtain ⟨k,bk,hk,hlen,rfl,hcp,ho,hP,hg,hn⟩:=hrel;clear HO
  have KEEP:Hid (∀(x:UInt8) bk' v' w',win.data.toList++bk'=cp (win.data.toList++bs) D (k+1)→bk'=bk++[x]→w'.ownsRow 0 5 1 v' (bk.length+1) (cellsU bk++cellsU [x])→(wr.alloc (.cells #[.int .u8 x.toNat] 5)).grownBy w' u1.ownBlock →
    Near (wr.alloc (.cells #[.int .u8 x.toNat] 5)) u1 v'→bk'.length=bs.length+(k+1)∧win.data.toList++bk'=cp (win.data.toList++bs) D (k+1)∧w'.ownsRow 0 5 1 v' bk'.length (cellsU bk') ∧
   w'.heap[w.heap.size]?=some (.cells #[.int .i64 z,.int .i64 L,.int .i64 D] 136 (0,0))∧w.grownBy w' v.ownBlock∧Near w v v'):=by
   refine hid fun x bk' v' w' q1 q2 q3 q4 q5=>?_
   have g0:wr.grownBy (wr.alloc (.cells #[.int .u8 x.toNat] 5)) u1.ownBlock:=World.grownBy_alloc _ _ _;have g1:wr.grownBy w' u1.ownBlock:=g0.trans q4;refine ⟨by rw [q2,List.length_append,hlen];simp;omega,q1,?_,?_,grown_near hg hn g1,hn.trans (fun j hj=>?_) hg.size⟩
   ·rw [q2,List.length_append,cellsU_append];exact q3
   ·rw [g1.block _ (Array.getElem?_eq_some_iff.1 hP).1 (fun e=>own_ne ho hP (by decide) e.symm)];exact hP
   ·rcases q5 j hj with h | h
    ·exact .inl h
    ·have:=g0.size;exact .inr (by omega)
  have hM:=hid (more_made hcp h1);have HO:=hid ho;have HG:=hid hg;have HN:=hid hn;have HC:=hid hcp;have c1:wr.cell? ⟨w.heap.size,1,none⟩=some (.int .i64 L):=by rw [cell_of_row _ _ 1 _ _ _ hP];rfl
  have c2:wr.cell? ⟨w.heap.size,2,none⟩=some (.int .i64 D):=by rw [cell_of_row _ _ 2 _ _ _ hP];rfl
  clear hP hg hn hcp
  by_cases hlt:k<L
  ·by_cases hd:D≤bk.length
   ·obtain ⟨g,cap,rfl⟩:=own_form ho (by omega)
    obtain ⟨m,hm⟩:∃m:Nat,bk.length-D=m:=⟨_,rfl⟩;have hmb:m<bk.length:=by omega
    have hx:=hM.out.1 hd;rw [hm] at hx
    have hcl:wr.cell? ⟨g,m,none⟩=some (.int .u8 ((bk.getD m 0).toNat:Nat)):=by
     rw [ho.cellAt m (by omega)]
     simp [cellsU,List.getD_eq_getElem?_getD,hmb]
    generalize bk.getD m 0=x at *;generalize hN:bk.length=N at *;have hi1:(N:Int)-(D:Int)=(m:Int):=by omega
    have hNb:N≤1000000258:=by omega
    clear ho hm hM h2 hlen;have HX:=hid hx;clear hx;clear hN
    go_wp2_with (at_builtin;refine wpList_append_near _ rfl (.tmp 16) (.tmp 25) 68 rfl 5 i0 (.int .u8 0) 1 1 Tryz.underlying68 hi hz0 hz1 hz2 rfl (by decide) (.slice (some ⟨g,0,none⟩) N cap) N (cellsU bk) rfl (HO.out.alloc _) ⟨wr.heap.size,0,none⟩ 1 1 (cellsU [x]) rfl rfl (litU _ _ _) (cellsU_one _) (by unfold maxLen;omega) (by omega) ?_;intro v3 w3 o3 g3 n3)
    have hh:=KEEP.out x _ v3 w3 HX.out rfl o3 g3 n3;have HH:=hid hh;clear o3 g3 n3 hh KEEP
    go_wp2_with fail
    exact ⟨⟨k+1,_,by omega,HH.out.1,by go_num,HH.out.2⟩,by simp [intOf];omega⟩
   ·obtain ⟨m,hm⟩:∃m:Nat,win.size+bk.length-D=m:=⟨_,rfl⟩;have hmb:m<win.size:=by omega
    have hx:=hM.out.2 (by omega) (by show D≤win.data.toList.length+_;simp;omega)
    have ew:win.data.toList.length=win.size:=by simp
    rw [ew,hm] at hx
    have ex:win.data.toList.getD m 0=win[m]:=by
     simp [List.getD_eq_getElem?_getD,hmb];rfl
    rw [ex] at hx
    have hf:∃a c,u1=.slice a bk.length c:=by
     rcases ho.2 with ⟨e,h0⟩ | ⟨g,cap,cur,e,_⟩
     ·exact ⟨none,0,by rw [e,h0]⟩
     ·exact ⟨_,cap,e⟩
    obtain ⟨ga,gc,rfl⟩:=hf;generalize hN:bk.length=N at *;have hi1:(win.size:Int)+(N:Int)-(D:Int)=(m:Int):=by omega
    have hNb:N≤1000000258:=by omega
    clear ho hm hM h2 hlen ex;have HX:=hid hx;clear hx;clear hN
    go_wp2_with (at_builtin;refine wpList_append_near _ rfl (.tmp 27) (.tmp 38) 68 rfl 5 i0 (.int .u8 0) 1 1 Tryz.underlying68 hi hz0 hz1 hz2 rfl (by decide) (.slice ga N gc) N (cellsU bk) rfl (HO.out.alloc _) ⟨wr.heap.size,0,none⟩ 1 1 (cellsU [win[m]]) rfl rfl (litU _ _ _) (cellsU_one _) (by unfold maxLen;omega) (by omega) ?_;intro v3 w3 o3 g3 n3)
    have hh:=KEEP.out win[m] _ v3 w3 HX.out rfl o3 g3 n3;have HH:=hid hh;clear o3 g3 n3 hh KEEP
    go_wp2_with fail
    exact ⟨⟨k+1,_,by omega,HH.out.1,by go_num,HH.out.2⟩,by simp [intOf];omega⟩
  ·obtain rfl:k=L:=by omega
   clear ho hM KEEP
   go_wp2_with fail
   go_ret;exact ⟨_,bk,rfl,HC.out,HO.out,HG.out,HN.out⟩
end Go.Proofs.YthbjllabgpaaaaaGreat.Lz
namespace Go.Proofs.YthbjllabgpaaaaaGreat.Lz
open Go.Lib (hid)
set_option maxHeartbeats 2000000
open Go.ChangeShapes Go.WideShapes Go.ChangeAt Go.RowKit
set_option linter.unusedVariables false
theorem run_string_row (w:World) (v:Value) (bs:List UInt8) (h:w.ownsRow 0 5 1 v bs.length (cellsU bs)):(convert 68 9 v).run Tryz.prog w=.ok (.string ⟨bs.toArray⟩) w:=by
 rcases h.2 with ⟨rfl,h0⟩ | ⟨g,cap,cur,rfl,_⟩
 ·have:bs=[]:=List.length_eq_zero_iff.1 h0
  subst this;rw [run_convert_bytes_string w 68 9 5 _ _ _ (by kernel_rfl) (by kernel_rfl) (by kernel_rfl)]
  rfl
 ·exact Oct.run_string_of _ _ _ 5 _ _ bs bs.length rfl (by kernel_rfl) (by kernel_rfl) (by kernel_rfl) (fun j hj=>by
   rw [Oct.addr_add,h.cellAt j (by omega)]
   rfl)
theorem exp_of_bad {win:List UInt8} {l:List Tok} {e:Int} (h:run (tailL win) l=([],e)):expL win l=[]∧expE win l=e:=by
 unfold expL expE;rw [h];exact ⟨List.drop_nil,rfl⟩
set_option maxRecDepth 10000 in
theorem expand_any (win:ByteArray) (a:Option Addr) (l:List Tok) (n cap:Nat) (w:World) (hn:l.length=n) (h:IsToks w a l) (hs:win.size≤maxLen) (hl:n≤3000000) :
  Calls Tryz.prog 138 #[.string win,.slice a n cap] w fun e w'=>e=.returned (.tuple #[.string ⟨(expL win.data.toList l).toArray⟩,.int .i64 (expE win.data.toList l)])∧Below w.heap.size w w':=by
 obtain ⟨i0,hi,hz0,hz1,hz2⟩:=info_parts info_u8;have H:=hid h;clear h;obtain ⟨rs,hrs⟩:∃rs,ByteArray.mk (expL win.data.toList l).toArray=rs:=⟨_,rfl⟩;obtain ⟨re,hre⟩:∃re,expE win.data.toList l=re:=⟨_,rfl⟩;rw [hrs,hre];have C1:=hid (tail_any win w hs);obtain ⟨s,hsT⟩:∃s,tailB win=s:=⟨_,rfl⟩;have hss:s.size≤32768:=by rw [←hsT,tailB_size];omega
 have hT:tailL win.data.toList=s.data.toList:=by rw [←tailB_list,hsT]
 rw [hsT] at C1
 have BAD:Hid (∀e,run s.data.toList l=([],e)→rs=⟨#[]⟩∧re=e):=hid fun e he=>by
  rw [←hT] at he;obtain ⟨k1,k2⟩:=exp_of_bad he;exact ⟨by rw [←hrs,k1],by rw [←hre,k2]⟩
 have GOOD:Hid (∀bk,run s.data.toList l=(s.data.toList++bk,0)→rs=⟨bk.toArray⟩∧re=0):=hid fun bk he=>by
  rw [←hT] at he;obtain ⟨k1,k2⟩:=exp_good he;exact ⟨by rw [←hrs,k1],by rw [←hre,k2]⟩
 clear hsT hT hs hrs hre
 go_enter Tryz.func138,Tryz.ntmps138
 go_wp2_with fail
 refine C1.out.mono ?_;rintro r w' ⟨rfl,rfl⟩;clear C1
 go_wp2_with fail
 go_loopw [6,13] (fun x i wr=>∃(k:Nat) (bk:List UInt8),k≤n∧bk.length≤258*k∧i=.int .i64 k∧run s.data.toList (l.take k)=(s.data.toList++bk,0)∧wr.ownsRow 0 5 1 x bk.length (cellsU bk) ∧
   Below w.heap.size w wr∧∀j,x.ownBlock=some j→w.heap.size≤j) (fun _ i _=>n-(intOf i).toNat)
 case atStart=>
  exact ⟨0,[],Nat.zero_le _,by simp,rfl,by simp [run],World.ownsRow_nil _ _ _ _,Below.refl _ _,fun j hj=>by simp [Value.ownBlock] at hj⟩
 case round=>
  obtain ⟨k,bk,hk,hlen,rfl,hrun,ho,hb,hv⟩:=hrel
  by_cases hlt:k<n
  ·obtain ⟨b,off,rfl,hbb,hc⟩:=H.out (by omega)
   obtain ⟨q1,q2,q3⟩:=hc k (by omega)
   have c1:=(hb.cell hbb).trans q1;have c2:=(hb.cell hbb).trans q2;have c3:=(hb.cell hbb).trans q3;clear q1 q2 q3 hc hbb;generalize htk:l[k]=t at *;have hall:(s.data.toList++bk).length=s.size+bk.length:=by simp
   -- what the token does
   have BADK:Hid (errT (s.size+bk.length) t≠0→rs=⟨#[]⟩∧re=errT (s.size+bk.length) t):=hid fun he=>by
    have:=run_at (k:=k) (by omega) hrun (by rw [hall,htk];exact he)
    rw [hall,htk] at this;exact BAD.out _ this
   have NEXTK:Hid (errT (s.size+bk.length) t=0→run s.data.toList (l.take (k+1))=(stepT (s.data.toList++bk) t,0)):=hid fun he=>by
    have:=run_next (k:=k) (by omega) hrun (by rw [hall,htk];exact he)
    rw [htk] at this;exact this
   have HO:=hid ho;have HB:=hid hb;have HV:=hid hv
   obtain ⟨ua,uc,rfl⟩:∃a c,u6=.slice a bk.length c:=by
    rcases ho.2 with ⟨e,h0⟩ | ⟨g,cap,cur,e,_⟩
    ·exact ⟨none,0,by rw [e,h0]⟩
    ·exact ⟨_,cap,e⟩
   clear htk hrun ho hb hv hall
   go_wp2_with fail
   refine (valid_any t _).mono ?_;rintro r w' ⟨rfl,rfl⟩;obtain ⟨X,hX⟩:∃X,Obj.cells (tokC t) 136=X:=⟨_,rfl⟩
   have hP:((wr.alloc X).alloc X).heap[wr.heap.size]?=some X:=by
    rw [Below.heap_alloc _ _ _ (by simp)];exact heap_alloc_new _ _
   have hb2:=(HB.out.alloc HB.out.size X).alloc (by have:=HB.out.size;simp;omega) X
   have hg2:wr.grownBy ((wr.alloc X).alloc X) none:=(World.grownBy_alloc _ _ _).trans (World.grownBy_alloc _ _ _);have ho2:=(HO.out.alloc X).alloc X;have hX2:X=.cells #[.int .i64 t.B,.int .i64 t.L,.int .i64 t.D] 136:=hX.symm
   change Obj.cells #[.int .i64 t.B,.int .i64 t.L,.int .i64 t.D] 136=X at hX
   rw [show Obj.cells (tokC t) 136=X from hX,hX]
   have hz:wr.heap.size<((wr.alloc X).alloc X).heap.size:=by simp;omega
   generalize (wr.alloc X).alloc X=w2 at *;rw [hX2] at hP;have d1:w2.cell? ⟨wr.heap.size,0,none⟩=some (.int .i64 t.B):=by rw [cell_of_row _ _ 0 _ _ _ hP];rfl
   have d2:w2.cell? ⟨wr.heap.size,1,none⟩=some (.int .i64 t.L):=by rw [cell_of_row _ _ 1 _ _ _ hP];rfl
   have d3:w2.cell? ⟨wr.heap.size,2,none⟩=some (.int .i64 t.D):=by rw [cell_of_row _ _ 2 _ _ _ hP];rfl
   have HV2:∀j,(Value.slice ua bk.length uc).ownBlock=some j→w.heap.size≤j:=HV.out;have hzw:w.heap.size≤w2.heap.size:=hb2.size;clear hX hX2 hP hg2 c1 c2 c3 HB HO HV BAD GOOD;generalize wr.heap.size=P at *;have HO:=hid ho2;have HB:=hid hb2;have HV:=hid HV2;clear ho2 hb2 HV2
   have STEP:Hid (∀(bk':List UInt8) v' w',errT (s.size+bk.length) t=0→stepT (s.data.toList++bk) t=s.data.toList++bk'→bk'.length≤bk.length+258→w'.ownsRow 0 5 1 v' bk'.length (cellsU bk')→Below w.heap.size w w'→(∀j,v'.ownBlock=some j→w.heap.size≤j) →
     bk'.length≤258*(k+1)∧run s.data.toList (l.take (k+1))=(s.data.toList++bk',0)∧w'.ownsRow 0 5 1 v' bk'.length (cellsU bk')∧Below w.heap.size w w'∧∀j,v'.ownBlock=some j→w.heap.size≤j):=hid fun bk' v' w' e1 e2 e3 e4 e5 e6=>
    ⟨by omega,by rw [NEXTK.out e1,e2],e4,e5,e6⟩
   have hNb:bk.length≤774000000:=by omega
   cases hokt:okT t with
   | false=>
    have he:errT (s.size+bk.length) t=1:=by unfold errT;rw [hokt];rfl
    obtain ⟨k1,k2⟩:=BADK.out (by rw [he];decide)
    rw [he] at k2;subst k1 k2;clear he BADK NEXTK STEP hlen;generalize bk.length=N at *
    go_wp2_with fail
    go_ret2;exact ⟨rfl,HB.out⟩
   | true=>
    by_cases hd:((s.size+bk.length:Nat):Int)<t.D
    ·have he:errT (s.size+bk.length) t=60:=by unfold errT;rw [hokt,if_pos rfl,if_pos hd]
     obtain ⟨k1,k2⟩:=BADK.out (by rw [he];decide)
     rw [he] at k2;subst k1 k2;clear he BADK NEXTK STEP hlen;generalize bk.length=N at *;have hd2:(s.size:Int)+(N:Int)<t.D:=by omega
     clear hd
     go_wp2_with fail
     go_ret2;exact ⟨rfl,HB.out⟩
    ·have he:errT (s.size+bk.length) t=0:=errT_good hokt (by omega)
     by_cases hL:t.L=0
     ·obtain ⟨e0,e1,e2⟩:=okT_byte hokt hL;obtain ⟨x,hx⟩:∃x:UInt8,UInt8.ofNat t.B.toNat=x:=⟨_,rfl⟩;have hB:t.B=(x.toNat:Nat):=by rw [←hx,UInt8.toNat_ofNat'];omega
      have hst:stepT (s.data.toList++bk) t=s.data.toList++(bk++[x]):=by
       unfold stepT;rw [if_pos hL,hx,List.append_assoc]
      have ST:Hid (∀v' w',w'.ownsRow 0 5 1 v' (bk.length+1) (cellsU bk++cellsU [x])→(w2.alloc (.cells #[.int .u8 x.toNat] 5)).grownBy w' (Value.slice ua bk.length uc).ownBlock→Near (w2.alloc (.cells #[.int .u8 x.toNat] 5)) (.slice ua bk.length uc) v' →
        (bk++[x]).length≤258*(k+1)∧run s.data.toList (l.take (k+1))=(s.data.toList++(bk++[x]),0)∧w'.ownsRow 0 5 1 v' (bk++[x]).length (cellsU (bk++[x]))∧Below w.heap.size w w'∧∀j,v'.ownBlock=some j→w.heap.size≤j):=hid fun v' w' o3 g3 n3=>
       STEP.out (bk++[x]) v' w' he hst (by simp) (by rw [cellsU_append,List.length_append];exact o3)
        ((HB.out.alloc HB.out.size _).grown g3 (by simp;omega) HV.out) (fun j hj=>by
         rcases n3 j hj with h | h
         ·exact HV.out j h
         ·simp at h;omega)
      rw [hB] at d1;rw [hL] at d2;rw [e0] at d3;have hx2:=x.toNat_lt;clear hst hx hd he BADK NEXTK STEP e1 e2 hlen;generalize hN:bk.length=N at *;clear hN
      go_wp2_with (at_builtin;refine wpList_append_near _ rfl (.tmp 38) (.tmp 42) 68 rfl 5 i0 (.int .u8 0) 1 1 Tryz.underlying68 hi hz0 hz1 hz2 rfl (by decide) (.slice ua N uc) N (cellsU bk) rfl (HO.out.alloc _) ⟨w2.heap.size,0,none⟩ 1 1 (cellsU [x]) rfl rfl (litU _ _ _) (cellsU_one _) (by unfold maxLen;omega) (by omega) ?_;intro v3 w3 o3 g3 n3)
      have hh:=ST.out v3 w3 o3 g3 n3;exact ⟨⟨k+1,_,by omega,hh.1,by go_num,hh.2⟩,by simp [intOf];omega⟩
     ·obtain ⟨e0,e1,e2,e3,e4⟩:=okT_piece hokt hL;obtain ⟨L,hLn⟩:∃L:Nat,t.L=L:=⟨t.L.toNat,by omega⟩
      obtain ⟨D,hDn⟩:∃D:Nat,t.D=D:=⟨t.D.toNat,by omega⟩
      have hst:stepT (s.data.toList++bk) t=cp (s.data.toList++bk) D L:=by
       unfold stepT;rw [if_neg hL,hLn,hDn];rfl
      have ST:Hid (∀v' w' bs',s.data.toList++bs'=cp (s.data.toList++bk) D L→w'.ownsRow 0 5 1 v' bs'.length (cellsU bs')→w2.grownBy w' (Value.slice ua bk.length uc).ownBlock→Near w2 (.slice ua bk.length uc) v' →
        bs'.length≤258*(k+1)∧run s.data.toList (l.take (k+1))=(s.data.toList++bs',0)∧w'.ownsRow 0 5 1 v' bs'.length (cellsU bs')∧Below w.heap.size w w'∧∀j,v'.ownBlock=some j→w.heap.size≤j):=hid fun v' w' bs' q o3 g3 n3=>by
       have hl2:=congrArg List.length q;rw [cp_length,List.length_append,List.length_append] at hl2
       exact STEP.out bs' v' w' he (hst.trans q.symm) (by omega) o3 (HB.out.grown g3 hzw HV.out) (fun j hj=>by
        rcases n3 j hj with h | h
        ·exact HV.out j h
        ·omega)
      have CL:=hid (longer_any s (.slice ua bk.length uc) bk 0 L D w2 HO.out (by omega) (by omega) (by omega) (by omega) (by omega))
      rw [e0] at d1;rw [hLn] at d2;rw [hDn] at d3 hd;have hL3:¬L=0:=by omega
      have hL4:((L:Int)==0)=false:=by simpa using hL3
      clear hst he BADK NEXTK STEP e1 e2 e3 e4 hlen hL;generalize hN:bk.length=N at *;have hd3:¬((s.size:Int)+(N:Int)<(D:Int)):=by omega
      clear hN hd
      go_wp2_with fail
      refine CL.out.mono ?_;rintro r w' ⟨v',bs',rfl,q,o3,g3,n3⟩;have hh:=hid (ST.out v' w' bs' q o3 g3 n3);clear q o3 g3 n3 CL ST
      go_wp2_with fail
      exact ⟨⟨k+1,_,by omega,hh.out.1,by go_num,hh.out.2⟩,by simp [intOf];omega⟩
  ·obtain rfl:k=n:=by omega
   have e:l.take k=l:=List.take_of_length_le (by omega)
   rw [e] at hrun;obtain ⟨k1,k2⟩:=GOOD.out _ hrun;subst k2;have hcv:=run_string_row wr u6 bk ho;rw [←k1] at hcv;have HB:=hid hb;clear hrun ho hb hv BAD GOOD e k1
   go_wp2_with fail
   go_ret2;exact ⟨rfl,HB.out⟩
end Go.Proofs.YthbjllabgpaaaaaGreat.Lz
namespace Go.Proofs.YthbjllabgpaaaaaGreat.Lz
open Go.Lib (hid)
set_option maxHeartbeats 2000000
open Go.ChangeShapes Go.WideShapes Go.ChangeAt Go.RowKit
set_option linter.unusedVariables false
theorem run_string_cut (w:World) (g n cap i:Nat) (bs:List UInt8) (hn:bs.length=n) (h:w.ownsRow 0 5 1 (.slice (some ⟨g,0,none⟩) n cap) n (cellsU bs)) (hi:i≤n) :
  (convert 68 9 (.slice (some ⟨g,i,none⟩) (n-i) (cap-i))).run Tryz.prog w=.ok (.string ⟨(bs.drop i).toArray⟩) w:=by
 refine Oct.run_string_of _ _ _ 5 _ _ (bs.drop i) (n-i) (by simp [hn]) (by kernel_rfl) (by kernel_rfl) (by kernel_rfl) (fun j hj=>?_)
 rw [Go.WideShapes.add_plain,h.cellAt (i+j) (by omega)]
 simp [cellsU]
theorem own_slice {w:World} {B size n:Nat} {e:TypeId} {v:Value} {xs:List Value} (h:w.ownsRow B e size v n xs):∃a c,v=.slice a n c:=by
 rcases h.2 with ⟨e,h0⟩ | ⟨g,cap,cur,e,_⟩
 ·exact ⟨none,0,by rw [e,h0]⟩
 ·exact ⟨_,cap,e⟩
theorem own_slice0 {w:World} {B size n:Nat} {e:TypeId} {v:Value} {xs:List Value} (h:w.ownsRow B e size v (0+n) xs):∃a c,v=.slice a n c:=by
 rw [Nat.zero_add] at h;exact own_slice h
set_option maxRecDepth 10000 in
theorem refExpand_any (win:ByteArray) (a:Option Addr) (l:List Tok) (n cap:Nat) (w:World) (hn:l.length=n) (h:IsToks w a l) (hs:win.size≤maxLen) (hl:n≤3000000) :
  Calls Tryz.prog 57 #[.string win,.slice a n cap] w fun e w'=>e=.returned (.tuple #[.string ⟨(expL win.data.toList l).toArray⟩,.int .i64 (expE win.data.toList l)])∧Below w.heap.size w w':=by
 obtain ⟨i0,hi,hz0,hz1,hz2⟩:=info_parts info_u8;have H:=hid h;clear h;obtain ⟨rs,hrs⟩:∃rs,ByteArray.mk (expL win.data.toList l).toArray=rs:=⟨_,rfl⟩;obtain ⟨re,hre⟩:∃re,expE win.data.toList l=re:=⟨_,rfl⟩;rw [hrs,hre];have C1:=hid (refTail_any win w hs);obtain ⟨s,hsT⟩:∃s,tailB win=s:=⟨_,rfl⟩;have hss:s.size≤32768:=by rw [←hsT,tailB_size];omega
 have hT:tailL win.data.toList=s.data.toList:=by rw [←tailB_list,hsT]
 rw [hsT] at C1
 have BAD:Hid (∀e,run s.data.toList l=([],e)→rs=⟨#[]⟩∧re=e):=hid fun e he=>by
  rw [←hT] at he;obtain ⟨k1,k2⟩:=exp_of_bad he;exact ⟨by rw [←hrs,k1],by rw [←hre,k2]⟩
 have GOOD:Hid (∀al,run s.data.toList l=(al,0)→s.size≤al.length∧rs=⟨(al.drop s.size).toArray⟩∧re=0):=hid fun al he=>by
  obtain ⟨⟨r,hr⟩,_⟩:=run_pre _ _ _ he;subst hr;have he2:=he;rw [←hT] at he;obtain ⟨k1,k2⟩:=exp_good he;refine ⟨by simp,?_,by rw [←hre,k2]⟩
  have:(s.data.toList++r).drop s.size=r:=by
   have e:s.size=s.data.toList.length:=by simp
   rw [e];exact List.drop_left
  rw [this,←hrs,k1]
 have hSL:s.data.toList.length=s.size:=by simp
 clear hsT hT hs hrs hre
 go_enter Tryz.func57,Tryz.ntmps57
 go_wp2_with fail
 refine C1.out.mono ?_;rintro r w' ⟨rfl,rfl⟩;clear C1
 go_wp2_with (at_builtin;refine wpList_append_string_near _ rfl (.tmp 11) (.tmp 13) 68 9 rfl 5 i0 Tryz.underlying68 Tryz.underlying9 hi hz0 hz1 hz2 (.slice none 0 0) 0 [] rfl (World.ownsRow_nil _ _ _ _) s rfl (by unfold maxLen;omega) (by omega) ?_;intro v1 w1 o1 g1 n1;obtain ⟨va,vc,rfl⟩:=own_slice0 o1)
 have o2:w1.ownsRow 0 5 1 (.slice va s.size vc) s.data.toList.length (cellsU s.data.toList):=by
  rw [Nat.zero_add,List.nil_append,strCells_eq] at o1;rw [hSL];exact o1
 have b1:Below w.heap.size w w1:=(Below.refl _ _).grown g1 (Nat.le_refl _) (fun k hk=>by simp [Value.ownBlock] at hk)
 have f1:∀j,(Value.slice va s.size vc).ownBlock=some j→w.heap.size≤j:=fun j hj=>by
  rcases n1 j hj with h | h
  ·simp [Value.ownBlock] at h
  ·exact h
 have O1:=hid o2;have B1:=hid b1;have F1:=hid f1;clear o1 g1 n1 o2 b1 f1
 go_loopw [6,8] (fun x i wr=>∃(k:Nat) (al:List UInt8),k≤n∧al.length≤32768+258*k∧i=.int .i64 k∧run s.data.toList (l.take k)=(al,0)∧wr.ownsRow 0 5 1 x al.length (cellsU al) ∧
   Below w.heap.size w wr∧∀j,x.ownBlock=some j→w.heap.size≤j) (fun _ i _=>n-(intOf i).toNat)
 case atStart=>
  exact ⟨0,s.data.toList,Nat.zero_le _,by omega,rfl,by simp [run],O1.out,B1.out,F1.out⟩
 case round=>
  obtain ⟨k,al,hk,hlen,rfl,hrun,ho,hb,hv⟩:=hrel;clear O1 B1 F1
  by_cases hlt:k<n
  ·obtain ⟨b,off,rfl,hbb,hc⟩:=H.out (by omega)
   generalize htk:l[k]=t at *;obtain ⟨q1,q2,q3⟩:=hc k (by omega)
   rw [htk] at q1 q2 q3;have c1:=(hb.cell hbb).trans q1;have c2:=(hb.cell hbb).trans q2;have c3:=(hb.cell hbb).trans q3
   have BADK:Hid (errT al.length t≠0→rs=⟨#[]⟩∧re=errT al.length t):=hid fun he=>by
    have:=run_at (k:=k) (by omega) hrun (by rw [htk];exact he)
    rw [htk] at this;exact BAD.out _ this
   have NEXTK:Hid (errT al.length t=0→run s.data.toList (l.take (k+1))=(stepT al t,0)):=hid fun he=>by
    have:=run_next (k:=k) (by omega) hrun (by rw [htk];exact he)
    rw [htk] at this;exact this
   obtain ⟨ua,uc,rfl⟩:=own_slice ho;have HO:=hid ho;have HB:=hid hb;have HV:=hid hv;have Q1:=hid q1;have Q2:=hid q2;have Q3:=hid q3;have HBB:=hid hbb;clear htk hrun ho hb hv q1 q2 q3 hc hbb;generalize hN:al.length=N at *
   go_wp2_with fail
   refine (refValid_any t _).mono ?_;rintro r w' ⟨rfl,rfl⟩;have hb2:=HB.out.alloc HB.out.size (Obj.cells (tokC t) 136);have ho2:=HO.out.alloc (Obj.cells (tokC t) 136);have c1:=(hb2.cell HBB.out).trans Q1.out;have c2:=(hb2.cell HBB.out).trans Q2.out;have c3:=(hb2.cell HBB.out).trans Q3.out;have hzw:=hb2.size;clear HB HO;generalize wr.alloc (Obj.cells (tokC t) 136)=w2 at *;have HB:=hid hb2;have HO:=hid ho2;clear hb2 ho2;have hNb:N≤774033000:=by omega
   cases hokt:okT t with
   | false=>
    have he:errT N t=1:=by unfold errT;rw [hokt];rfl
    obtain ⟨k1,k2⟩:=BADK.out (by rw [he];decide)
    rw [he] at k2;subst k1 k2;clear he BADK NEXTK hlen BAD GOOD
    go_wp2_with fail
    go_ret2;exact ⟨rfl,HB.out⟩
   | true=>
    by_cases hL:t.L=0
    ·obtain ⟨e0,e1,e2⟩:=okT_byte hokt hL;have he:errT N t=0:=errT_good hokt (by omega)
     obtain ⟨x,hx⟩:∃x:UInt8,UInt8.ofNat t.B.toNat=x:=⟨_,rfl⟩;have hB:t.B=(x.toNat:Nat):=by rw [←hx,UInt8.toNat_ofNat'];omega
     have hst:run s.data.toList (l.take (k+1))=(al++[x],0):=by
      rw [NEXTK.out he];unfold stepT;rw [if_pos hL,hx]
     have ST:Hid (∀v' w',w'.ownsRow 0 5 1 v' (N+1) (cellsU al++cellsU [x])→(w2.alloc (.cells #[.int .u8 x.toNat] 5)).grownBy w' (Value.slice ua N uc).ownBlock→Near (w2.alloc (.cells #[.int .u8 x.toNat] 5)) (.slice ua N uc) v' →
       (al++[x]).length≤32768+258*(k+1)∧run s.data.toList (l.take (k+1))=(al++[x],0)∧w'.ownsRow 0 5 1 v' (al++[x]).length (cellsU (al++[x]))∧Below w.heap.size w w'∧∀j,v'.ownBlock=some j→w.heap.size≤j):=hid fun v' w' o3 g3 n3=>
      ⟨by rw [List.length_append,hN];simp;omega,hst,by rw [cellsU_append,List.length_append,hN];exact o3,
       (HB.out.alloc HB.out.size _).grown g3 (by simp;omega) HV.out,fun j hj=>by
        rcases n3 j hj with h | h
        ·exact HV.out j h
        ·simp at h;omega⟩
     rw [hB] at c1;rw [hL] at c2;rw [e0] at c3;have hx2:=x.toNat_lt;clear hst hx he BADK NEXTK e1 e2 hlen hN BAD GOOD
     go_wp2_with (at_builtin;refine wpList_append_near _ rfl (.tmp 36) (.tmp 43) 68 rfl 5 i0 (.int .u8 0) 1 1 Tryz.underlying68 hi hz0 hz1 hz2 rfl (by decide) (.slice ua N uc) N (cellsU al) rfl (HO.out.alloc _) ⟨w2.heap.size,0,none⟩ 1 1 (cellsU [x]) rfl rfl (litU _ _ _) (cellsU_one _) (by unfold maxLen;omega) (by omega) ?_;intro v3 w3 o3 g3 n3)
     have hh:=ST.out v3 w3 o3 g3 n3;exact ⟨⟨k+1,_,by omega,hh.1,by go_num,hh.2⟩,by simp [intOf];omega⟩
    ·have hL4:(t.L==0)=false:=by simpa using hL
     by_cases hd:(N:Int)<t.D
     ·have he:errT N t=60:=by unfold errT;rw [hokt,if_pos rfl,if_pos hd]
      obtain ⟨k1,k2⟩:=BADK.out (by rw [he];decide)
      rw [he] at k2;subst k1 k2;clear he BADK NEXTK hlen BAD GOOD
      go_wp2_with fail
      go_ret2;exact ⟨rfl,HB.out⟩
     ·have he:errT N t=0:=errT_good hokt (by omega)
      obtain ⟨e0,e1,e2,e3,e4⟩:=okT_piece hokt hL;obtain ⟨L,hLn⟩:∃L:Nat,t.L=L:=⟨t.L.toNat,by omega⟩
      obtain ⟨D,hDn⟩:∃D:Nat,t.D=D:=⟨t.D.toNat,by omega⟩
      have hst:run s.data.toList (l.take (k+1))=(cp al D L,0):=by
       rw [NEXTK.out he];unfold stepT;rw [if_neg hL,hLn,hDn];rfl
      have HST:=hid hst;rw [hLn] at c2 hL4;rw [hDn] at c3 hd;rw [e0] at c1;rw [hLn] at Q2;rw [hDn] at Q3;have hLD:3≤L∧L≤258∧1≤D∧D≤N:=by omega
      clear hst he BADK NEXTK e1 e2 e3 e4 BAD GOOD hL;have HNN:=hid hN;have hd1:decide ((N:Int)<(D:Int))=false:=decide_eq_false (by omega)
      have hd2:decide (N<D)=false:=decide_eq_false (by omega)
      clear hN hd
      go_wp2_with fail
      go_loopw [6,10] (fun x i wq=>∃(j:Nat) (ak:List UInt8),j≤L∧ak.length=N+j∧i=.int .i64 j∧ak=cp al D j∧wq.ownsRow 0 5 1 x ak.length (cellsU ak) ∧
        Below w.heap.size w wq∧∀j,x.ownBlock=some j→w.heap.size≤j) (fun _ i _=>L-(intOf i).toNat)
      case atStart=>
       exact ⟨0,al,Nat.zero_le _,HNN.out,rfl,rfl,by rw [HNN.out];exact HO.out,HB.out,HV.out⟩
      case round=>
       obtain ⟨j,ak,hj,hal,rfl,hcp,ho,hb,hv⟩:=hrel;clear HO HB HV c1 c2 c3;have c2:=(hb.cell HBB.out).trans Q2.out;have c3:=(hb.cell HBB.out).trans Q3.out;have HB:=hid hb;have HV:=hid hv;have HCP:=hid hcp;have HS:=hid hb.size;clear hb hv hcp
       by_cases hjl:j<L
       ·obtain ⟨g,cap2,rfl⟩:=own_form ho (by omega)
        obtain ⟨m,hm⟩:∃m:Nat,ak.length-D=m:=⟨_,rfl⟩;have hmb:m<ak.length:=by omega
        have hcl:wr.cell? ⟨g,m,none⟩=some (.int .u8 ((ak.getD m 0).toNat:Nat)):=by
         rw [ho.cellAt m (by omega)]
         simp [cellsU,List.getD_eq_getElem?_getD,hmb]
        have hnext:ak++[ak.getD m 0]=cp al D (j+1):=by rw [cp,←HCP.out,hm]
        have HO:=hid ho;have HNX:=hid hnext;generalize ak.getD m 0=x at *
        have ST:Hid (∀v' w',w'.ownsRow 0 5 1 v' (ak.length+1) (cellsU ak++cellsU [x])→(wr.alloc (.cells #[.int .u8 x.toNat] 5)).grownBy w' (Value.slice (some ⟨g,0,none⟩) ak.length cap2).ownBlock→Near (wr.alloc (.cells #[.int .u8 x.toNat] 5)) (.slice (some ⟨g,0,none⟩) ak.length cap2) v' →
          (ak++[x]).length=N+(j+1)∧w'.ownsRow 0 5 1 v' (ak++[x]).length (cellsU (ak++[x]))∧Below w.heap.size w w'∧∀j,v'.ownBlock=some j→w.heap.size≤j):=hid fun v' w' o3 g3 n3=>
         ⟨by rw [List.length_append,hal];simp;omega,by rw [cellsU_append,List.length_append];exact o3,
          (HB.out.alloc HS.out _).grown g3 (by have:=HS.out;simp;omega) HV.out,fun j hj=>by
           rcases n3 j hj with h | h
           ·exact HV.out j h
           ·have:=HS.out;simp at h;omega⟩
        clear ho hnext;generalize hM:ak.length=M at *;have hi1:(M:Int)-(D:Int)=(m:Int):=by omega
        have hMb:M≤775000000:=by omega
        clear hM hm hal
        go_wp2_with (at_builtin;refine wpList_append_near _ rfl (.tmp 62) (.tmp 74) 68 rfl 5 i0 (.int .u8 0) 1 1 Tryz.underlying68 hi hz0 hz1 hz2 rfl (by decide) (.slice (some ⟨g,0,none⟩) M cap2) M (cellsU ak) rfl (HO.out.alloc _) ⟨wr.heap.size,0,none⟩ 1 1 (cellsU [x]) rfl rfl (litU _ _ _) (cellsU_one _) (by unfold maxLen;omega) (by omega) ?_;intro v3 w3 o3 g3 n3)
        have hh:=hid (ST.out v3 w3 o3 g3 n3);exact ⟨⟨j+1,_,by omega,hh.out.1,by go_num,HNX.out,hh.out.2⟩,by simp [intOf];omega⟩
       ·obtain rfl:j=L:=by omega
        have hlen3:ak.length≤32768+258*(k+1):=by omega
        have HO:=hid ho;clear ho
        go_wp2_with fail
        exact ⟨⟨k+1,ak,by omega,hlen3,by go_num,by rw [HCP.out];exact HST.out,HO.out,HB.out,HV.out⟩,by simp [intOf];omega⟩
  ·obtain rfl:k=n:=by omega
   have e:l.take k=l:=List.take_of_length_le (by omega)
   rw [e] at hrun;obtain ⟨z,k1,k2⟩:=GOOD.out _ hrun;subst k2;have HB:=hid hb;have hNb:al.length≤774033000:=by omega
   rcases ho.2 with ⟨rfl,h0⟩ | ⟨g,cap3,cur,rfl,_⟩
   ·have hs0:s.size=0:=by omega
    have hal:al=[]:=List.length_eq_zero_iff.1 h0
    have hcv:(convert 68 9 (.slice none 0 0)).run Tryz.prog wr=.ok (.string rs) wr:=by
     have:=run_string_row wr (.slice none 0 0) [] (World.ownsRow_nil _ _ _ _)
     rw [this,k1,hal,List.drop_nil]
    rw [hs0];clear hrun ho hb hv BAD GOOD e k1 hal h0
    go_wp2_with fail
    go_ret2;exact ⟨rfl,HB.out⟩
   ·by_cases hcs:cap3=s.size
    ·subst hcs
     have hNs:al.length=s.size:=by
      rcases ho.2 with ⟨h,_⟩ | ⟨g2,c2,cur2,h,_,_,h5,_⟩
      ·simp at h
      ·simp only [Value.slice.injEq] at h;omega
     have hcv:(convert 68 9 (.slice (some ⟨g,0,none⟩) 0 0)).run Tryz.prog wr=.ok (.string rs) wr:=by
      rw [k1,List.drop_of_length_le (by omega)]
      exact Oct.run_string_of _ _ _ 5 _ _ [] 0 rfl (by kernel_rfl) (by kernel_rfl) (by kernel_rfl) (fun j hj=>by omega)
     rw [hNs];clear hrun ho hb hv BAD GOOD e k1 hlen hNs z
     go_wp2_with fail
     go_ret2;exact ⟨rfl,HB.out⟩
    have hcv:=run_string_cut wr g al.length cap3 s.size al rfl ho z;rw [←k1] at hcv
    have hcap:al.length≤cap3:=by
     rcases ho.2 with ⟨h,_⟩ | ⟨g2,c2,cur2,h,_,_,h5,_⟩
     ·simp at h
     ·simp only [Value.slice.injEq] at h;omega
    have hcap2:cap3≤9223372036854775807:=by
     rcases ho.2 with ⟨h,_⟩ | ⟨g2,c2,cur2,h,_,_,_,h5,_⟩
     ·simp at h
     ·simp only [Value.slice.injEq] at h;unfold maxLen at h5;omega
    clear hrun ho hb hv BAD GOOD e k1 hlen;generalize al.length=N at *
    go_wp2_with fail
    go_ret2;exact ⟨rfl,HB.out⟩
end Go.Proofs.YthbjllabgpaaaaaGreat.Lz
namespace Go.Proofs.YthbjllabgpaaaaaGreat.Lz
open Go.Lib (hid)
set_option maxHeartbeats 2000000
open Go.ChangeShapes Go.WideShapes Go.ChangeAt Go.RowKit
set_option linter.unusedVariables false
set_option maxRecDepth 10000 in
theorem plain_any (s:ByteArray) (w:World) (hs:s.size≤1000000) :
  Calls Tryz.prog 98 #[.string s] w fun e w'=>e=.returned (.slice (some ⟨w.heap.size,0,none⟩) s.size s.size)∧IsToks w' (some ⟨w.heap.size,0,none⟩) (s.data.toList.map byteT)∧Below w.heap.size w w':=by
 obtain ⟨i0,hi,hz0,hz1,hz2⟩:=info_parts info_tok;have hSL:s.data.toList.length=s.size:=by simp
 go_enter Tryz.func98,Tryz.ntmps98
 go_wp2_with (at_make;refine wpList_make_full _ rfl _ _ 97 rfl w.heap.size 136 i0 (.agg #[.int .i64 0,.int .i64 0,.int .i64 0]) 3 Tryz.underlying97 hi hz0 hz1 .i64 .i64 _ _ s.size rfl rfl rfl rfl (by rw [hz2];omega) (by unfold maxLen;omega) (Nat.le_refl _) ?_;intro w1 hown hgrow)
 go_loopw [10] (fun i wr=>∃k:Nat,k≤s.size∧i=.int .i64 k∧wr.ownsRow w.heap.size 136 3 (.slice (some ⟨w.heap.size,0,none⟩) s.size s.size) s.size (cellsT (part s.data.toList k))∧Below w.heap.size w wr) (fun i _=>s.size-(intOf i).toNat)
 case atStart=>
  refine ⟨0,Nat.zero_le _,rfl,?_,(Below.refl _ _).grown hgrow (Nat.le_refl _) (fun j hj=>by cases hj)⟩
  have e:part s.data.toList 0=List.replicate s.size ⟨0,0,0⟩:=by simp [part]
  rw [e,←cellsT_made];exact hown
 case round=>
  obtain ⟨k,hk,rfl,hown1,hbel⟩:=hrel;clear hown hgrow
  by_cases hlt:k<s.size
  ·have fz:=hown1.frozenAt (k*3);have hlt2:k<s.data.toList.length:=by omega
   have cz:wr.cell? ⟨w.heap.size,k*3,none⟩=some (.int .i64 0):=by
    rw [hown1.cellAt _ (by omega),(cellsT_get (part s.data.toList k) k (by rw [part_length _ _ (by omega)];exact hlt2)).1,part_get _ _ hlt2]
   have hst:=hown1.stored (k*3) (Value.int .i64 (s[k].toNat:Nat));have es:s.data.toList[k]=s[k]:=by simp;rfl
   have hps:=part_step s.data.toList k hlt2;rw [es] at hps;rw [hps] at hst;have HST:=hid hst;have HBEL:=hid hbel;have hx2:=s[k].toNat_lt;clear hown1 hst hbel hps es
   go_wp2_with fail
   refine ⟨⟨k+1,by omega,by go_num,?_,HBEL.out.setCell (Nat.le_refl _) _⟩,?_⟩
   ·exact HST.out.1
   ·simp [intOf];omega
  ·obtain rfl:k=s.size:=by omega
   have ht:IsToks wr (some ⟨w.heap.size,0,none⟩) (s.data.toList.map byteT):=by
    have e:part s.data.toList s.size=s.data.toList.map byteT:=by unfold part;rw [←hSL,List.take_length];simp
    rw [e] at hown1;exact toks_of_row (by simp) hown1
   have HBEL:=hid hbel;have HT:=hid ht;clear hown1 hbel ht
   go_wp2_with fail
   go_ret;exact ⟨rfl,HT.out,HBEL.out⟩
end Go.Proofs.YthbjllabgpaaaaaGreat.Lz
namespace Go.Proofs.YthbjllabgpaaaaaGreat.Lz
open Go.Lib (hid)
set_option maxHeartbeats 2000000
open Go.ChangeShapes Go.WideShapes Go.ChangeAt Go.RowKit
set_option linter.unusedVariables false
def begK (T:List UInt8) (p k:Nat):Nat:=
 if k=0 then 0 else if k=1 then (T.getD p 0).toNat else if k=2 then (T.getD p 0).toNat*256+(T.getD (p+1) 0).toNat else beg T p
theorem begK_step (T:List UInt8) (p k:Nat) (hk:k<3):begK T p (k+1)=begK T p k*256+(T.getD (p+k) 0).toNat:=by
 obtain rfl | rfl | rfl:k=0∨k=1∨k=2:=by omega
 ·simp [begK]
 ·simp [begK]
 ·simp [begK,beg];omega
theorem begK_lt (T:List UInt8) (p k:Nat):begK T p k<16777216:=by
 have h1:=(T.getD p 0).toNat_lt;have h2:=(T.getD (p+1) 0).toNat_lt;have h3:=(T.getD (p+2) 0).toNat_lt;unfold begK beg
 split
 ·omega
 ·split
  ·omega
  ·split <;> omega
theorem shl_or (n x:Nat) (hn:n<16777216) (hx:x<256):bits .or .i64 ((n:Int)*256) (x:Int)=((n*256+x:Nat):Int):=by
 have:=Bit.i64_or x (n*256) 8 (by omega) (by omega) (by omega) (by decide)
 have e:bits .or .i64 (((n*256:Nat)):Int) (x:Int)=bits .or .i64 (x:Int) (((n*256:Nat)):Int):=by simp [bits,BitVec.or_comm]
 rw [←e] at this;rw [show ((n:Int)*256)=((n*256:Nat):Int) by omega,this]
 omega
theorem beginning_any (s:ByteArray) (w:World) (hs:3≤s.size) (hz:s.size≤1000000) :
  Calls Tryz.prog 140 #[.string s] w fun e w'=>e=.returned (.int .i64 (beg s.data.toList 0:Nat))∧w=w':=by
 go_enter Tryz.func140,Tryz.ntmps140
 go_wp2_with fail
 go_loop [3,5] (fun x i=>∃k:Nat,k≤3∧i=.int .i64 k∧x=.int .i64 (begK s.data.toList 0 k:Nat)) (fun _ i=>3-(intOf i).toNat)
 case atStart=>exact ⟨0,Nat.zero_le _,rfl,rfl⟩
 case round=>
  obtain ⟨k,hk,rfl,rfl⟩:=hrel
  by_cases hlt:k<3
  ·have hks:k<s.size:=by omega
   have e1:=hid (begK_step s.data.toList 0 k hlt);have hb:=begK_lt s.data.toList 0 k
   have hg:s.data.toList.getD (0+k) 0=s[k]:=by
    rw [Nat.zero_add];simp [List.getD_eq_getElem?_getD,hks];rfl
   rw [hg] at e1;have hx2:=s[k].toNat_lt;generalize begK s.data.toList 0 k=n at *;clear hg
   go_wp2_with fail
   refine ⟨⟨k+1,by omega,by go_num,?_⟩,by simp [intOf];omega⟩
   rw [e1.out,shl_or n _ hb hx2]
  ·obtain rfl:k=3:=by omega
   go_wp2_with fail
   go_ret;exact ⟨rfl,rfl⟩
set_option maxRecDepth 10000 in
theorem alike_any (a b:ByteArray) (w:World) (ha:a.size≤1000000) (hb:b.size≤1000000) :
  Calls Tryz.prog 141 #[.string a,.string b] w fun e w'=>e=.returned (.int .i64 (alikeL a.data.toList b.data.toList:Nat))∧∃n,w'=w.drewN n:=by
 have hle:=alikeL_le a.data.toList b.data.toList;have hstop:=alikeL_stop a.data.toList b.data.toList;have hsame:=alikeL_same a.data.toList b.data.toList;have hmore:=alikeL_at_least a.data.toList b.data.toList;have ea:a.data.toList.length=a.size:=by simp
 have eb:b.data.toList.length=b.size:=by simp
 rw [ea,eb] at hle;rw [ea,eb] at hstop;rw [ea,eb] at hmore;have ga:∀k (h:k<a.size),a.data.toList.getD k 0=a[k]:=fun k h=>by simp [List.getD_eq_getElem?_getD,h];rfl
 have gb:∀k (h:k<b.size),b.data.toList.getD k 0=b[k]:=fun k h=>by simp [List.getD_eq_getElem?_getD,h];rfl
 generalize alikeL a.data.toList b.data.toList=N at *;have HS:=hid hstop;have HM:=hid hsame;have HMO:=hid hmore;have GA:=hid ga;have GB:=hid gb;clear hstop hsame hmore ga gb ea eb
 go_enter Tryz.func141,Tryz.ntmps141
 go_wp2_with fail
 go_loopw [5] (fun i wr=>∃k:Nat,k≤N∧i=.int .i64 k∧∃n,wr=w.drewN n) (fun i _=>N+1-(intOf i).toNat)
 case atStart=>exact ⟨0,Nat.zero_le _,rfl,0,rfl⟩
 case round=>
  obtain ⟨k,hk,rfl,m,rfl⟩:=hrel;obtain ⟨M,hM⟩:∃M:Nat,M=min a.size b.size:=⟨_,rfl⟩;have hm1:min (a.size:Int) b.size=(M:Int):=by omega
  have hm2:(if (b.size:Int)<a.size then (b.size:Int) else a.size)=(M:Int):=by split <;> omega
  have hm3:(if b.size<a.size then (b.size:Int) else a.size)=(M:Int):=by split <;> omega
  by_cases hlt:k<min a.size b.size
  ·have hka:k<a.size:=by omega
   have hkb:k<b.size:=by omega
   have hkM:decide ((k:Int)<(M:Int))=true:=decide_eq_true (by omega)
   have hkM2:decide (k<M)=true:=decide_eq_true (by omega)
   have qa:=GA.out k hka;have qb:=GB.out k hkb
   by_cases he:a[k]=b[k]
   ·have hkN:k+1≤N:=HMO.out (k+1) (by omega) (by omega) (fun i hi=>by
     by_cases h:i<k
     ·exact HM.out i (by omega)
     ·obtain rfl:i=k:=by omega
      rw [qa,qb,he])
    have hE:a[k].toNat=b[k].toNat:=by rw [he]
    clear qa qb GA GB HM HMO HS hM
    go_wp2_with fail
    go_quiet (fail)
    clear hm1 hm2 hm3 hkM hkM2
    go_wp2_with fail
    exact ⟨⟨k+1,hkN,by go_num,m+nq,by first | rfl | rw [World.drewN_drewN]⟩,by simp [intOf];omega⟩
   ·have hE:(a[k].toNat==b[k].toNat)=false:=by
     simp only [beq_eq_false_iff_ne,ne_eq];exact fun h=>he (UInt8.toNat_inj.1 h)
    have hE2:((a[k].toNat:Int)==(b[k].toNat:Int))=false:=by
     simp only [beq_eq_false_iff_ne,ne_eq];exact fun h=>he (UInt8.toNat_inj.1 (by omega))
    have hN:=HS.out k hk (fun _ _=>by rw [qa,qb];exact he)
    subst hN;clear qa qb GA GB HM HMO HS hM
    go_wp2_with fail
    go_quiet (fail)
    clear hm1 hm2 hm3 hkM hkM2
    go_wp2_with fail
    go_ret;exact ⟨rfl,m+nq,by first | rfl | rw [World.drewN_drewN]⟩
  ·have hkM:decide ((k:Int)<(M:Int))=false:=decide_eq_false (by omega)
   have hkM2:decide (k<M)=false:=decide_eq_false (by omega)
   have hN:=HS.out k hk (fun _ _=>by omega)
   subst hN;clear GA GB HM HMO HS hM
   go_wp2_with fail
   go_quiet (fail)
   clear hm1 hm2 hm3 hkM hkM2
   go_wp2_with fail
   go_ret;exact ⟨rfl,m+nq,by first | rfl | rw [World.drewN_drewN]⟩
end Go.Proofs.YthbjllabgpaaaaaGreat.Lz
namespace Go.Proofs.YthbjllabgpaaaaaGreat.Lz
open Go.Lib (hid)
set_option maxHeartbeats 2000000
open Go.ChangeShapes Go.WideShapes Go.ChangeAt Go.RowKit
set_option linter.unusedVariables false
theorem u64_low (m:Nat) (h:m<4294967296):bits .and .u64 (m:Int) 4294967295=m:=by
 show IntKind.u64.wrap ((BitVec.ofInt 64 (m:Int) &&& BitVec.ofInt 64 4294967295).toNat:Int)=_
 have e1:(BitVec.ofInt 64 (m:Int)).toNat=m:=by
  rw [BitVec.toNat_ofInt];omega
 have e2:(BitVec.ofInt 64 4294967295).toNat=2^32-1:=by decide
 rw [BitVec.toNat_and,e1,e2,Nat.and_two_pow_sub_one_eq_mod,Nat.mod_eq_of_lt h];have e3:IntKind.u64.bits=64:=rfl;have e4:IntKind.u64.signed=false:=rfl;simp [IntKind.wrap,e3,e4];omega
set_option maxRecDepth 10000 in
theorem mul64_any (m:Nat) (w:World) (hm:m≤1000000) :
  Calls Tryz.prog 180 #[.int .u64 1,.int .u64 m] w fun e w'=>e=.returned (.tuple #[.int .u64 0,.int .u64 m])∧w=w':=by
 have h1:=u64_low m (by omega)
 have h2:bits .and .u64 1 4294967295=1:=u64_low 1 (by decide)
 have h3:(m:Int)/4294967296=0:=by omega
 have h4:bits .and .u64 0 4294967295=0:=u64_low 0 (by decide)
 go_enter Tryz.func180,Tryz.ntmps180
 go_wp2_with fail
 go_ret2;exact ⟨rfl,rfl⟩
theorem mul_any (m:Nat) (w:World) (hm:m≤1000000) :
  Calls Tryz.prog 163 #[.int .u64 1,.int .u64 m] w fun e w'=>e=.returned (.tuple #[.int .u64 0,.int .u64 m])∧w=w':=by
 have C1:=hid (mul64_any m w hm)
 go_enter Tryz.func163,Tryz.ntmps163
 go_wp2_with fail
 refine C1.out.mono ?_;rintro r w1 ⟨rfl,rfl⟩
 go_wp2_with fail
 go_ret2;exact ⟨rfl,rfl⟩
theorem info_int:(Tryz.prog.info? 3).map (fun i=>(i.zero,i.size,i.bytes))=some (some (.int .i64 0),1,8):=by kernel_rfl
def fill (m n:Nat):List Value:=List.replicate n (.int .i64 (-1))++List.replicate (m-n) (.int .i64 0)
theorem fill_length (m n:Nat) (h:n≤m):(fill m n).length=m:=by simp [fill];omega
theorem fill_get (m n j:Nat) (h:j<n):(fill m n)[j]?=some (.int .i64 (-1)):=by
 unfold fill;rw [List.getElem?_append_left (by simpa using h)]
 simp [h]
theorem fill_more (m n c:Nat) (h:n+c≤m):splice (fill m n) n (List.replicate c (.int .i64 (-1)))=fill m (n+c):=by
 have e1:(fill m n).take n=List.replicate n (.int .i64 (-1)):=by
  unfold fill;rw [List.take_append];simp
 have e2:(fill m n).drop (n+c)=List.replicate (m-(n+c)) (.int .i64 0):=by
  unfold fill;rw [List.drop_append];simp;omega
 unfold splice;rw [List.length_replicate,e1,e2,←List.append_assoc,List.replicate_append_replicate]
 rfl
theorem rep_one (c:Nat) (z:Value) (hz:z.oneCell'=true):∀v∈List.replicate c z,v.oneCell'=true:=fun v hv=>by
 rw [List.eq_of_mem_replicate hv];exact hz
theorem rep_src {w:World} {g o c:Nat} (h:∀j,j<c→w.cell? ⟨g,o+j,none⟩=some (.int .i64 (-1))):∀j v,(List.replicate c (Value.int .i64 (-1)))[j]?=some v→w.cell? ((⟨g,o,none⟩:Addr).add j)=some v:=by
 intro j v hj;rw [List.getElem?_replicate] at hj
 by_cases hjc:j<c
 ·rw [if_pos hjc] at hj;rw [Go.WideShapes.add_plain,h j hjc];exact hj
 ·rw [if_neg hjc] at hj;cases hj
theorem run_copy_fill (W:World) (ty:TypeId) (B m n c dLen dCap sLen sCap:Nat) (a:Addr) (hB:W.heap[B]?=some (.cells (fill m n).toArray 3 (0,0))) (hc:c=Nat.min sLen dLen) (hm:n+c≤m)
  (hsrc:∀j v,(List.replicate c (Value.int .i64 (-1)))[j]?=some v→W.cell? (a.add j)=some v) :
  ∃W2,(Builtin.copy_ #[92,92] ty #[.slice (some ⟨B,n,none⟩) dLen dCap,.slice (some a) sLen sCap]).run Tryz.prog W=.ok (.int .i64 c) W2∧W2.heap[B]?=some (.cells (fill m (n+c)).toArray 3 (0,0))∧W.grownBy W2 (some B):=by
 have h:=run_copy_row (P:=Tryz.prog) W 92 92 ty 3 B n dLen dCap a sLen sCap (fill m n).toArray 3 (List.replicate c (.int .i64 (-1))) Tryz.underlying92 (by kernel_rfl) hB (by rw [List.length_replicate];exact hc) hsrc (by rw [List.length_replicate,List.size_toArray,fill_length _ _ (by omega)];exact hm) (rep_one _ _ rfl)
 have e:((fill m n).toArray.toList.take n++List.replicate c (Value.int .i64 (-1))++(fill m n).toArray.toList.drop (n+(List.replicate c (Value.int .i64 (-1))).length))=fill m (n+c):=by
  rw [←fill_more m n c hm];unfold splice;rw [List.append_assoc]
 rw [e,List.length_replicate] at h;refine ⟨_,h,setRow_heap W B _ _ _ _ hB,⟨rfl,rfl,rfl,by simp [World.setRow],fun k hk hne=>setRow_other W B k _ (fun e=>hne (by rw [e]))⟩⟩
set_option maxRecDepth 10000 in
theorem repeat_any (g0 m:Nat) (w:World) (hc:w.cell? ⟨g0,0,none⟩=some (.int .i64 (-1))) (hg:g0<w.heap.size) (hm:m≤1000000) :
  Calls Tryz.prog 139 #[.slice (some ⟨g0,0,none⟩) 1 1,.int .i64 m] w fun e w'=>e=.returned (.slice (some ⟨w.heap.size,0,none⟩) m m) ∧
   w'.heap[w.heap.size]?=some (.cells (fill m m).toArray 3 (0,0))∧Below w.heap.size w w':=by
 have C1:=hid (mul_any m w hm);obtain ⟨i0,hi,hz0,hz1,hz2⟩:=info_parts info_int
 have hms:IntKind.u64.wrap (m:Int)=m:=by
  have e3:IntKind.u64.bits=64:=rfl;have e4:IntKind.u64.signed=false:=rfl;simp [IntKind.wrap,e3,e4];omega
 have hmk:(Instr.makeSlice 92 (.int .i64 m) (.int .i64 m)).run Tryz.prog w=.ok (.slice (some ⟨w.heap.size,0,none⟩) m m) (w.alloc (.cells (fill m 0).toArray 3)):=by
  have:=run_make (P:=Tryz.prog) w 92 3 i0 (.int .i64 0) Tryz.underlying92 hi hz0 .i64 .i64 m m (by omega) (by omega) (by rw [hz2];omega) (by omega)
  rw [this,hz1]
  have e:(madeCells (Value.int .i64 0).cells (((m:Nat):Int).toNat*1))=(fill m 0).toArray:=by
   apply Array.toList_inj.1
   rw [show (Value.int IntKind.i64 0).cells=#[Value.int .i64 0] from rfl,toList_madeCells_one]
   simp [fill]
  rw [e]
  simp
 obtain ⟨c,hcm⟩:∃c:Nat,c=Nat.min 1 m:=⟨_,rfl⟩
 have hc1:c≤1∧c≤m∧(c=0→m=0):=by
  rw [hcm];simp only [Nat.min_def];split <;> omega
 obtain ⟨A1,hA1⟩:∃A1,w.alloc (.cells (fill m 0).toArray 3)=A1:=⟨_,rfl⟩;have hA2:A1.heap[w.heap.size]?=some (.cells (fill m 0).toArray 3 (0,0)):=by rw [←hA1];exact heap_alloc_new _ _
 have hA3:Below w.heap.size w A1:=by rw [←hA1];exact (Below.refl _ _).alloc (Nat.le_refl _) _
 have hA4:A1.cell? ⟨g0,0,none⟩=some (.int .i64 (-1)):=(hA3.cell (p:=⟨g0,0,none⟩) hg).trans hc
 obtain ⟨A2,hcp,hB2,hb2⟩:=run_copy_fill A1 3 w.heap.size m 0 c m m 1 1 ⟨g0,0,none⟩ hA2 hcm (by omega) (rep_src fun j hj=>by
   obtain rfl:j=0:=by omega
   exact hA4)
 rw [Nat.zero_add] at hB2;have HB2:=hid hB2;have HBL:=hid (hA3.grown hb2 hA3.size (fun j hj=>by simp at hj;omega))
 rw [hA1] at hmk;have d8:decide ((m:Int)<0)=false:=decide_eq_false (by omega)
 have d9:decide ((9223372036854775807:Int)<(m:Int))=false:=decide_eq_false (by omega)
 clear hA1 hA2 hA3 hA4 hc hcm hB2 hb2
 go_enter Tryz.func139,Tryz.ntmps139
 go_wp2_with fail
 refine C1.out.mono ?_;rintro r w1 ⟨rfl,rfl⟩;clear C1
 go_wp2_with fail
 go_loopw [8] (fun i wr=>∃n:Nat,n≤m∧(n=0→m=0)∧i=.int .i64 n∧wr.heap[w.heap.size]?=some (.cells (fill m n).toArray 3 (0,0))∧Below w.heap.size w wr) (fun i _=>m-(intOf i).toNat)
 case atStart=>exact ⟨c,hc1.2.1,hc1.2.2,rfl,HB2.out,HBL.out⟩
 case round=>
  obtain ⟨n,hn,hn0,rfl,hB,hb⟩:=hrel;clear HB2 HBL hcp hmk
  by_cases hlt:n<m
  ·have HB:=hid hB;have HL:=hid hb;clear hB hb;obtain ⟨d,hdm⟩:∃d:Nat,d=Nat.min n (m-n):=⟨_,rfl⟩
   have hd1:1≤d∧n+d≤m:=by
    rw [hdm];simp only [Nat.min_def];split <;> omega
   have hn2:(List.replicate d (Value.int .i64 (-1))).length=Nat.min n (m-n):=by rw [List.length_replicate];exact hdm
   have hdn:d≤n:=by rw [hdm];exact Nat.min_le_left _ _
   have hp2:∀W:World,Below wr.heap.size wr W→∀j v,(List.replicate d (Value.int .i64 (-1)))[j]?=some v→W.cell? ((⟨w.heap.size,0,none⟩:Addr).add j)=some v:=fun W hW=>
    rep_src fun j hj=>by
     rw [Nat.zero_add];refine (hW.cell (p:=⟨w.heap.size,j,none⟩) (Array.getElem?_eq_some_iff.1 HB.out).1).trans ?_;rw [cell_of_row _ _ _ _ _ _ HB.out,List.getElem?_toArray,fill_get _ _ _ (by omega)]
   have hf2:n+(List.replicate d (Value.int .i64 (-1))).length≤(fill m n).length:=by rw [List.length_replicate,fill_length _ _ hn];omega
   have HN2:=hid hn2;have HP2:=hid (hp2 wr.drew (Below.refl _ wr).drew);have HF2:=hid hf2;have HM2:=hid (fill_more m n d hd1.2);have HL2:Hid (goInt (List.replicate d (Value.int .i64 (-1))).length=.int .i64 d):=hid (by rw [List.length_replicate];rfl)
   clear hn2 hp2 hf2 hdm;have hnm:¬m=n:=by omega
   go_wp2_with fail
   go_region_law (refine step_copy_splice rfl (.tmp 41) (.tmp 44) 92 92 rfl 3 Tryz.underlying92 (by kernel_rfl) (some ⟨w.heap.size,n,none⟩) (some ⟨w.heap.size,0,none⟩) (m-n) (m-n) n m (by simp [Act.eval,Act.put]) (by simp [Act.eval,Act.put]) w.heap.size n (fill m n) 3 (by exact HB.out) (List.replicate d (.int .i64 (-1))) HN2.out (fun _=>⟨rfl,_,rfl,HP2.out⟩) HF2.out (rep_one _ _ rfl) w.heap.size w HL.out.drew (Nat.le_refl _) ?_;intro w3 hg3 hb3;rw [HL2.out])
   have HB3:Hid (w3.heap[w.heap.size]?=some (.cells (fill m (n+d)).toArray 3 (0,0))):=hid (by rw [←HM2.out];exact hg3.out)
   have HL3:=hid hb3;have hw:IntKind.i64.wrap ((n:Int)+d)=n+d:=IntWalk.i64_in _ (by omega)
   rw [hw];simp only [List.getElem_toArray,List.getElem_cons_succ,List.getElem_cons_zero,Act.put,List.setIfInBounds_toArray,List.set_cons_succ,List.set_cons_zero];clear hg3 hb3 HB HL HN2 HP2 HF2 HM2 HL2
   go_wp2_with fail
   exact ⟨⟨n+d,hd1.2,by omega,by go_num,HB3.out,HL3.out⟩,by simp [intOf];omega⟩
  ·obtain rfl:n=m:=by omega
   have HB:=hid hB;have HL:=hid hb;clear hB hb
   go_wp2_with fail
   go_ret;exact ⟨rfl,HB.out,HL.out⟩
end Go.Proofs.YthbjllabgpaaaaaGreat.Lz
namespace Go.Proofs.YthbjllabgpaaaaaGreat.Lz
open Go.Lib (hid)
set_option maxHeartbeats 2000000
set_option linter.unusedVariables false
structure Links (T:List UInt8) (full:Prop) (A:List Int):Prop where
 len:A.length=T.length
 ok:∀q (h:q<A.length),A[q] = -1∨∃r:Nat,A[q]=r∧r<q∧q+3≤T.length∧beg T r=beg T q
 all:full→∀r q,r<q→q+3≤T.length→beg T r=beg T q→(r:Int)≤A.getD q (-1)
structure Upto (T:List UInt8) (start p:Nat) (A:List Int) (F:Nat→Option Nat):Prop where
 len:A.length=T.length
 ok:∀q (h:q<A.length),A[q] = -1∨∃r:Nat,A[q]=r∧p≤r∧r<q∧q+3≤T.length∧beg T r=beg T q
 first:∀x v,F x=some v→p≤v∧v+3≤T.length∧beg T v=x
 cover:start=0→∀q,p≤q→q+3≤T.length→∃v,F (beg T q)=some v∧v≤q
 all:start=0→∀r q,p≤r→r<q→q+3≤T.length→beg T r=beg T q→(r:Int)≤A.getD q (-1)
theorem Upto.start (T:List UInt8) (start:Nat):Upto T start (T.length-2) (List.replicate T.length (-1)) (fun _=>none):=
 ⟨by simp,fun q h=>.inl (by simp),(fun x v h=>nomatch h),(fun _ q h1 h2=>by omega),(fun _ r q h1 h2 h3=>by omega)⟩
theorem Upto.links {T:List UInt8} {start:Nat} {A:List Int} {F:Nat→Option Nat} (h:Upto T start 0 A F):Links T (start=0) A:=
 ⟨h.len,fun q hq=>by
  rcases h.ok q hq with h1 | ⟨r,h1,_,h2,h3,h4⟩
  ·exact .inl h1
  ·exact .inr ⟨r,h1,h2,h3,h4⟩,fun hf r q h1 h2 h3=>h.all hf r q (Nat.zero_le _) h1 h2 h3⟩
def upd (F:Nat→Option Nat) (x p:Nat):Nat→Option Nat:=fun y=>if y=x then some p else F y
theorem Upto.hit {T:List UInt8} {start p v:Nat} {A:List Int} {F:Nat→Option Nat} (h:Upto T start (p+1) A F) (hp:p+3≤T.length) (hv:F (beg T p)=some v):Upto T start p (A.set v p) (upd F (beg T p) p):=by
 obtain ⟨f1,f2,f3⟩:=h.first _ _ hv;have hl:=h.len;refine ⟨by simp [hl],fun q hq=>?_,fun x u hx=>?_,fun hs q h1 h2=>?_,fun hs r q h1 h2 h3 h4=>?_⟩
 ·rw [List.getElem_set]
  by_cases hqv:v=q
  ·rw [if_pos hqv];subst hqv;exact .inr ⟨p,rfl,Nat.le_refl _,by omega,f2,f3.symm⟩
  ·rw [if_neg hqv];rcases h.ok q (by simpa using hq) with h1 | ⟨r,h1,h2,h3,h4,h5⟩
   ·exact .inl h1
   ·exact .inr ⟨r,h1,by omega,h3,h4,h5⟩
 ·unfold upd at hx
  by_cases hxe:x=beg T p
  ·rw [if_pos hxe] at hx;simp only [Option.some.injEq] at hx;subst hx;exact ⟨Nat.le_refl _,hp,hxe.symm⟩
  ·rw [if_neg hxe] at hx;obtain ⟨g1,g2,g3⟩:=h.first _ _ hx;exact ⟨by omega,g2,g3⟩
 ·unfold upd
  by_cases hqe:beg T q=beg T p
  ·exact ⟨p,by rw [if_pos hqe],h1⟩
  ·rw [if_neg hqe]
   have:p≠q:=fun e=>hqe (by rw [e])
   exact h.cover hs q (by omega) h2
 ·by_cases hqv:v=q
  ·subst hqv
   have hr:r=p:=by
    apply Classical.byContradiction
    intro hne;obtain ⟨u,c1,c2⟩:=h.cover hs r (by omega) (by omega)
    rw [h4,f3,hv] at c1;simp only [Option.some.injEq] at c1;omega
   subst hr;rw [List.getD_eq_getElem?_getD,List.getElem?_set,if_pos rfl,if_pos (by omega)]
   exact Int.le_refl _
  ·have e:(A.set v p).getD q (-1)=A.getD q (-1):=by
    rw [List.getD_eq_getElem?_getD,List.getD_eq_getElem?_getD,List.getElem?_set,if_neg hqv]
   rw [e]
   by_cases hrp:r=p
   ·subst hrp;have hcov:=h.cover hs q (by omega) h3
    obtain ⟨u,c1,c2⟩:=hcov;rw [←h4,hv] at c1;simp only [Option.some.injEq] at c1;subst c1
    have:=h.all hs v q f1 (by omega) h3 (by rw [f3,h4])
    omega
   ·exact h.all hs r q (by omega) h2 h3 h4
theorem Upto.miss {T:List UInt8} {start p:Nat} {A:List Int} {F:Nat→Option Nat} (h:Upto T start (p+1) A F) (hp:p+3≤T.length) (hv:F (beg T p)=none):Upto T start p A (upd F (beg T p) p):=by
 refine ⟨h.len,fun q hq=>?_,fun x u hx=>?_,fun hs q h1 h2=>?_,fun hs r q h1 h2 h3 h4=>?_⟩
 ·rcases h.ok q hq with h1 | ⟨r,h1,h2,h3,h4,h5⟩
  ·exact .inl h1
  ·exact .inr ⟨r,h1,by omega,h3,h4,h5⟩
 ·unfold upd at hx
  by_cases hxe:x=beg T p
  ·rw [if_pos hxe] at hx;simp only [Option.some.injEq] at hx;subst hx;exact ⟨Nat.le_refl _,hp,hxe.symm⟩
  ·rw [if_neg hxe] at hx;obtain ⟨g1,g2,g3⟩:=h.first _ _ hx;exact ⟨by omega,g2,g3⟩
 ·unfold upd
  by_cases hqe:beg T q=beg T p
  ·exact ⟨p,by rw [if_pos hqe],h1⟩
  ·rw [if_neg hqe]
   have:p≠q:=fun e=>hqe (by rw [e])
   exact h.cover hs q (by omega) h2
 ·by_cases hrp:r=p
  ·subst hrp;obtain ⟨u,c1,c2⟩:=h.cover hs q (by omega) h3
   rw [←h4,hv] at c1
   cases c1
  ·exact h.all hs r q (by omega) h2 h3 h4
theorem Upto.pass {T:List UInt8} {start p:Nat} {A:List Int} {F:Nat→Option Nat} (h:Upto T start (p+1) A F) (hp:p<start):Upto T start p A F:=
 ⟨h.len,fun q hq=>by
  rcases h.ok q hq with h1 | ⟨r,h1,h2,h3,h4,h5⟩
  ·exact .inl h1
  ·exact .inr ⟨r,h1,by omega,h3,h4,h5⟩,fun x v hx=>by
  obtain ⟨g1,g2,g3⟩:=h.first _ _ hx;exact ⟨by omega,g2,g3⟩,fun hs=>by omega,fun hs=>by omega⟩
def Nearest (T:List UInt8) (p:Nat) (t:Tok):Prop:=
 ∀q,q<p→p+3≤T.length→beg T q=beg T p→((p-q:Nat):Int)<t.D→((alikeL (T.drop q) (restL T p):Nat):Int)<t.L
def Best (T:List UInt8) (p:Nat) (t:Tok):Prop:=Full T p t∧Nearest T p t
def lookF (T:List UInt8) (A:List Int) (p:Nat):Nat→Int→Tok→Tok
 | 0,_,t=>t
 | n+1,f,t=>if f = -1∨32768<(p:Int)-f∨t.L=((restL T p).length:Nat) then t
  else lookF T A p n (A.getD f.toNat (-1)) (if t.L<((alikeL (T.drop f.toNat) (restL T p):Nat):Int) then ⟨0,(alikeL (T.drop f.toNat) (restL T p):Nat),((p-f.toNat:Nat):Int)⟩ else t)
def longF (T:List UInt8) (A:List Int) (p:Nat):Tok:=lookF T A p 128 (A.getD p (-1)) (byteT (T.getD p 0))
theorem Links.det {T:List UInt8} {full:Prop} {A B:List Int} (h:Links T full A) (k:Links T full B) (hf:full):A=B:=by
 refine List.ext_getElem (by rw [h.len,k.len]) fun q h1 h2=>?_
 have e1:A.getD q (-1)=A[q]:=by simp [List.getD_eq_getElem?_getD,h1]
 have e2:B.getD q (-1)=B[q]:=by simp [List.getD_eq_getElem?_getD,h2]
 rcases h.ok q h1 with a1 | ⟨r,a1,a2,a3,a4⟩
 ·rcases k.ok q h2 with b1 | ⟨u,b1,b2,b3,b4⟩
  ·rw [a1,b1]
  ·have:=h.all hf u q b2 b3 b4
   rw [e1] at this;omega
 ·have x:=k.all hf r q a2 a3 a4;rw [e2] at x;rcases k.ok q h2 with b1 | ⟨u,b1,b2,b3,b4⟩
  ·omega
  ·have:=h.all hf u q b2 b3 b4
   rw [e1] at this;omega
theorem Chain.mono {T:List UInt8} {P Q:Nat→Tok→Prop} {s p:Nat} {l:List Tok} (hPQ:∀p t,P p t→Q p t) (h:Chain T P s l p):Chain T Q s l p:=by
 induction h with
 | nil=>exact .nil
 | snoc h1 h2 h3 h4 ih=>exact .snoc ih h2 h3 (hPQ _ _ h4)
theorem Chain.one {T:List UInt8} {F:Nat→Tok} {s:Nat} {l m:List Tok} {p q:Nat} (h:Chain T (fun p t=>t=F p) s l p) (k:Chain T (fun p t=>t=F p) s m q) :
  (l.length≤m.length→∃r,m=l++r∧(r=[]→p=q)∧(r≠[]→p<T.length))∧(m.length≤l.length→∃r,l=m++r∧(r=[]→p=q)∧(r≠[]→q<T.length)):=by
 induction h generalizing m q with
 | nil=>
  have key:∀{m q},Chain T (fun p t=>t=F p) s m q→(m=[]→s=q)∧(m≠[]→s<T.length):=fun {m q} k=>by
   induction k with
   | nil=>exact ⟨fun _=>rfl,fun h=>absurd rfl h⟩
   | snoc k1 k2 k3 _ ih=>
    refine ⟨fun h=>by simp at h,fun _=>?_⟩
    have:=k1.makes.2
    omega
  refine ⟨fun _=>⟨m,rfl,(key k).1,(key k).2⟩,fun h=>?_⟩
  obtain rfl:m=[]:=List.eq_nil_of_length_eq_zero (by simpa using h)
  exact ⟨[],rfl,fun _=>(key k).1 rfl,fun h=>absurd rfl h⟩
 | @snoc l p t h1 h2 h3 h4 ih=>
  have h4':t=F p:=h4
  constructor
  ·intro hlen;obtain ⟨r,rfl,e1,e2⟩:=(ih k).1 (by simp at hlen;omega)
   have hr:r≠[]:=by
    rintro rfl;simp at hlen;omega
   clear e1 e2
   -- the first token of r is F p
   have key:∀{m q},Chain T (fun p t=>t=F p) s m q→∀{r},m=l++r→r≠[]→∃r',r=F p::r'∧(r'=[]→p+wide (F p)=q)∧(r'≠[]→p+wide (F p)<T.length):=fun {m q} k=>by
    induction k with
    | nil=>intro r hr hne;simp at hr;exact absurd hr.2 hne
    | @snoc m q u k1 k2 k3 k4 ihk=>
     intro r hr hne;have k4':u=F q:=k4;rcases List.eq_nil_or_concat r with rfl | ⟨r0,x,rfl⟩
     ·exact absurd rfl hne
     ·rw [List.concat_eq_append,←List.append_assoc] at hr;obtain ⟨rfl,hx⟩:=List.append_inj' hr rfl
      cases hx
      by_cases h0:r0=[]
      ·subst h0;rw [List.append_nil] at k1;obtain ⟨r2,f1,f2,_⟩:=(ih k1).1 (Nat.le_refl _)
       have f3:r2=[]:=by
        have:=congrArg List.length f1;simp at this;exact this
       have f4:=f2 f3;rw [f4];exact ⟨[],by rw [k4'];simp,fun _=>by rw [←k4'],fun h=>absurd rfl h⟩
      ·obtain ⟨r',g1,g2,g3⟩:=ihk rfl h0;refine ⟨r'++[u],by rw [List.concat_eq_append,g1];rfl,fun h=>by simp at h,fun _=>?_⟩
       by_cases hr':r'=[]
       ·rw [g2 hr'];exact k2
       ·exact g3 hr'
   obtain ⟨r',rfl,g2,g3⟩:=key k rfl hr;refine ⟨r',by rw [h4',List.append_assoc];rfl,fun h=>by rw [h4'];exact g2 h,fun h=>by rw [h4'];exact g3 h⟩
  ·intro hlen
   by_cases hl:m.length≤l.length
   ·obtain ⟨r,e0,e1,e2⟩:=(ih k).2 hl;refine ⟨r++[t],by rw [e0,List.append_assoc],fun h=>by simp at h,fun _=>?_⟩
    by_cases hr:r=[]
    ·rw [←e1 hr];exact h2
    ·exact e2 hr
   ·have hle:m.length=(l++[t]).length:=by simp at hlen ⊢;omega
    cases k with
    | nil=>simp at hle
    | @snoc m q u k1 k2 k3 k4=>
     have k4':u=F q:=k4;obtain ⟨r,f1,f2,_⟩:=(ih k1).1 (by simp at hle;omega)
     have f3:r=[]:=by
      have:=congrArg List.length f1;simp at this hle;exact List.eq_nil_of_length_eq_zero (by omega)
     subst f3;rw [List.append_nil] at f1;obtain rfl:=f1;have f4:=f2 rfl;subst f4;obtain rfl:t=u:=by rw [h4',k4']
     exact ⟨[],by simp,fun _=>rfl,fun h=>absurd rfl h⟩
theorem Chain.det {T:List UInt8} {F:Nat→Tok} {s:Nat} {l m:List Tok} (h:Chain T (fun p t=>t=F p) s l T.length) (k:Chain T (fun p t=>t=F p) s m T.length):l=m:=by
 rcases Nat.le_total l.length m.length with hl | hl
 ·obtain ⟨r,rfl,_,h2⟩:=(Chain.one h k).1 hl
  by_cases hr:r=[]
  ·rw [hr,List.append_nil]
  ·exact absurd (h2 hr) (by omega)
 ·obtain ⟨r,rfl,_,h2⟩:=(Chain.one h k).2 hl
  by_cases hr:r=[]
  ·rw [hr,List.append_nil]
  ·exact absurd (h2 hr) (by omega)
structure Seek (T:List UInt8) (full:Prop) (A:List Int) (p i:Nat) (f:Int) (t:Tok):Prop where
 good:Good T p t
 from_:f = -1∨∃r:Nat,f=r∧r<p∧p+3≤T.length∧beg T r=beg T p
 near:f+i+1≤p
 all:full→∀q,q<p→p+3≤T.length→beg T q=beg T p→(q:Int)≤f∨((alikeL (T.drop q) (restL T p):Nat):Int)≤t.L
 nearer:full→Nearest T p t
 left:lookF T A p (128-i) f t=longF T A p
theorem Seek.start {T:List UInt8} {full:Prop} {A:List Int} {p:Nat} (h:Links T full A) (hp:p<T.length):Seek T full A p 0 (A.getD p (-1)) (byteT (T.getD p 0)):=by
 have hpa:p<A.length:=by rw [h.len];exact hp
 have e:A.getD p (-1)=A[p]:=by simp [List.getD_eq_getElem?_getD,hpa]
 refine ⟨.inl rfl,?_,?_,fun hf q h1 h2 h3=>.inl (h.all hf q p h1 h2 h3),(fun _ q _ _ _ h4=>by simp [byteT] at h4;omega),rfl⟩
 ·rw [e];rcases h.ok p hpa with h1 | ⟨r,h1,h2,h3,h4⟩
  ·exact .inl h1
  ·exact .inr ⟨r,h1,h2,h3,h4⟩
 ·rw [e];rcases h.ok p hpa with h1 | ⟨r,h1,h2,h3,h4⟩
  ·rw [h1];omega
  ·rw [h1];omega
theorem Seek.step {T:List UInt8} {full:Prop} {A:List Int} {p i r:Nat} {t:Tok} (hA:Links T full A) (h:Seek T full A p i r t) (hp:p<T.length) (hd:p-r≤32768) (hi:i<128) (ht:t.L≠((restL T p).length:Nat)) :
  r<p∧r<A.length∧Seek T full A p (i+1) (A.getD r (-1)) (if t.L<((alikeL (T.drop r) (restL T p):Nat):Int) then ⟨0,(alikeL (T.drop r) (restL T p):Nat),((p-r:Nat):Int)⟩ else t):=by
 rcases h.from_ with h1 | ⟨r',h1,hr,h3,h4⟩
 ·omega
 ·obtain rfl:r=r':=by omega
  have hra:r<A.length:=by rw [hA.len];omega
  have e:A.getD r (-1)=A[r]:=by simp [List.getD_eq_getElem?_getD,hra]
  refine ⟨hr,hra,⟨?_,?_,?_,fun hf q q1 q2 q3=>?_,fun hf q q1 q2 q3 q4=>?_,?_⟩⟩
  ·by_cases hl:t.L<((alikeL (T.drop r) (restL T p):Nat):Int)
   ·rw [if_pos hl];exact .inr ⟨r,hr,hd,beg_alike hr h3 h4,rfl⟩
   ·rw [if_neg hl];exact h.good
  ·rw [e];rcases hA.ok r hra with g1 | ⟨u,g1,g2,g3,g4⟩
   ·exact .inl g1
   ·exact .inr ⟨u,g1,by omega,h3,g4.trans h4⟩
  ·rw [e];have hn:=h.near;rcases hA.ok r hra with g1 | ⟨u,g1,g2,g3,g4⟩
   ·rw [g1];omega
   ·rw [g1];omega
  ·rcases h.all hf q q1 q2 q3 with g1 | g1
   ·by_cases hqr:q=r
    ·subst hqr
     right
     split
     ·exact Int.le_refl _
     ·omega
    ·left
     exact hA.all hf q r (by omega) (by omega) (by rw [q3,h4])
   ·right
    split
    ·show ((alikeL (T.drop q) (restL T p):Nat):Int)≤((alikeL (T.drop r) (restL T p):Nat):Int);omega
    ·exact g1
  ·by_cases hl:t.L<((alikeL (T.drop r) (restL T p):Nat):Int)
   ·rw [if_pos hl] at q4 ⊢;have q5:((p-q:Nat):Int)<((p-r:Nat):Int):=q4;show ((alikeL (T.drop q) (restL T p):Nat):Int)<((alikeL (T.drop r) (restL T p):Nat):Int);rcases h.all hf q q1 q2 q3 with g1 | g1
    ·omega
    ·omega
   ·rw [if_neg hl] at q4 ⊢;exact h.nearer hf q q1 q2 q3 q4
  ·have hl:=h.left;rw [show 128-i=(128-(i+1))+1 by omega] at hl
   unfold lookF at hl;rw [if_neg (by omega),Int.toNat_natCast] at hl
   exact hl
theorem Seek.last {T:List UInt8} {full:Prop} {A:List Int} {p i:Nat} {f:Int} {t:Tok} (h:Seek T full A p i f t) (hend:f = -1∨32768<p-f∨t.L=((restL T p).length:Nat)∨128≤i):t=longF T A p:=by
 rw [←h.left]
 by_cases hi:128≤i
 ·rw [show 128-i=0 by omega];rfl
 ·rw [show 128-i=(127-i)+1 by omega]
  unfold lookF;rw [if_pos (by omega)]
theorem Seek.full {T:List UInt8} {p i:Nat} {f:Int} {t:Tok} {full:Prop} {A:List Int} (h:Seek T full A p i f t) (hf:full) (hend:f = -1∨32768<p-f∨t.L=((restL T p).length:Nat)∨128≤i):Best T p t:=by
 refine ⟨?_,h.nearer hf⟩;intro q q1 q2 q3 q4;have hle:=(alikeL_le (T.drop q) (restL T p)).2;rcases h.all hf q q1 q3 q4 with g1 | g1
 ·have hn:=h.near;rcases hend with e | e | e | e
  ·omega
  ·omega
  ·rw [e];omega
  ·omega
 ·exact g1
end Go.Proofs.YthbjllabgpaaaaaGreat.Lz
namespace Go.Proofs.YthbjllabgpaaaaaGreat.Lz
open Go.Lib (hid)
set_option maxHeartbeats 2000000
open Go.ChangeShapes Go.WideShapes Go.ChangeAt Go.RowKit Go.Maps
set_option linter.unusedVariables false
theorem kint:Keyed Tryz.prog 3:=int_keyed Tryz.underlying3
theorem zeroI (w:World):(zeroValue 3).run Tryz.prog w=.ok (.int .i64 0) w:=by kernel_rfl
def MapIs (D:DataW Unit) (F:Nat→Option Nat):Prop:=
 (∀x:Nat,Maps.has D (.int .i64 x)=(F x).isSome)∧∀(x v:Nat),F x=some v→D.atKey (.int .i64 x) (.lit (.int .i64 0))=.lit (.int .i64 v)
theorem MapIs.start:MapIs (.map []) (fun _=>none):=⟨fun x=>rfl,fun x v h=>nomatch h⟩
theorem lit_ne {x y:Nat} (h:x≠y):(Lit.int .i64 (x:Nat))≠Lit.int .i64 (y:Nat):=fun e=>h (by
 simp only [Lit.int.injEq,true_and] at e
 omega)
theorem key_lit (x:Nat):WideAt.IsKeyLit (Lit.int .i64 (x:Nat)):=trivial
theorem MapIs.upd {D:DataW Unit} {F:Nat→Option Nat} (h:MapIs D F) (hD:IsMap D) (x p:Nat):MapIs (D.put (.int .i64 x) (.lit (.int .i64 p))) (upd F x p):=by
 refine ⟨fun y=>?_,fun y v hy=>?_⟩
 ·unfold Lz.upd
  by_cases hyx:y=x
  ·subst hyx;rw [has_put_same hD (key_lit _),if_pos rfl];rfl
  ·rw [has_put_other (lit_ne hyx),if_neg hyx];exact h.1 y
 ·unfold Lz.upd at hy
  by_cases hyx:y=x
  ·subst hyx;rw [if_pos rfl] at hy;simp only [Option.some.injEq] at hy;subst hy;rw [atKey_put_same hD (key_lit _)]
  ·rw [if_neg hyx] at hy;rw [atKey_put_other (lit_ne hyx)];exact h.2 y v hy
theorem drop_beg (s:ByteArray) (p:Nat):beg (s.extract p s.size).data.toList 0=beg s.data.toList p:=by
 have e:(s.extract p s.size).data.toList=s.data.toList.drop p:=by
  simp [ByteArray.data_extract]
  apply List.take_of_length_le
  simp
 rw [e];unfold beg;simp only [drop_getD,Nat.add_zero,Nat.zero_add]
def cellsI (A:List Int):List Value:=A.map fun x=>Value.int .i64 x
theorem cellsI_fill (m:Nat):fill m m=cellsI (List.replicate m (-1)):=by simp [fill,cellsI]
theorem cellsI_set (A:List Int) (v:Nat) (x:Int):(cellsI A).toArray.setIfInBounds v (.int .i64 x)=(cellsI (A.set v x)).toArray:=by
 unfold cellsI;rw [List.setIfInBounds_toArray,List.map_set]
theorem cellsI_get (A:List Int) (v:Nat) (h:v<A.length):(cellsI A).toArray[v]?=some (.int .i64 A[v]):=by
 simp [cellsI,h]
set_option maxRecDepth 10000 in
theorem chains_any (s:ByteArray) (start:Nat) (w:World) (hs:s.size≤1000000) (hst:start≤1000000) :
  Calls Tryz.prog 118 #[.string s,.int .i64 start] w fun e w'=>∃b A,e=.returned (.slice (some ⟨b,0,none⟩) s.size s.size)∧w.heap.size≤b ∧
   w'.heap[b]?=some (.cells (cellsI A).toArray 3 (0,0))∧Below w.heap.size w w'∧Links s.data.toList (start=0) A:=by
 have hmm:=@run_makeMap Tryz.prog;have hSL:s.data.toList.length=s.size:=by simp
 have C1:=hid (repeat_any w.heap.size s.size (w.alloc (.cells #[.int .i64 (-1)] 3)) (by rw [cell_of_row _ _ 0 _ _ _ (heap_alloc_new _ _)];rfl) (by simp) hs)
 go_enter Tryz.func118,Tryz.ntmps118
 go_wp2_with fail
 refine C1.out.mono ?_;rintro r w1 ⟨rfl,hB1,hb1⟩;clear C1;have hb0:Below w.heap.size w w1:=((Below.refl _ _).alloc (Nat.le_refl _) _).trans (hb1.mono (by simp))
 have hB0:w.heap.size≤(w.alloc (.cells #[.int .i64 (-1)] 3)).heap.size:=by simp
 clear hb1;generalize (w.alloc (.cells #[.int .i64 (-1)] 3)).heap.size=B at *
 go_wp2_with fail
 have hBM:B<w1.heap.size:=(Array.getElem?_eq_some_iff.1 hB1).1
 have hB2:(w1.alloc (.map #[] 0)).heap[B]?=some (.cells (cellsI (List.replicate s.size (-1))).toArray 3 (0,0)):=by
  rw [Below.heap_alloc _ _ _ hBM,←cellsI_fill];exact hB1
 have hO:(w1.alloc (.map #[] 0)).ownsMap Tryz.prog 3 (plainElem (H:=Unit) Tryz.prog 3) w1.heap.size 0 (.map []):=World.ownsMap_made _ _ _ _;have hb2:Below w.heap.size w (w1.alloc (.map #[] 0)):=hb0.alloc hb0.size _;have hU:=Upto.start s.data.toList start;rw [hSL] at hU;have HB2:=hid hB2;have HO:=hid hO;have HL:=hid hb2;have HU:=hid hU;have hwM:w.heap.size≤w1.heap.size:=hb0.size;clear hB1 hB2 hO hb0 hb2 hU hmm;generalize w1.alloc (.map #[] 0)=w2 at *;generalize w1.heap.size=M at *;have hz3:(((s.size:Int)-3)+1).toNat=s.size-2:=by omega
 go_loopw [7] (fun i wr=>∃(z:Int) (A:List Int) (F:Nat→Option Nat) (D:DataW Unit) (k:Nat),i=.int .i64 z∧-3≤z∧z+3≤s.size∧Upto s.data.toList start (z+1).toNat A F∧wr.heap[B]?=some (.cells (cellsI A).toArray 3 (0,0)) ∧
   wr.ownsMap Tryz.prog 3 (plainElem (H:=Unit) Tryz.prog 3) M k D∧MapIs D F∧k+(z+1).toNat≤s.size∧Below w.heap.size w wr) (fun i _=>(intOf i+1).toNat)
 case atStart=>exact ⟨(s.size:Int)-3,_,_,_,0,rfl,by omega,by omega,by rw [hz3];exact HU.out,HB2.out,HO.out,MapIs.start,by omega,HL.out⟩
 case round=>
  obtain ⟨z,A,F,D,k,rfl,hz1,hz2,hU,hB,hO,hD,hk,hb⟩:=hrel;clear HB2 HO HL HU hz3;have HL:=hid hb;have HO:=hid hO;have HB:=hid hB;clear hb hO hB
  by_cases hlt:z<0
  ·have e0:(z+1).toNat=0:=by omega
   rw [e0] at hU;have hL:=hid hU.links;clear hU hD
   go_wp2_with fail
   go_ret;exact ⟨B,A,rfl,hB0,HB.out,HL.out,hL.out⟩
  ·obtain ⟨p,rfl⟩:∃p:Nat,z=p:=⟨z.toNat,by omega⟩
   have e1:((p:Int)+1).toNat=p+1:=by omega
   rw [e1] at hU hk;have hp3:p+3≤s.size:=by omega
   have CB:=hid (beginning_any (s.extract p s.size) wr (by simp;omega) (by simp;omega))
   rw [drop_beg] at CB;have hD1:=hD.1 (beg s.data.toList p);have hD2:=hD.2 (beg s.data.toList p);have HUP:=hid (hD.upd HO.out.isMap (beg s.data.toList p) p);have HD:=hid hD;have hbl:beg s.data.toList p<16777216:=begK_lt s.data.toList p 3;have hfst:=hU.first (beg s.data.toList p);have hAl:=hU.len;rw [hSL] at hAl;have HIT:=hid (fun v=>hU.hit (v:=v) (by rw [hSL];exact hp3))
   have MISS:=hid (hU.miss (by rw [hSL];exact hp3))
   have PASS:=hid (fun h=>hU.pass h)
   rw [hSL] at hfst;generalize beg s.data.toList p=x at *;have HKX:Hid (keyOf Tryz.prog 3 (.int .i64 (x:Nat))=some (.int .i64 (x:Nat))):=hid (keyOf_int_mk Tryz.underlying3 (WalkArith.wf_i64 (by omega)))
   have HMB:=hid (show M≠B by omega)
   have hp1:(((p:Int)-1)+1).toNat=p:=by omega
   have WFP:Hid ((Lit.int .i64 (p:Nat)).wf=true):=hid (WalkArith.wf_i64 (by omega))
   clear hU hD hSL
   cases hF:F x with
   | some v=>
    obtain ⟨v1,v2,_⟩:=hfst v hF;rw [hF] at hD1;have HD1:=hid (show Maps.has D (.int .i64 (x:Nat))=true from hD1)
    have HC:Hid (∀c:Int,D.atKey (.int .i64 (x:Nat)) (.lit (.int .i64 0))=.lit (.int .i64 c)→c=v):=hid fun c hc=>by
     have:=hc.symm.trans (hD2 v hF)
     simpa using this
    have HNX:=hid (HIT.out v hF);have cz:wr.cell? ⟨B,v,none⟩=some (.int .i64 (A[v]'(by omega))):=by rw [cell_of_row _ _ _ _ _ _ HB.out,cellsI_get]
    have fz:wr.frozen? ⟨B,v,none⟩=false:=frozen_of_row _ _ _ _ _ HB.out
    have hB3:(wr.setCell ⟨B,v,none⟩ (.int .i64 (p:Nat))).heap[B]?=some (.cells (cellsI (A.set v p)).toArray 3 (0,0)):=by
     rw [heap_setCell_same wr B v _ _ _ HB.out,cellsI_set]
    have HB3:=hid hB3;have HO3:=hid (HO.out.setCell (a:=⟨B,v,none⟩) HMB.out (.int .i64 (p:Nat)));have HL3:=hid (HL.out.setCell (p:=⟨B,v,none⟩) hB0 (.int .i64 (p:Nat)));generalize A[v]'(by omega)=y at *
    clear hfst hD1 hD2 hF HIT MISS PASS HD hB3 HB HL
    go_wp2_with fail
    refine CB.out.mono ?_;rintro r w3 ⟨rfl,rfl⟩;clear CB
    go_wp2_with (first
     | (at_lookup;refine wpList_lookup_own_ok_int _ rfl _ _ 175 rfl 3 3 .i64 kint Tryz.underlying175 Tryz.underlying3 (zeroI _) M k D rfl HO.out _ (.int .i64 (x:Nat)) rfl HKX.out ?_;intro c hat hwc;have hcv:=HC.out c hat;subst hcv;rw [HD1.out];clear hat hwc)
     | (at_mapUpdate;refine wpList_mapUpdate_own _ rfl _ _ _ 175 rfl 3 3 kint Tryz.underlying175 (plainElem Tryz.prog 3) M k D rfl HO3.out (by unfold maxLen;omega) _ _ (.int .i64 (x:Nat)) rfl rfl HKX.out _ [] (plainElem_int Tryz.underlying3 WFP.out) ?_;intro w4 ho4 hg4))
    have hB4:w4.heap[B]?=some (.cells (cellsI (A.set v p)).toArray 3 (0,0)):=by
     rw [hg4.block B (Array.getElem?_eq_some_iff.1 HB3.out).1 (fun e=>HMB.out (by simpa using e.symm))];exact HB3.out
    have hL4:=HL3.out.grown hg4 HL3.out.size (fun j hj=>by simp at hj;omega)
    exact ⟨⟨(p:Int)-1,A.set v p,upd F x p,_,k+1,rfl,by omega,by omega,by rw [hp1];exact HNX.out,hB4,ho4,HUP.out,by rw [hp1];omega,hL4⟩,by simp [intOf]⟩
   | none=>
    rw [hF] at hD1;have HD1:=hid (show Maps.has D (.int .i64 (x:Nat))=false from hD1)
    by_cases hps:start≤p
    ·have HNX:=hid (MISS.out hF);have hps2:decide ((start:Int)≤(p:Int))=true:=decide_eq_true (by omega)
     have hps3:decide (start≤p)=true:=decide_eq_true hps;clear hfst hD1 hD2 hF HIT MISS PASS HD
     go_wp2_with fail
     refine CB.out.mono ?_;rintro r w3 ⟨rfl,rfl⟩;clear CB
     go_wp2_with (first
      | (at_lookup;refine wpList_lookup_own_ok_int _ rfl _ _ 175 rfl 3 3 .i64 kint Tryz.underlying175 Tryz.underlying3 (zeroI _) M k D rfl HO.out _ (.int .i64 (x:Nat)) rfl HKX.out ?_;intro c hat hwc;rw [HD1.out];clear hat hwc)
      | (at_mapUpdate;refine wpList_mapUpdate_own _ rfl _ _ _ 175 rfl 3 3 kint Tryz.underlying175 (plainElem Tryz.prog 3) M k D rfl HO.out (by unfold maxLen;omega) _ _ (.int .i64 (x:Nat)) rfl rfl HKX.out _ [] (plainElem_int Tryz.underlying3 WFP.out) ?_;intro w4 ho4 hg4))
     have hB4:w4.heap[B]?=some (.cells (cellsI A).toArray 3 (0,0)):=by
      rw [hg4.block B (Array.getElem?_eq_some_iff.1 HB.out).1 (fun e=>HMB.out (by simpa using e.symm))];exact HB.out
     have hL4:=HL.out.grown hg4 HL.out.size (fun j hj=>by simp at hj;omega)
     exact ⟨⟨(p:Int)-1,A,upd F x p,_,k+1,rfl,by omega,by omega,by rw [hp1];exact HNX.out,hB4,ho4,HUP.out,by rw [hp1];omega,hL4⟩,by simp [intOf]⟩
    ·have HNX:=hid (PASS.out (by omega))
     have hps2:decide ((start:Int)≤(p:Int))=false:=decide_eq_false (by omega)
     have hps3:decide (start≤p)=false:=decide_eq_false hps;clear hfst hD1 hD2 hF HIT MISS PASS
     go_wp2_with fail
     refine CB.out.mono ?_;rintro r w3 ⟨rfl,rfl⟩;clear CB
     go_wp2_with (at_lookup;refine wpList_lookup_own_ok_int _ rfl _ _ 175 rfl 3 3 .i64 kint Tryz.underlying175 Tryz.underlying3 (zeroI _) M k D rfl HO.out _ (.int .i64 (x:Nat)) rfl HKX.out ?_;intro c hat hwc;rw [HD1.out];clear hat hwc)
     exact ⟨⟨(p:Int)-1,A,F,D,k,rfl,by omega,by omega,by rw [hp1];exact HNX.out,HB.out,HO.out,HD.out,by rw [hp1];omega,HL.out⟩,by simp [intOf]⟩
end Go.Proofs.YthbjllabgpaaaaaGreat.Lz
namespace Go.Proofs.YthbjllabgpaaaaaGreat.Lz
open Go.Lib (hid)
set_option maxHeartbeats 2000000
open Go.ChangeShapes Go.WideShapes Go.ChangeAt Go.RowKit
set_option linter.unusedVariables false
theorem ext_drop (s:ByteArray) (p:Nat):(s.extract p s.size).data.toList=s.data.toList.drop p:=by
 simp [ByteArray.data_extract]
 apply List.take_of_length_le
 simp
theorem ext_rest (s:ByteArray) (p m:Nat) (hp:p≤s.size) (hm:m=min (p+258) s.size):(s.extract p m).data.toList=restL s.data.toList p:=by
 unfold restL
 apply List.ext_getElem?
 intro j
 have e:(s.extract p m).data.toList[j]?=if j<m-p then s.data.toList[p+j]? else none:=by
  have hz:(s.extract p m).data.toList=(s.data.toList.drop p).take (m-p):=by
   simp [ByteArray.data_extract]
  rw [hz,List.getElem?_take,List.getElem?_drop]
 rw [e,List.getElem?_take,List.getElem?_drop];have hl:s.data.toList.length=s.size:=by simp
 by_cases h1:j<m-p
 ·rw [if_pos h1,if_pos (by omega)]
 ·rw [if_neg h1]
  split
  ·exact (List.getElem?_eq_none (by omega)).symm
  ·rfl
theorem store3 {w:World} {R:Nat} {x0 x1 x2:Value} {T:TypeId} (h:w.heap[R]?=some (.cells #[x0,x1,x2] T (0,0))) (a b c:Value) :
  (((w.setCell ⟨R,0,none⟩ a).setCell ⟨R,1,none⟩ b).setCell ⟨R,2,none⟩ c).heap[R]?=some (.cells #[a,b,c] T (0,0)):=by
 have h1:=heap_setCell_same w R 0 _ _ a h;have h2:=heap_setCell_same (w.setCell ⟨R,0,none⟩ a) R 1 _ _ b h1;have h3:=heap_setCell_same ((w.setCell ⟨R,0,none⟩ a).setCell ⟨R,1,none⟩ b) R 2 _ _ c h2;exact h3
theorem ret_tok (tmps:Array Value) (w:World) (R:Nat) (t:Tok) (hp:tmps.getD 6 undef=.pointer (some ⟨R,0,none⟩)) (hg:w.heap[R]?=some (.cells (tokC t) 136 (0,0))) :
  (results Tryz.f119 tmps).run Tryz.prog w=.ok (.agg (tokC t)) w:=
 results_cell_row rfl tmps w R 136 (tokC t) (0,0) _ hp hg Tryz.underlying136 rfl (by kernel_rfl)
set_option maxRecDepth 10000 in
theorem longest_any (s:ByteArray) (g p:Nat) (A:List Int) (full:Prop) (w:World) (hs:s.size≤1000000) (hp:p<s.size) (hA:w.heap[g]?=some (.cells (cellsI A).toArray 3 (0,0))) (hL:Links s.data.toList full A) :
  Calls Tryz.prog 119 #[.string s,.slice (some ⟨g,0,none⟩) s.size s.size,.int .i64 p] w fun e w'=>∃t,e=.returned (.agg (tokC t))∧Good s.data.toList p t∧(full→Best s.data.toList p t)∧t=longF s.data.toList A p∧Below w.heap.size w w':=by
 have hSL:s.data.toList.length=s.size:=by simp
 have hAl:A.length=s.size:=by rw [hL.len,hSL]
 have hgl:g<w.heap.size:=(Array.getElem?_eq_some_iff.1 hA).1;have hgd:s.data.toList.getD p 0=s[p]:=by simp [List.getD_eq_getElem?_getD,hp];rfl
 have hS:=Seek.start hL (by rw [hSL];exact hp)
 rw [hgd] at hS;obtain ⟨m,hm⟩:∃m,m=min (p+258) s.size:=⟨_,rfl⟩;have hm1:min ((p:Int)+258) (s.size:Int)=(m:Int):=by omega
 have hm2:(if (s.size:Int)<(p:Int)+258 then (s.size:Int) else (p:Int)+258)=(m:Int):=by split <;> omega
 have hrest:=ext_rest s p m (by omega) hm
 have hmp:p≤m∧m≤s.size:=by omega
 have c9:w.cell? ⟨g,p,none⟩=some (.int .i64 (A.getD p (-1))):=by
  rw [cell_of_row _ _ _ _ _ _ hA,cellsI_get _ _ (by omega)]
  simp [List.getD_eq_getElem?_getD,show p<A.length by omega]
 generalize A.getD p (-1)=f0 at *;have hx2:=s[p].toNat_lt;have HS:=hid hS;have HA:=hid hA;have HL:=hid hL;have HR:=hid hrest;have HM:=hid hm;clear hA hL hS hgd hrest hm
 go_enter Tryz.func119,Tryz.ntmps119
 go_wp2_with fail
 have hb2:Below w.heap.size w ((w.alloc (.cells #[.int .i64 0,.int .i64 0,.int .i64 0] 136)).alloc (.cells #[.int .i64 s[p].toNat,.int .i64 0,.int .i64 0] 136)):=
  ((Below.refl _ _).alloc (Nat.le_refl _) _).alloc (by simp) _
 have h0:((w.alloc (.cells #[.int .i64 0,.int .i64 0,.int .i64 0] 136)).alloc (.cells #[.int .i64 s[p].toNat,.int .i64 0,.int .i64 0] 136)).heap[w.heap.size]?=some (.cells #[.int .i64 0,.int .i64 0,.int .i64 0] 136 (0,0)):=by
  rw [Below.heap_alloc _ _ _ (by simp)];exact heap_alloc_new _ _
 have h1:((w.alloc (.cells #[.int .i64 0,.int .i64 0,.int .i64 0] 136)).alloc (.cells #[.int .i64 s[p].toNat,.int .i64 0,.int .i64 0] 136)).heap[w.heap.size+1]?=some (.cells (tokC (byteT s[p])) 136 (0,0)):=by
  have:=heap_alloc_new (w.alloc (.cells #[.int .i64 0,.int .i64 0,.int .i64 0] 136)) (.cells #[.int .i64 s[p].toNat,.int .i64 0,.int .i64 0] 136)
  have e:(w.alloc (.cells #[.int .i64 0,.int .i64 0,.int .i64 0] 136)).heap.size=w.heap.size+1:=by simp
  rw [e] at this;exact this
 generalize (w.alloc (.cells #[.int .i64 0,.int .i64 0,.int .i64 0] 136)).alloc (.cells #[.int .i64 s[p].toNat,.int .i64 0,.int .i64 0] 136)=w2 at *;have hrz:(s.extract p m).size≤1000000:=by simp;omega
 generalize s.extract p m=rst at *;have hrl:rst.size=(restL s.data.toList p).length:=by rw [←HR.out];simp
 have HRL:=hid hrl;clear hrl hm1 hm2;obtain ⟨R0,hR0⟩:∃R0,w.heap.size=R0:=⟨_,rfl⟩;obtain ⟨R1,hR1⟩:∃R1,w.heap.size+1=R1:=⟨_,rfl⟩;rw [hR1] at h1;rw [hR1];have hr0:w.heap.size≤R1:=by omega
 rw [hR0] at h0 hb2 hgl hr0;rw [hR0];have hr01:R0≠R1:=by omega
 have B2:=hid hb2;have H0:=hid h0;have H1:=hid h1;have HRR:=hid hR0;clear hb2 h0 h1 hR0 hR1 c9
 go_loopw [9,28] (fun x i wr=>∃(k:Nat) (f:Int) (t:Tok),k≤128∧i=.int .i64 k∧x=.int .i64 f∧Seek s.data.toList full A p k f t∧wr.heap[R1]?=some (.cells (tokC t) 136 (0,0)) ∧
   wr.heap[R0]?=some (.cells #[.int .i64 0,.int .i64 0,.int .i64 0] 136 (0,0))∧Below R0 w wr) (fun _ i _=>128-(intOf i).toNat)
 case atStart=>exact ⟨0,f0,_,by omega,rfl,rfl,HS.out,H1.out,H0.out,B2.out⟩
 case round=>
  obtain ⟨k,f,t,hk,rfl,rfl,hS,h1,h0,hb⟩:=hrel;clear HS H1 H0 B2;obtain ⟨b,l,d⟩:=t;have HS:=hid hS;have HB:=hid hb;have H1:=hid h1;have H0:=hid h0;have d0:wr.cell? ⟨R1,0,none⟩=some (.int .i64 b):=by rw [cell_of_row _ _ 0 _ _ _ h1];rfl
  have d1:wr.cell? ⟨R1,1,none⟩=some (.int .i64 l):=by rw [cell_of_row _ _ 1 _ _ _ h1];rfl
  have d2:wr.cell? ⟨R1,2,none⟩=some (.int .i64 d):=by rw [cell_of_row _ _ 2 _ _ _ h1];rfl
  have z0:wr.cell? ⟨R0,0,none⟩=some (.int .i64 0):=by rw [cell_of_row _ _ 0 _ _ _ h0];rfl
  have z1:wr.cell? ⟨R0,1,none⟩=some (.int .i64 0):=by rw [cell_of_row _ _ 1 _ _ _ h0];rfl
  have z2:wr.cell? ⟨R0,2,none⟩=some (.int .i64 0):=by rw [cell_of_row _ _ 2 _ _ _ h0];rfl
  have y0:wr.frozen? ⟨R0,0,none⟩=false:=frozen_of_row _ _ _ _ _ h0;have y1:wr.frozen? ⟨R0,1,none⟩=false:=frozen_of_row _ _ _ _ _ h0;have y2:wr.frozen? ⟨R0,2,none⟩=false:=frozen_of_row _ _ _ _ _ h0;clear hS hb h1 h0
  by_cases hend:128≤k
  ·obtain rfl:k=128:=by omega
   have HF:=hid (fun hf=>HS.out.full hf (.inr (.inr (.inr (Nat.le_refl _)))))
   have HG:=hid (And.intro HS.out.good (HS.out.last (.inr (.inr (.inr (Nat.le_refl _))))));have HZ:=hid (store3 H0.out (.int .i64 b) (.int .i64 l) (.int .i64 d));clear HS HL HA HR HM
   go_wp2_with fail
   (try simp only [Exit.inBlock,Exit.then])
   refine bodyPost_ret (v:=.agg (tokC ⟨b,l,d⟩)) (ret_tok _ _ R0 ⟨b,l,d⟩ rfl HZ.out) rfl ?_;refine ⟨⟨b,l,d⟩,rfl,HG.out.1,HF.out,HG.out.2,?_⟩;rw [HRR.out];exact ((HB.out.setCell (Nat.le_refl _) _).setCell (Nat.le_refl _) _).setCell (Nat.le_refl _) _
  have hk2:k<128:=by omega
  rcases HS.out.from_ with rfl | ⟨r,rfl,hrp,hp3,hbeg⟩
  ·have HS0:=hid HS.out;have HF:=hid (fun hf=>HS.out.full hf (.inl rfl))
   have HG:=hid (And.intro HS.out.good (HS.out.last (.inl rfl)));have HZ:=hid (store3 H0.out (.int .i64 b) (.int .i64 l) (.int .i64 d));clear HS HL HA HR HM
   go_wp2_with fail
   (try simp only [Exit.inBlock,Exit.then])
   refine bodyPost_ret (v:=.agg (tokC ⟨b,l,d⟩)) (ret_tok _ _ R0 ⟨b,l,d⟩ rfl HZ.out) rfl ?_;refine ⟨⟨b,l,d⟩,rfl,HG.out.1,HF.out,HG.out.2,?_⟩;rw [HRR.out];exact ((HB.out.setCell (Nat.le_refl _) _).setCell (Nat.le_refl _) _).setCell (Nat.le_refl _) _
  ·have hf1:((r:Int)==-1)=false:=by simp
   obtain ⟨e,he⟩:∃e:Nat,(p:Int)-(r:Int)=(e:Int):=⟨p-r,by omega⟩
   by_cases hfar:32768<e
   ·have hfar1:decide ((32768:Int)<(e:Int))=true:=decide_eq_true (by omega)
    have HF:=hid (fun hf=>HS.out.full hf (.inr (.inl (by omega))))
    have HG:=hid (And.intro HS.out.good (HS.out.last (.inr (.inl (by omega)))))
    have HZ:=hid (store3 H0.out (.int .i64 b) (.int .i64 l) (.int .i64 d));clear HS HL HA HR HM
    go_wp2_with fail
    (try simp only [Exit.inBlock,Exit.then])
    refine bodyPost_ret (v:=.agg (tokC ⟨b,l,d⟩)) (ret_tok _ _ R0 ⟨b,l,d⟩ rfl HZ.out) rfl ?_;refine ⟨⟨b,l,d⟩,rfl,HG.out.1,HF.out,HG.out.2,?_⟩;rw [HRR.out];exact ((HB.out.setCell (Nat.le_refl _) _).setCell (Nat.le_refl _) _).setCell (Nat.le_refl _) _
   ·have hfar1:decide ((32768:Int)<(e:Int))=false:=decide_eq_false (by omega)
    by_cases hfull:l=rst.size
    ·have hl1:(l==(rst.size:Int))=true:=by simpa using hfull
     have hl2:l=((restL s.data.toList p).length:Nat):=by rw [hfull,HRL.out]
     have HL2:=hid hl2;clear hfull hl2;have HF:=hid (fun hf=>HS.out.full hf (.inr (.inr (.inl HL2.out))))
     have HG:=hid (And.intro HS.out.good (HS.out.last (.inr (.inr (.inl HL2.out)))));have HZ:=hid (store3 H0.out (.int .i64 b) (.int .i64 l) (.int .i64 d));clear HS HL HA HR HM
     go_wp2_with fail
     (try simp only [Exit.inBlock,Exit.then])
     refine bodyPost_ret (v:=.agg (tokC ⟨b,l,d⟩)) (ret_tok _ _ R0 ⟨b,l,d⟩ rfl HZ.out) rfl ?_;refine ⟨⟨b,l,d⟩,rfl,HG.out.1,HF.out,HG.out.2,?_⟩;rw [HRR.out];exact ((HB.out.setCell (Nat.le_refl _) _).setCell (Nat.le_refl _) _).setCell (Nat.le_refl _) _
    ·have hl1:(l==(rst.size:Int))=false:=by simpa using hfull
     have CA:=hid (alike_any (s.extract r s.size) rst wr (by simp <;> omega) hrz)
     rw [ext_drop,HR.out] at CA;obtain ⟨q1,q2,q3⟩:=Seek.step HL.out HS.out (by rw [hSL];exact hp) (by omega) hk2 (by rw [←HRL.out];exact hfull)
     have hN:=(alikeL_le (s.data.toList.drop r) (restL s.data.toList p)).2;rw [←HRL.out] at hN;have he2:p-r=e:=by omega
     rw [he2] at q3
     have cA:wr.cell? ⟨g,r,none⟩=some (.int .i64 (A.getD r (-1))):=by
      rw [cell_of_row _ _ _ _ _ _ ((HB.out.block g (by omega)).trans HA.out),cellsI_get _ _ q2]
      simp [List.getD_eq_getElem?_getD,q2]
     generalize alikeL (s.data.toList.drop r) (restL s.data.toList p)=N at *;generalize A.getD r (-1)=f2 at *;have Q3:=hid q3;clear q3 HS HL HR HM hfull
     go_wp2_with fail
     refine CA.out.mono ?_;rintro rr w3 ⟨rfl,nq,hw3⟩;clear CA;have H13:Hid (w3.heap[R1]?=some (.cells (tokC ⟨b,l,d⟩) 136 (0,0))):=hid (by rw [hw3];exact H1.out)
     have H03:Hid (w3.heap[R0]?=some (.cells #[.int .i64 0,.int .i64 0,.int .i64 0] 136 (0,0))):=hid (by rw [hw3];exact H0.out)
     have B3:Hid (Below R0 w w3):=hid (by rw [hw3];exact ⟨HB.out.os,HB.out.tape,HB.out.output,HB.out.size,HB.out.block⟩)
     have cA:w3.cell? ⟨g,r,none⟩=some (.int .i64 f2):=by rw [hw3];exact cA
     clear hw3 d0 d1 d2 z0 z1 z2 y0 y1 y2 H1 H0 HB;have d0:w3.cell? ⟨R1,0,none⟩=some (.int .i64 b):=by rw [cell_of_row _ _ 0 _ _ _ H13.out];rfl
     have d1:w3.cell? ⟨R1,1,none⟩=some (.int .i64 l):=by rw [cell_of_row _ _ 1 _ _ _ H13.out];rfl
     have d2:w3.cell? ⟨R1,2,none⟩=some (.int .i64 d):=by rw [cell_of_row _ _ 2 _ _ _ H13.out];rfl
     have y0:w3.frozen? ⟨R1,0,none⟩=false:=frozen_of_row _ _ _ _ _ H13.out;have y1:w3.frozen? ⟨R1,1,none⟩=false:=frozen_of_row _ _ _ _ _ H13.out;have y2:w3.frozen? ⟨R1,2,none⟩=false:=frozen_of_row _ _ _ _ _ H13.out
     by_cases hlN:l<(N:Int)
     ·have Q4:Hid (Seek s.data.toList full A p (k+1) f2 ⟨0,(N:Nat),(e:Nat)⟩):=hid (by have:=Q3.out;rwa [if_pos hlN] at this)
      have H14:=hid (store3 H13.out (.int .i64 0) (.int .i64 (N:Nat)) (.int .i64 (e:Nat)))
      have H04:Hid ((((w3.setCell ⟨R1,0,none⟩ (.int .i64 0)).setCell ⟨R1,1,none⟩ (.int .i64 (N:Nat))).setCell ⟨R1,2,none⟩ (.int .i64 (e:Nat))).heap[R0]?=some (.cells #[.int .i64 0,.int .i64 0,.int .i64 0] 136 (0,0))):=hid (by
       rw [heap_setCell_other _ ⟨R1,2,none⟩ R0 _ hr01,heap_setCell_other _ ⟨R1,1,none⟩ R0 _ hr01,heap_setCell_other _ ⟨R1,0,none⟩ R0 _ hr01];exact H03.out)
      have B4:=hid (((B3.out.setCell (p:=⟨R1,0,none⟩) hr0 (.int .i64 0)).setCell (p:=⟨R1,1,none⟩) hr0 (.int .i64 (N:Nat))).setCell (p:=⟨R1,2,none⟩) hr0 (.int .i64 (e:Nat)));have hgR:R1≠g:=by omega
      have cA4:(((w3.setCell ⟨R1,0,none⟩ (.int .i64 0)).setCell ⟨R1,1,none⟩ (.int .i64 (N:Nat))).setCell ⟨R1,2,none⟩ (.int .i64 (e:Nat))).cell? ⟨g,r,none⟩=some (.int .i64 f2):=by
       rw [World.cell?_setCell_far _ _ _ _ hgR,World.cell?_setCell_far _ _ _ _ hgR,World.cell?_setCell_far _ _ _ _ hgR];exact cA
      clear Q3 H13 H03 B3
      go_wp2_with fail
      exact ⟨⟨k+1,f2,_,by omega,by go_num,rfl,Q4.out,H14.out,H04.out,B4.out⟩,by simp [intOf];omega⟩
     ·have Q4:Hid (Seek s.data.toList full A p (k+1) f2 ⟨b,l,d⟩):=hid (by have:=Q3.out;rwa [if_neg hlN] at this)
      clear Q3
      go_wp2_with fail
      exact ⟨⟨k+1,f2,_,by omega,by go_num,rfl,Q4.out,H13.out,H03.out,B3.out⟩,by simp [intOf];omega⟩
end Go.Proofs.YthbjllabgpaaaaaGreat.Lz
namespace Go.Proofs.YthbjllabgpaaaaaGreat.Lz
open Go.Lib (hid)
set_option maxHeartbeats 2000000
open Go.ChangeShapes Go.WideShapes Go.ChangeAt Go.RowKit
set_option linter.unusedVariables false
theorem litT (w:World) (t:Tok) (T:TypeId):∀j u,(cellsT [t])[j]?=some u→(w.alloc (.cells #[.int .i64 t.B,.int .i64 t.L,.int .i64 t.D] T)).cell? ((⟨w.heap.size,0,none⟩:Addr).add j)=some u:=by
 intro j u h;rw [Oct.addr_add,cell_of_row _ _ _ _ _ _ (heap_alloc_new _ _)];rw [←h];simp [cellsT]
set_option maxRecDepth 10000 in
theorem pack_full (win s:ByteArray) (w:World) (hw:win.size≤maxLen) (hs:s.size≤500000) :
  Calls Tryz.prog 97 #[.string win,.string s] w fun e w'=>∃a cap l,e=.returned (.slice a l.length cap)∧IsToks w' a l∧Below w.heap.size w w'∧l.length≤1000000∧(∀k,(Value.slice a l.length cap).ownBlock=some k→w.heap.size≤k) ∧
   ∃A,Links (tailL win.data.toList++s.data.toList) ((tailL win.data.toList).length=0) A∧Chain (tailL win.data.toList++s.data.toList) (fun p t=>((tailL win.data.toList).length=0→Best (tailL win.data.toList++s.data.toList) p t)∧t=longF (tailL win.data.toList++s.data.toList) A p) (tailL win.data.toList).length l (tailL win.data.toList++s.data.toList).length:=by
 obtain ⟨i0,hi,hz0,hz1,hz2⟩:=info_parts info_tok;have C1:=hid (tail_any win w hw);have htz:=tailB_size win;rw [←tailB_list];generalize tailB win=tw at *;have htz2:tw.size≤32768:=by omega
 have hst:tw.data.toList.length=tw.size:=by simp
 have hT:tw.data.toList++s.data.toList=(tw++s).data.toList:=by simp
 have hTz:(tw++s).size=tw.size+s.size:=by simp
 have CC:=fun w'=>hid (chains_any (tw++s) tw.size w' (by omega) (by omega))
 have hTl:(tw++s).data.toList.length=(tw++s).size:=by simp
 rw [hT,hst,hTl];clear hT hw htz;obtain ⟨T,hTT⟩:∃T,tw++s=T:=⟨_,rfl⟩;rw [hTT] at CC hTl hTz ⊢;have hTz2:T.size≤1000000:=by omega
 have hst2:tw.size≤T.size:=by omega
 clear hTz hst hTl
 go_enter Tryz.func97,Tryz.ntmps97
 go_wp2_with fail
 refine C1.out.mono ?_;rintro r w1 ⟨rfl,rfl⟩;clear C1
 go_wp2_with fail
 refine (CC w).out.mono ?_;rintro r w1 ⟨g,A,rfl,hwg,hA,hb1,hL⟩;have CLG:=fun (p:Nat) (w':World) (h:Below w1.heap.size w1 w') (hp:p<T.size)=>hid (longest_any T g p A (tw.size=0) w' hTz2 hp ((h.block g (Array.getElem?_eq_some_iff.1 hA).1).trans hA) hL)
 have HB1:=hid hb1;have HLK:=hid hL;have hW1:w.heap.size≤w1.heap.size:=hb1.size;clear CC hA hL hwg hb1 hTT
 go_wp2_with fail
 go_loopw [7,8] (fun x i wr=>∃(p:Nat) (l:List Tok),p≤T.size∧i=.int .i64 p∧Chain T.data.toList (fun p t=>(tw.size=0→Best T.data.toList p t)∧t=longF T.data.toList A p) tw.size l p∧wr.ownsRow 0 136 3 x l.length (cellsT l) ∧
   (∀j,x.ownBlock=some j→w1.heap.size≤j)∧Below w1.heap.size w1 wr) (fun _ i _=>T.size-(intOf i).toNat)
 case atStart=>exact ⟨tw.size,[],hst2,rfl,.nil,World.ownsRow_nil _ _ _ _,fun j hj=>by simp [Value.ownBlock] at hj,Below.refl _ _⟩
 case round=>
  obtain ⟨p,l,hp,rfl,hch,ho,hv,hb⟩:=hrel;have hlp:=hch.makes.2;obtain ⟨a,cap,rfl⟩:=own_slice ho;have HCH:=hid hch;have HO:=hid ho;have HV:=hid hv;have HB:=hid hb;clear hch ho hv hb
  by_cases hlt:p<T.size
  ·have C2:=CLG p wr HB.out hlt;clear CLG;obtain ⟨N,hN⟩:∃N,l.length=N:=⟨_,rfl⟩;rw [hN] at hlp HO HV ⊢
   go_wp2_with fail
   refine C2.out.mono ?_;rintro r w2 ⟨t,rfl,hgood,hfull,hlong,hb2⟩;clear C2;obtain ⟨W,hWd⟩:∃W,wide t=W:=⟨_,rfl⟩;have hTl:T.data.toList.length=T.size:=by simp
   obtain ⟨g1,g2,g3,g4⟩:=hgood.wide (by rw [hTl];exact hlt)
   rw [hWd,hTl] at g2;rw [hWd] at g1
   have hmax:max t.L 1=(W:Int):=by
    rw [←hWd];unfold wide;omega
   have hmax2:(if t.L<1 then (1:Int) else t.L)=(W:Int):=by
    rw [←hWd];unfold wide;split <;> omega
   have hch2:Chain T.data.toList (fun p t=>(tw.size=0→Best T.data.toList p t)∧t=longF T.data.toList A p) tw.size (l++[t]) (p+W):=by
    rw [←hWd];exact .snoc HCH.out (by rw [hTl];exact hlt) hgood ⟨hfull,hlong⟩
   have HCH2:=hid hch2;obtain ⟨X,hX⟩:∃X,Obj.cells (tokC t) 136=X:=⟨_,rfl⟩;have B2:Below w1.heap.size w1 w2:=HB.out.trans (hb2.mono HB.out.size);have B3:Below w1.heap.size w1 (w2.alloc X):=B2.alloc B2.size X
   have O2:w2.ownsRow 0 136 3 (.slice a N cap) N (cellsT l):=by
    refine ⟨HO.out.1,?_⟩;rcases HO.out.2 with h | ⟨gg,c2,cur,h1,h2,h3,h4⟩
    ·exact .inl h
    ·exact .inr ⟨gg,c2,cur,h1,h2,(hb2.block gg (Array.getElem?_eq_some_iff.1 h3).1).trans h3,h4⟩
   have O3:=O2.alloc X
   have hP:(w2.alloc X).heap[w2.heap.size]?=some (.cells #[.int .i64 t.B,.int .i64 t.L,.int .i64 t.D] 136 (0,0)):=by
    rw [heap_alloc_new,←hX];rfl
   have hzz:w2.heap.size<(w2.alloc X).heap.size:=by simp
   have hX2:(w2.alloc (.cells #[.int .i64 t.B,.int .i64 t.L,.int .i64 t.D] 136))=w2.alloc X:=by rw [←hX];rfl
   rw [show tokC t=#[.int .i64 t.B,.int .i64 t.L,.int .i64 t.D] from rfl]
   obtain ⟨P,hPe⟩:∃P,w2.heap.size=P:=⟨_,rfl⟩
   have hne:(Value.slice a N cap).ownBlock≠some P:=fun e=>by
    have:=(O2.lt P e).2
    omega
   rw [hPe] at hP hzz;clear hb2 B2 O2 HO HB hgood hfull hlong hWd g3 g4 HCH hX hch2;generalize w2.alloc X=W3 at *;have p1:W3.cell? ⟨P,1,none⟩=some (.int .i64 t.L):=by rw [cell_of_row _ _ 1 _ _ _ hP];rfl
   have p0:W3.cell? ⟨P,0,none⟩=some (.int .i64 t.B):=by rw [cell_of_row _ _ 0 _ _ _ hP];rfl
   have p2:W3.cell? ⟨P,2,none⟩=some (.int .i64 t.D):=by rw [cell_of_row _ _ 2 _ _ _ hP];rfl
   have STEP:∀v4 w4,w4.ownsRow 0 136 3 v4 (N+1) (cellsT l++cellsT [t])→(W3.alloc (.cells #[.int .i64 t.B,.int .i64 t.L,.int .i64 t.D] 136)).grownBy w4 (Value.slice a N cap).ownBlock→Near (W3.alloc (.cells #[.int .i64 t.B,.int .i64 t.L,.int .i64 t.D] 136)) (.slice a N cap) v4 →
     w4.ownsRow 0 136 3 v4 (l++[t]).length (cellsT (l++[t]))∧(∀j,v4.ownBlock=some j→w1.heap.size≤j)∧Below w1.heap.size w1 w4:=fun v4 w4 o4 g4 n4=>
    ⟨by rw [cellsT_append,List.length_append,hN];exact o4,fun j hj=>by
     rcases n4 j hj with h | h
     ·exact HV.out j h
     ·have:=B3.size;simp at h;omega,(B3.alloc B3.size _).grown g4 (by have:=B3.size;simp;omega) HV.out⟩
   have ST:=hid STEP;have HO3:=hid O3;clear O3
   have C4:∀w4,(W3.alloc (.cells #[.int .i64 t.B,.int .i64 t.L,.int .i64 t.D] 136)).grownBy w4 (Value.slice a N cap).ownBlock→w4.cell? ⟨P,1,none⟩=some (.int .i64 t.L):=fun w4 g4=>by
    refine (World.cell?_of_block (a:=⟨P,1,none⟩) (g4.block P (by simp;omega) (fun e=>hne e.symm))).trans ?_
    exact (((Below.refl W3.heap.size W3).alloc (Nat.le_refl _) _).cell (p:=⟨P,1,none⟩) hzz).trans p1
   have CC4:=hid C4;have hNb:N≤1000000:=by omega
   clear STEP C4 B3 HV hlp hne
   go_wp2_with (at_builtin;refine wpList_append_near _ rfl (.tmp 29) (.tmp 31) 97 rfl 136 i0 (.agg #[.int .i64 0,.int .i64 0,.int .i64 0]) 3 24 Tryz.underlying97 hi hz0 hz1 hz2 rfl (by decide) (.slice a N cap) N (cellsT l) rfl (HO3.out.alloc _) ⟨W3.heap.size,0,none⟩ 1 1 (cellsT [t]) rfl rfl (litT _ _ _) (cellsT_one _) (by unfold maxLen;omega) (by omega) ?_;intro v4 w4 o4 g4 n4;have c4:=CC4.out w4 g4;have S4:=hid (ST.out v4 w4 o4 g4 n4);clear o4 g4 n4)
   exact ⟨⟨p+W,l++[t],g2,by go_num,HCH2.out,S4.out.1,S4.out.2.1,S4.out.2.2⟩,by simp [intOf];omega⟩
  ·obtain rfl:p=T.size:=by omega
   clear CLG;have HT:=hid (toks_of_row rfl HO.out);have HNW:Hid (∀k,(Value.slice a l.length cap).ownBlock=some k→w.heap.size≤k):=hid fun k hk=>Nat.le_trans hW1 (HV.out k (by simpa [Value.ownBlock] using hk))
   have HF:=hid (HB1.out.trans (HB.out.mono hW1));have hl1:l.length≤1000000:=by omega
   clear HO HV HB HB1;obtain ⟨N,hN⟩:∃N,l.length=N:=⟨_,rfl⟩;rw [hN];have HN:=hid hN
   go_wp2_with fail
   go_ret;exact ⟨a,cap,l,by rw [HN.out];rfl,HT.out,HF.out,hl1,HNW.out,A,HLK.out,HCH.out⟩
end Go.Proofs.YthbjllabgpaaaaaGreat.Lz
