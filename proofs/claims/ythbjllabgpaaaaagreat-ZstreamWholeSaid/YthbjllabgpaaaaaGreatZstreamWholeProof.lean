/-
  ZstreamWhole (layer 10): a stream is a zlib text without an end: behind its header all segments at once hold all texts; two packers know nothing of one another.
-/
import Derived.Test.YthbjllabgpaaaaaGreatRows
import Derived.Test.YthbjllabgpaaaaaGreatZstA
import Derived.Test.YthbjllabgpaaaaaGreatDefOut
import Derived.WalkKit
import Derived.ProofKit
import Derived.OpenShut
import Derived.ShutString
import Derived.ChangeOld
import Derived.Below
import Derived.Lib.SmallJoins
import Derived.Deep.Slices
namespace Go.Proofs.YthbjllabgpaaaaaGreat.zstreamWhole
open Go.Lib (hid)
set_option maxHeartbeats 8000000
open Go.Proofs.YthbjllabgpaaaaaGreat.Def
open Go.Proofs.YthbjllabgpaaaaaGreat.Zst
open Go.ChangeShapes Go.WideShapes Go.ChangeAt Go.RowKit
open Go.ChangeMaps (open_string shut_string)
set_option linter.unusedVariables false
theorem own:ownKnob Tryz.prog.godebug=none:=by kernel_rfl
theorem laidOut:laidOutB Tryz.prog=true:=by kernel_rfl
set_option maxRecDepth 100000 in
theorem early (a b c:ByteArray) (W:World) (h:600<a.size∨600<b.size∨600<c.size) (w0:a.size≤maxLen) (w1:b.size≤maxLen) (w2:c.size≤maxLen) :
  Calls Tryz.prog 5 #[.string a,.string b,.string c] W fun e w'=>e=.returned (.bool true)∧Below W.heap.size W w':=by
 unfold maxLen at w0 w1 w2
 by_cases h1:600<a.size
 ·have d1:decide ((600:Int)<(a.size:Int))=true:=by simp;omega
  clear h
  go_enter Tryz.func5,Tryz.ntmps5
  go_wp2_with fail
  refine (works_any _).mono ?_;rintro r w1 ⟨rfl,b1⟩
  go_wp2_with fail
  all_goals (go_ret;exact ⟨rfl,b1⟩)
 ·have d1:decide ((600:Int)<(a.size:Int))=false:=by simp;omega
  by_cases h2:600<b.size
  ·have d2:decide ((600:Int)<(b.size:Int))=true:=by simp;omega
   clear h
   go_enter Tryz.func5,Tryz.ntmps5
   go_wp2_with fail
   refine (works_any _).mono ?_;rintro r w1 ⟨rfl,b1⟩
   go_wp2_with fail
   all_goals (go_ret;exact ⟨rfl,b1⟩)
  ·have d2:decide ((600:Int)<(b.size:Int))=false:=by simp;omega
   have d3:decide ((600:Int)<(c.size:Int))=true:=by simp;omega
   clear h
   go_enter Tryz.func5,Tryz.ntmps5
   go_wp2_with fail
   refine (works_any _).mono ?_;rintro r w1 ⟨rfl,b1⟩
   go_wp2_with fail
   all_goals (go_ret;exact ⟨rfl,b1⟩)
structure Two (W w:World) (p q:Nat):Prop where
 pb:SdAt w p 31 false ⟨#[]⟩ []
 qb:SdAt w q 31 false ⟨#[]⟩ []
 be:Below W.heap.size W w
 ne:p<q∧W.heap.size≤p
theorem two_new (W w1:World) (h:Below W.heap.size W w1):Two W ((w1.alloc (.cells #[.bool false,.string ⟨#[]⟩] 31)).alloc (.cells #[.bool false,.string ⟨#[]⟩] 31)) w1.heap.size (w1.heap.size+1):=by
 have b1:Below w1.heap.size w1 (w1.alloc (.cells #[.bool false,.string ⟨#[]⟩] 31)):=(Below.refl _ _).alloc (Nat.le_refl _) _;have p1:SdAt (w1.alloc (.cells #[.bool false,.string ⟨#[]⟩] 31)) w1.heap.size 31 false ⟨#[]⟩ []:=heap_alloc_new _ _;have s1:(w1.alloc (.cells #[.bool false,.string ⟨#[]⟩] 31)).heap.size=w1.heap.size+1:=by simp
 generalize w1.alloc (.cells #[.bool false,.string ⟨#[]⟩] 31)=w2 at *;have b2:Below w2.heap.size w2 (w2.alloc (.cells #[.bool false,.string ⟨#[]⟩] 31)):=(Below.refl _ _).alloc (Nat.le_refl _) _;have q2:SdAt (w2.alloc (.cells #[.bool false,.string ⟨#[]⟩] 31)) w2.heap.size 31 false ⟨#[]⟩ []:=heap_alloc_new _ _;rw [s1] at q2;exact ⟨p1.below b2,q2,(h.trans (b1.mono h.size)).trans (b2.mono (h.trans (b1.mono h.size)).size),by omega,h.size⟩
theorem both {a b x y:ByteArray} (h1:Sg (Bit.tb x) [] 0 [] false a.data.toList) (h2:Sg (Bit.tb y) a.data.toList 0 [] false b.data.toList) :
  Sg (Bit.tb (x++y)) [] 0 [] false (a++b).data.toList:=by
 rw [tb_append,ByteArray.data_append,Array.toList_append];exact h1.glue (by rw [Bit.tb_length];omega) h2
set_option maxRecDepth 100000 in
theorem walk (a b c:ByteArray) (W:World) (w0:a.size≤maxLen) (w1:b.size≤maxLen) (w2:c.size≤maxLen) :
  Calls Tryz.prog 5 #[.string a,.string b,.string c] W fun e w'=>e=.returned (.bool true)∧Below W.heap.size W w':=by
 by_cases hg:600<a.size∨600<b.size∨600<c.size
 ·exact early a b c W hg w0 w1 w2
 have d1:decide ((600:Int)<(a.size:Int))=false:=by simp;omega
 have d2:decide ((600:Int)<(b.size:Int))=false:=by simp;omega
 have d3:decide ((600:Int)<(c.size:Int))=false:=by simp;omega
 have HS:=hid (show a.size≤600∧b.size≤600∧c.size≤600 by omega)
 have HW:=hid (works_any W);clear hg w0 w1 w2
 go_enter Tryz.func5,Tryz.ntmps5
 go_wp2_with fail
 refine HW.out.mono ?_;rintro r w1 ⟨rfl,b1⟩;have T:=hid (two_new W w1 b1);clear b1 HW
 go_wp2_with fail
 generalize ((w1.alloc (.cells #[.bool false,.string ⟨#[]⟩] 31)).alloc (.cells #[.bool false,.string ⟨#[]⟩] 31))=w2 at *;generalize w1.heap.size+1=q at *;generalize w1.heap.size=p at *;obtain ⟨hp,hq,hb,hne⟩:=T.out;have NE:=hid hne;have Q2:=hid hq;have B2:=hid hb;have CP:=hid (pseg_new p false ⟨#[]⟩ a w2 hp (by decide) (by have:=HS.out;omega))
 clear hp hq hb hne T;refine CP.out.mono ?_;rintro r w3 ⟨tx,rfl,sx,_,p3,g3⟩;rw [pass_small (by have:=HS.out;show 0+a.size≤32768;omega)] at p3
 have SX:=hid sx;have P3:=hid p3;have Q3:=hid (Q2.out.other g3 (by have:=NE.out;omega))
 have B3:=hid (B2.out.grown g3 B2.out.size (fun j hj=>by cases hj;exact NE.out.2))
 clear sx p3 g3 CP Q2 B2;have CQ:=hid (pseg_new q false ⟨#[]⟩ c w3 Q3.out (by decide) (by have:=HS.out;omega))
 go_wp2_with fail
 refine CQ.out.mono ?_;rintro r w4 ⟨ty,rfl,sy,dy,_,g4⟩;have SY:=hid (And.intro sy dy);have P4:=hid (P3.out.other g4 (by have:=NE.out;omega))
 have B4:=hid (B3.out.grown g4 B3.out.size (fun j hj=>by cases hj;have:=NE.out;omega))
 clear sy dy g4 CQ P3 Q3 B3;have CP:=hid (pseg_new p true (⟨#[]⟩++a) b w4 P4.out (by have:=HS.out;rw [emp_app];omega) (by have:=HS.out;omega))
 rw [emp_app] at CP
 go_wp2_with fail
 refine CP.out.mono ?_;rintro r w5 ⟨tz,rfl,sz,_,_,g5⟩;have e5:hdOf true++tz=tz:=emp_app tz;rw [e5];have SZ:=hid sz;have B5:=hid (B4.out.grown g5 B4.out.size (fun j hj=>by cases hj;exact NE.out.2))
 clear sz g5 CP P4 B4 e5
 have XZ:Hid (tx.size≤800∧ty.size≤800∧tz.size≤800):=hid (by
  have h1:=SX.out.2.1;have h2:=SY.out.1.2.1;have h3:=SZ.out.2.1
  have:=HS.out
  omega)
 obtain ⟨X,hX⟩:∃X,hdOf false++tx=X:=⟨_,rfl⟩;obtain ⟨Y,hY⟩:∃Y,hdOf false++ty=Y:=⟨_,rfl⟩
 have HX:Hid (hdE X=0∧X.size=tx.size+2∧X.extract 2 X.size=tx):=hid (by
  rw [←hX];exact ⟨hd_frame tx,by rw [ByteArray.size_append];show 2+_=_;omega,ext_right hd2 tx⟩)
 have HY:Hid (hdE Y=0∧Y.size=ty.size+2∧Y.extract 2 Y.size=ty):=hid (by
  rw [←hY];exact ⟨hd_frame ty,by rw [ByteArray.size_append];show 2+_=_;omega,ext_right hd2 ty⟩)
 have HYE:=hid hY;rw [hX,hY];clear hX hY;have CX:=hid (fun w=>header_any X w (by have:=HX.out;have:=XZ.out;omega))
 have CY:=hid (fun w=>header_any Y w (by have:=HY.out;have:=XZ.out;omega))
 rw [HX.out.1] at CX;rw [HY.out.1] at CY
 go_wp2_with fail
 refine (CX.out w5).mono ?_;rintro r w6 ⟨rfl,b6⟩;have B6:=hid (B5.out.trans (b6.mono B5.out.size));clear b6 CX B5
 go_wp2_with fail
 refine (CY.out w6).mono ?_;rintro r w7 ⟨rfl,b7⟩;have B7:=hid (B6.out.trans (b7.mono B6.out.size));clear b7 CY B6;have x2:(2:Int)≤(X.size:Int):=by have:=HX.out;omega
 have y2:(2:Int)≤(Y.size:Int):=by have:=HY.out;omega
 have exX:=HX.out.2.2;have exY:=HY.out.2.2;have hcat:¬(9223372036854775807<tx.size+tz.size):=by have:=XZ.out;omega
 have hcab:¬(9223372036854775807<a.size+b.size):=by have:=HS.out;omega
 have z1:(tx.size:Int)≤800:=by have:=XZ.out;omega
 have z2:(tz.size:Int)≤800:=by have:=XZ.out;omega
 have z3:(a.size:Int)≤600:=by have:=HS.out;omega
 have z4:(b.size:Int)≤600:=by have:=HS.out;omega
 have z5:(X.size:Int)≤802:=by have:=HX.out;have:=XZ.out;omega
 have z6:(Y.size:Int)≤802:=by have:=HY.out;have:=XZ.out;omega
 have CS:=hid (fun w=>refSegment_any ⟨#[]⟩ (tx++tz) (a++b) 5000 w (by decide) (by rw [ByteArray.size_append];have:=XZ.out;omega) (by rw [ByteArray.size_append];have:=HS.out;omega) (by rw [ByteArray.size_append];have:=HS.out;omega) (by decide) (both SX.out.1 SZ.out.1))
 have CI:=hid (fun w=>Go.Proofs.YthbjllabgpaaaaaGreat.Inf.segment_in ⟨#[]⟩ ty 5000 w (by decide) (by have:=XZ.out;omega) (by decide))
 go_wp2_with fail
 refine (CS.out w7).mono ?_;rintro r w8 ⟨rfl,b8⟩;have B8:=hid (B7.out.trans (b8.mono B7.out.size));clear b8 CS B7
 go_wp2_with fail
 refine (CI.out w8).mono ?_;rintro r w9 ⟨t,e,rfl,_,_,k3,b9⟩;obtain ⟨rfl,rfl⟩:=k3 c SY.out.1.1 (by have:=HS.out;omega)
 have B9:=hid (B8.out.trans (b9.mono B8.out.size));clear k3 b9 CI B8 exX exY;have bF:Below w9.heap.size w9 (w9.alloc (.cells #[.bool false,.string ⟨#[]⟩] 31)):=(Below.refl _ _).alloc (Nat.le_refl _) _;have fF:SdAt (w9.alloc (.cells #[.bool false,.string ⟨#[]⟩] 31)) w9.heap.size 31 false ⟨#[]⟩ []:=heap_alloc_new _ _;have BF:=hid (B9.out.trans (bF.mono B9.out.size));have GF:Hid (W.heap.size≤w9.heap.size):=hid B9.out.size;have CF:=hid (pseg_new w9.heap.size false ⟨#[]⟩ t _ fF (by decide) (by have:=HS.out;omega))
 clear bF fF B9
 go_wp2_with fail
 generalize w9.alloc (.cells #[.bool false,.string ⟨#[]⟩] 31)=w10 at *;generalize w9.heap.size=f at *;refine CF.out.mono ?_;rintro r w11 ⟨tf,rfl,_,df,_,g11⟩;have ef:tf=ty:=df.det SY.out.2 rfl;subst ef;rw [HYE.out];have B11:=hid (BF.out.grown g11 BF.out.size (fun j hj=>by cases hj;exact GF.out))
 clear df g11 CF BF
 go_wp2_with fail
 go_ret;exact ⟨by simp,B11.out⟩
set_option maxRecDepth 100000 in
theorem lifted (os:Os) (started:os.Started) (H:Type) (enc:TypeId×Value→H) :
  ReturnsInHanded {} Tryz.checked os 5 .any (Rows.zstreamWholeSpec.pre6 enc Tryz.prog Tryz.f5 Rows.zstreamWholeRow.domain false) (Rows.zstreamWholeSpec.post enc Tryz.prog Tryz.f5 false true false false):=by
 refine returnsInHanded_of_change (C:=Tryz.checked) own started (by kernel_rfl) Tryz.func5
  (ChangeSpec.witness6 (enc:=enc) (C:=Tryz.checked) false ⟨#[],#[.string ByteArray.empty,.string ByteArray.empty,.string ByteArray.empty],[]⟩ 8 (by kernel_rfl) (by kernel_rfl) (by kernel_rfl) (by kernel_rfl)) ?_
 intro W base args ds gs before hval0 hW hcnd _;have hval:∀(j:Nat) t v,Tryz.f5.params[j]?=some t→args[j]?=some v→Value.okWide Tryz.prog W .any base t v:=hval0;have hW':=hW;obtain ⟨p,q,hA0,hV,rfl,hfz,hnd⟩:=hW;have hA:DataW.TrodAll enc Tryz.prog W 0 (fun _=>true) true Tryz.f5.params.toList args.toList ds p:=hA0
 rw [Tryz.params5] at hA hval;obtain ⟨v0,vs0,d0,ds0,p0,q0,hargs,rfl,rfl,h0,r0⟩:=trodAll_cons hA;obtain ⟨v1,vs1,d1,ds1,p1,q1,rfl,rfl,rfl,h1,r1⟩:=trodAll_cons r0;obtain ⟨v2,vs2,d2,ds2,p2,q2,rfl,rfl,rfl,h2,r2⟩:=trodAll_cons r1;obtain ⟨rfl,rfl,rfl⟩:=trodAll_nil r2;obtain rfl:args=#[v0,v1,v2]:=by cases args;simp_all
 obtain ⟨rfl,rfl⟩:=trodVars_none hV;have k0:=h0;have lt0:∀x∈p0,x.block<W.heap.size:=by obtain ⟨m,hm⟩:=k0;exact DataW.trod_lt m _ _ _ hm
 obtain ⟨a0,rfl,rfl,rfl,w0⟩:=open_string Tryz.underlying9 (hval 0 9 v0 rfl rfl) h0;have k1:=h1;have lt1:∀x∈p1,x.block<W.heap.size:=by obtain ⟨m,hm⟩:=k1;exact DataW.trod_lt m _ _ _ hm
 obtain ⟨a1,rfl,rfl,rfl,w1⟩:=open_string Tryz.underlying9 (hval 1 9 v1 rfl rfl) h1;have k2:=h2;have lt2:∀x∈p2,x.block<W.heap.size:=by obtain ⟨m,hm⟩:=k2;exact DataW.trod_lt m _ _ _ hm
 obtain ⟨a2,rfl,rfl,rfl,w2⟩:=open_string Tryz.underlying9 (hval 2 9 v2 rfl rfl) h2;clear hA0 hval0;refine (walk a0 a1 a2 W w0 w1 w2).mono fun e W' ⟨he,bel⟩=>?_
 subst he;exact ⟨_,rfl,_,_,_,[],_,[],hW',trodAll_mk1 (shut_bool Tryz.underlying4 _),(trodAll_cons_mk (Below.trod laidOut (by kernel_rfl) (of_decide_eq_true (by kernel_rfl)) k0 bel lt0) (trodAll_cons_mk (Below.trod laidOut (by kernel_rfl) (of_decide_eq_true (by kernel_rfl)) k1 bel lt1) (trodAll_cons_mk (Below.trod laidOut (by kernel_rfl) (of_decide_eq_true (by kernel_rfl)) k2 bel lt2) trodAll_mk0))),rfl,bel.frame _,fun h=>by cases h⟩
theorem over:Rows.zstreamWholeRow.holds Tryz.pinned (OpenSpec.ofChange Rows.zstreamWholeSpec):=
 OpenClaim.holds_of_wide 5 Tryz.f5 rfl rfl rfl rfl rfl rfl rfl ⟨rfl,rfl,rfl,rfl,rfl⟩ rfl rfl rfl rfl rfl (by kernel_rfl) Tryz.func5 (by kernel_rfl)
  (of_decide_eq_true (by kernel_rfl)) (by unfold Func.isWrapper;first | (rw [if_pos (by decide +kernel)];kernel_rfl) | (rw [if_neg (by decide +kernel)];exact ⟨rfl,rfl⟩))
  (fun os started H enc _=>lifted os started H enc)
theorem proved:Rows.ZstreamWholeSaid:=over
end Go.Proofs.YthbjllabgpaaaaaGreat.zstreamWhole
