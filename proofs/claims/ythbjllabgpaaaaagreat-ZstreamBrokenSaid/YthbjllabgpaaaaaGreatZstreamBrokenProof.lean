/-
  ZstreamBroken (layer 10): behind an error nothing is read any more, whatever comes, and the error stays; another stream is not broken by that.
-/
import Derived.Test.YthbjllabgpaaaaaGreatRows
import Derived.Test.YthbjllabgpaaaaaGreatZstA
import Derived.WalkKit
import Derived.ProofKit
import Derived.OpenShut
import Derived.ShutString
import Derived.ChangeOld
import Derived.Below
import Derived.Lib.SmallJoins
import Derived.Deep.Slices
namespace Go.Proofs.YthbjllabgpaaaaaGreat.zstreamBroken
open Go.Lib (hid)
set_option maxHeartbeats 8000000
open Go.Proofs.YthbjllabgpaaaaaGreat.Zst
open Go.ChangeShapes Go.WideShapes Go.ChangeAt Go.RowKit
open Go.ChangeMaps (open_string shut_string)
set_option linter.unusedVariables false
theorem own:ownKnob Tryz.prog.godebug=none:=by kernel_rfl
theorem laidOut:laidOutB Tryz.prog=true:=by kernel_rfl
set_option maxRecDepth 100000 in
theorem early (a b text:ByteArray) (W:World) (h:250<a.size∨250<b.size∨600<text.size) (w0:a.size≤maxLen) (w1:b.size≤maxLen) (w2:text.size≤maxLen) :
  Calls Tryz.prog 6 #[.string a,.string b,.string text] W fun e w'=>e=.returned (.bool true)∧Below W.heap.size W w':=by
 unfold maxLen at w0 w1 w2
 by_cases h1:250<a.size
 ·have d1:decide ((250:Int)<(a.size:Int))=true:=by simp;omega
  clear h
  go_enter Tryz.func6,Tryz.ntmps6
  go_wp2_with fail
  refine (works_any _).mono ?_;rintro r w1 ⟨rfl,b1⟩
  go_wp2_with fail
  all_goals (go_ret;exact ⟨rfl,b1⟩)
 ·have d1:decide ((250:Int)<(a.size:Int))=false:=by simp;omega
  by_cases h2:250<b.size
  ·have d2:decide ((250:Int)<(b.size:Int))=true:=by simp;omega
   clear h
   go_enter Tryz.func6,Tryz.ntmps6
   go_wp2_with fail
   refine (works_any _).mono ?_;rintro r w1 ⟨rfl,b1⟩
   go_wp2_with fail
   all_goals (go_ret;exact ⟨rfl,b1⟩)
  ·have d2:decide ((250:Int)<(b.size:Int))=false:=by simp;omega
   have d3:decide ((600:Int)<(text.size:Int))=true:=by simp;omega
   clear h
   go_enter Tryz.func6,Tryz.ntmps6
   go_wp2_with fail
   refine (works_any _).mono ?_;rintro r w1 ⟨rfl,b1⟩
   go_wp2_with fail
   all_goals (go_ret;exact ⟨rfl,b1⟩)
theorem tail_le (x:ByteArray):(Go.Proofs.YthbjllabgpaaaaaGreat.Lz.tailB x).size≤32768:=by
 rw [Go.Proofs.YthbjllabgpaaaaaGreat.Lz.tailB_size];omega
structure Three (W w:World) (u p v:Nat):Prop where
 ub:SdAt w u 45 false ⟨#[]⟩ [.int .i64 0]
 pb:SdAt w p 31 false ⟨#[]⟩ []
 vb:SdAt w v 45 false ⟨#[]⟩ [.int .i64 0]
 be:Below W.heap.size W w
 ne:u<p∧p<v∧W.heap.size≤u
theorem three_new (W w1:World) (h:Below W.heap.size W w1):Three W (((w1.alloc (.cells #[.bool false,.string ⟨#[]⟩,.int .i64 0] 45)).alloc (.cells #[.bool false,.string ⟨#[]⟩] 31)).alloc (.cells #[.bool false,.string ⟨#[]⟩,.int .i64 0] 45)) w1.heap.size (w1.heap.size+1) (w1.heap.size+1+1):=by
 have b1:Below w1.heap.size w1 (w1.alloc (.cells #[.bool false,.string ⟨#[]⟩,.int .i64 0] 45)):=(Below.refl _ _).alloc (Nat.le_refl _) _;have u1:SdAt (w1.alloc (.cells #[.bool false,.string ⟨#[]⟩,.int .i64 0] 45)) w1.heap.size 45 false ⟨#[]⟩ [.int .i64 0]:=heap_alloc_new _ _;have s1:(w1.alloc (.cells #[.bool false,.string ⟨#[]⟩,.int .i64 0] 45)).heap.size=w1.heap.size+1:=by simp
 generalize w1.alloc (.cells #[.bool false,.string ⟨#[]⟩,.int .i64 0] 45)=w2 at *;have b2:Below w2.heap.size w2 (w2.alloc (.cells #[.bool false,.string ⟨#[]⟩] 31)):=(Below.refl _ _).alloc (Nat.le_refl _) _;have p2:SdAt (w2.alloc (.cells #[.bool false,.string ⟨#[]⟩] 31)) w2.heap.size 31 false ⟨#[]⟩ []:=heap_alloc_new _ _;have s2:(w2.alloc (.cells #[.bool false,.string ⟨#[]⟩] 31)).heap.size=w2.heap.size+1:=by simp
 have u2:=u1.below b2;generalize w2.alloc (.cells #[.bool false,.string ⟨#[]⟩] 31)=w3 at *;have b3:Below w3.heap.size w3 (w3.alloc (.cells #[.bool false,.string ⟨#[]⟩,.int .i64 0] 45)):=(Below.refl _ _).alloc (Nat.le_refl _) _;have v3:SdAt (w3.alloc (.cells #[.bool false,.string ⟨#[]⟩,.int .i64 0] 45)) w3.heap.size 45 false ⟨#[]⟩ [.int .i64 0]:=heap_alloc_new _ _;have u3:=u2.below b3;have p3:=p2.below b3;rw [s1] at p3 s2;rw [s2] at v3;exact ⟨u3,p3,v3,((h.trans (b1.mono h.size)).trans (b2.mono (h.trans (b1.mono h.size)).size)).trans (b3.mono ((h.trans (b1.mono h.size)).trans (b2.mono (h.trans (b1.mono h.size)).size)).size),by omega,by omega,h.size⟩
set_option maxRecDepth 100000 in
theorem walk (a b text:ByteArray) (W:World) (w0:a.size≤maxLen) (w1:b.size≤maxLen) (w2:text.size≤maxLen) :
  Calls Tryz.prog 6 #[.string a,.string b,.string text] W fun e w'=>e=.returned (.bool true)∧Below W.heap.size W w':=by
 by_cases hg:250<a.size∨250<b.size∨600<text.size
 ·exact early a b text W hg w0 w1 w2
 have d1:decide ((250:Int)<(a.size:Int))=false:=by simp;omega
 have d2:decide ((250:Int)<(b.size:Int))=false:=by simp;omega
 have d3:decide ((600:Int)<(text.size:Int))=false:=by simp;omega
 have HS:=hid (show a.size≤250∧b.size≤250∧text.size≤600 by omega)
 have HW:=hid (works_any W);clear hg w0 w1 w2
 go_enter Tryz.func6,Tryz.ntmps6
 go_wp2_with fail
 refine HW.out.mono ?_;rintro r w1 ⟨rfl,b1⟩;have T:=hid (three_new W w1 b1);clear b1 HW
 go_wp2_with fail
 generalize (((w1.alloc (.cells #[.bool false,.string ⟨#[]⟩,.int .i64 0] 45)).alloc (.cells #[.bool false,.string ⟨#[]⟩] 31)).alloc (.cells #[.bool false,.string ⟨#[]⟩,.int .i64 0] 45))=w2 at *;generalize w1.heap.size+1+1=v at *;generalize w1.heap.size+1=p at *;generalize w1.heap.size=u at *;obtain ⟨hu,hp,hv,hb,hne⟩:=T.out;have NE:=hid hne;have CU:=hid (useg_any u false ⟨#[]⟩ a 5000 w2 hu (by decide) (by have:=HS.out;omega) (by decide))
 have P2:=hid hp;have V2:=hid hv;have B2:=hid hb;clear hu hp hv hb hne T;refine CU.out.mono ?_;rintro r w3 ⟨t3,e,rfl,k1,k2,_,g3⟩;have P3:=hid (P2.out.other g3 (by have:=NE.out;omega))
 have V3:=hid (V2.out.other g3 (by have:=NE.out;omega))
 have B3:=hid (B2.out.grown g3 B2.out.size (fun j hj=>by cases hj;exact NE.out.2.2))
 have K:=hid (And.intro k1 k2);clear g3 k1 k2 CU P2 V2 B2
 by_cases he:e=0
 ·subst he;obtain ⟨hz,hs3⟩:=K.out.2 rfl;have CU:=hid (useg_any u true _ b 5000 w3 hs3 (tail_le _) (by have:=HS.out;omega) ⟨by omega,by omega⟩)
  clear hz hs3 K
  go_wp2_with fail
  refine CU.out.mono ?_;rintro r w4 ⟨t4,f,rfl,k1,k2,_,g4⟩;have P4:=hid (P3.out.other g4 (by have:=NE.out;omega))
  have V4:=hid (V3.out.other g4 (by have:=NE.out;omega))
  have B4:=hid (B3.out.grown g4 B3.out.size (fun j hj=>by cases hj;exact NE.out.2.2))
  obtain ⟨bg,win,hU⟩:∃bg win,SdAt w4 u 45 bg win [.int .i64 f]:=by
   by_cases hf:f=0
   ·subst hf;exact ⟨_,_,(k2 rfl).2⟩
   ·exact ⟨_,_,(k1 hf).2⟩
  have U4:=hid hU;clear g4 k1 k2 CU P3 V3 B3 hU;have CP:=hid (pack_any p false ⟨#[]⟩ text w4 P4.out (by have:=HS.out;show 0+text.size≤32768;omega) (by have:=HS.out;omega))
  go_wp2_with fail
  refine CP.out.mono ?_;rintro r w5 ⟨t5,rfl,s5,_,g5⟩;have U5:=hid (U4.out.other g5 (by have:=NE.out;omega))
  have V5:=hid (V4.out.other g5 (by have:=NE.out;omega))
  have B5:=hid (B4.out.grown g5 B4.out.size (fun j hj=>by cases hj;have:=NE.out;omega))
  have CV:=hid (round_any v false ⟨#[]⟩ text t5 5000 w5 V5.out (by have:=HS.out;show 0+text.size≤32768;omega) (by have:=HS.out;omega) s5 (by have:=HS.out;omega))
  clear g5 s5 CP P4 V4 B4 U4;generalize hdOf false++t5=X at *
  go_wp2_with fail
  refine CV.out.mono ?_;rintro r w6 ⟨rfl,_,g6⟩;have U6:=hid (U5.out.other g6 (by have:=NE.out;omega))
  have B6:=hid (B5.out.grown g6 B5.out.size (fun j hj=>by cases hj;have:=NE.out;omega))
  have CE:=hid (uerr_any u bg win f w6 U6.out);clear g6 CV V5 B5 U5 U6
  go_wp2_with fail
  refine CE.out.mono ?_;rintro r w7 ⟨rfl,rfl⟩
  go_wp2_with fail
  go_ret;exact ⟨rfl,B6.out⟩
 ·obtain ⟨_,hs3⟩:=K.out.1 he;have hne:(e==0)=false:=by simpa using he
  have CU:=hid (ubad_any u false ⟨#[]⟩ b e 5000 w3 hs3 he);have U3:=hid hs3;clear hs3 K he
  go_wp2_with fail
  refine CU.out.mono ?_;rintro r w4 ⟨rfl,b4⟩;have P4:=hid (P3.out.below b4);have V4:=hid (V3.out.below b4);have U4:=hid (U3.out.below b4);have B4:=hid (B3.out.trans (b4.mono B3.out.size));clear b4 CU P3 V3 B3 U3;have CP:=hid (pack_any p false ⟨#[]⟩ text w4 P4.out (by have:=HS.out;show 0+text.size≤32768;omega) (by have:=HS.out;omega))
  go_wp2_with fail
  refine CP.out.mono ?_;rintro r w5 ⟨t5,rfl,s5,_,g5⟩;have U5:=hid (U4.out.other g5 (by have:=NE.out;omega))
  have V5:=hid (V4.out.other g5 (by have:=NE.out;omega))
  have B5:=hid (B4.out.grown g5 B4.out.size (fun j hj=>by cases hj;have:=NE.out;omega))
  have CV:=hid (round_any v false ⟨#[]⟩ text t5 5000 w5 V5.out (by have:=HS.out;show 0+text.size≤32768;omega) (by have:=HS.out;omega) s5 (by have:=HS.out;omega))
  clear g5 s5 CP P4 V4 B4 U4;generalize hdOf false++t5=X at *
  go_wp2_with fail
  refine CV.out.mono ?_;rintro r w6 ⟨rfl,_,g6⟩;have U6:=hid (U5.out.other g6 (by have:=NE.out;omega))
  have B6:=hid (B5.out.grown g6 B5.out.size (fun j hj=>by cases hj;have:=NE.out;omega))
  have CE:=hid (uerr_any u false ⟨#[]⟩ e w6 U6.out);clear g6 CV V5 B5 U5 U6
  go_wp2_with fail
  refine CE.out.mono ?_;rintro r w7 ⟨rfl,rfl⟩
  go_wp2_with fail
  go_ret;exact ⟨rfl,B6.out⟩
set_option maxRecDepth 100000 in
theorem lifted (os:Os) (started:os.Started) (H:Type) (enc:TypeId×Value→H) :
  ReturnsInHanded {} Tryz.checked os 6 .any (Rows.zstreamBrokenSpec.pre6 enc Tryz.prog Tryz.f6 Rows.zstreamBrokenRow.domain false) (Rows.zstreamBrokenSpec.post enc Tryz.prog Tryz.f6 false true false false):=by
 refine returnsInHanded_of_change (C:=Tryz.checked) own started (by kernel_rfl) Tryz.func6
  (ChangeSpec.witness6 (enc:=enc) (C:=Tryz.checked) false ⟨#[],#[.string ByteArray.empty,.string ByteArray.empty,.string ByteArray.empty],[]⟩ 8 (by kernel_rfl) (by kernel_rfl) (by kernel_rfl) (by kernel_rfl)) ?_
 intro W base args ds gs before hval0 hW hcnd _;have hval:∀(j:Nat) t v,Tryz.f6.params[j]?=some t→args[j]?=some v→Value.okWide Tryz.prog W .any base t v:=hval0;have hW':=hW;obtain ⟨p,q,hA0,hV,rfl,hfz,hnd⟩:=hW;have hA:DataW.TrodAll enc Tryz.prog W 0 (fun _=>true) true Tryz.f6.params.toList args.toList ds p:=hA0
 rw [Tryz.params6] at hA hval;obtain ⟨v0,vs0,d0,ds0,p0,q0,hargs,rfl,rfl,h0,r0⟩:=trodAll_cons hA;obtain ⟨v1,vs1,d1,ds1,p1,q1,rfl,rfl,rfl,h1,r1⟩:=trodAll_cons r0;obtain ⟨v2,vs2,d2,ds2,p2,q2,rfl,rfl,rfl,h2,r2⟩:=trodAll_cons r1;obtain ⟨rfl,rfl,rfl⟩:=trodAll_nil r2;obtain rfl:args=#[v0,v1,v2]:=by cases args;simp_all
 obtain ⟨rfl,rfl⟩:=trodVars_none hV;have k0:=h0;have lt0:∀x∈p0,x.block<W.heap.size:=by obtain ⟨m,hm⟩:=k0;exact DataW.trod_lt m _ _ _ hm
 obtain ⟨a0,rfl,rfl,rfl,w0⟩:=open_string Tryz.underlying9 (hval 0 9 v0 rfl rfl) h0;have k1:=h1;have lt1:∀x∈p1,x.block<W.heap.size:=by obtain ⟨m,hm⟩:=k1;exact DataW.trod_lt m _ _ _ hm
 obtain ⟨a1,rfl,rfl,rfl,w1⟩:=open_string Tryz.underlying9 (hval 1 9 v1 rfl rfl) h1;have k2:=h2;have lt2:∀x∈p2,x.block<W.heap.size:=by obtain ⟨m,hm⟩:=k2;exact DataW.trod_lt m _ _ _ hm
 obtain ⟨a2,rfl,rfl,rfl,w2⟩:=open_string Tryz.underlying9 (hval 2 9 v2 rfl rfl) h2;clear hA0 hval0;refine (walk a0 a1 a2 W w0 w1 w2).mono fun e W' ⟨he,bel⟩=>?_
 subst he;exact ⟨_,rfl,_,_,_,[],_,[],hW',trodAll_mk1 (shut_bool Tryz.underlying4 _),(trodAll_cons_mk (Below.trod laidOut (by kernel_rfl) (of_decide_eq_true (by kernel_rfl)) k0 bel lt0) (trodAll_cons_mk (Below.trod laidOut (by kernel_rfl) (of_decide_eq_true (by kernel_rfl)) k1 bel lt1) (trodAll_cons_mk (Below.trod laidOut (by kernel_rfl) (of_decide_eq_true (by kernel_rfl)) k2 bel lt2) trodAll_mk0))),rfl,bel.frame _,fun h=>by cases h⟩
theorem over:Rows.zstreamBrokenRow.holds Tryz.pinned (OpenSpec.ofChange Rows.zstreamBrokenSpec):=
 OpenClaim.holds_of_wide 6 Tryz.f6 rfl rfl rfl rfl rfl rfl rfl ⟨rfl,rfl,rfl,rfl,rfl⟩ rfl rfl rfl rfl rfl (by kernel_rfl) Tryz.func6 (by kernel_rfl)
  (of_decide_eq_true (by kernel_rfl)) (by unfold Func.isWrapper;first | (rw [if_pos (by decide +kernel)];kernel_rfl) | (rw [if_neg (by decide +kernel)];exact ⟨rfl,rfl⟩))
  (fun os started H enc _=>lifted os started H enc)
theorem proved:Rows.ZstreamBrokenSaid:=over
end Go.Proofs.YthbjllabgpaaaaaGreat.zstreamBroken
