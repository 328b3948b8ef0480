/-
  ZstreamBack (layer 10): what is packed is unpacked again by the document's stream and Open, segment by segment and as a whole, whatever stands behind, each at most so large.
-/
import Derived.Test.YthbjllabgpaaaaaGreatRows
import Derived.Test.YthbjllabgpaaaaaGreatZstA
import Derived.WalkKit
import Derived.ProofKit
import Derived.OpenShut
import Derived.ShutString
import Derived.ChangeOld
import Derived.Below
import Derived.Lib.SmallJoins
import Derived.Deep.Slices
namespace Go.Proofs.YthbjllabgpaaaaaGreat.zstreamBack
open Go.Lib (hid)
set_option maxHeartbeats 8000000
open Go.Proofs.YthbjllabgpaaaaaGreat.Zst
open Go.ChangeShapes Go.WideShapes Go.ChangeAt Go.RowKit
open Go.ChangeMaps (open_string shut_string)
set_option linter.unusedVariables false
theorem own:ownKnob Tryz.prog.godebug=none:=by kernel_rfl
theorem laidOut:laidOutB Tryz.prog=true:=by kernel_rfl
set_option maxRecDepth 100000 in
theorem early (a:Option Addr) (n c:Nat) (tail:ByteArray) (W:World) (h:6<n∨250<tail.size) (w1:tail.size≤maxLen) (hn:n≤maxLen) :
  Calls Tryz.prog 4 #[.slice a n c,.string tail] W fun e w'=>e=.returned (.bool true)∧Below W.heap.size W w':=by
 unfold maxLen at w1 hn
 by_cases h1:6<n
 ·have d1:decide ((6:Int)<(n:Int))=true:=by simp;omega
  clear h
  go_enter Tryz.func4,Tryz.ntmps4
  go_wp2_with fail
  refine (works_any _).mono ?_;rintro r w1 ⟨rfl,b1⟩
  go_wp2_with fail
  all_goals (go_ret;exact ⟨rfl,b1⟩)
 ·have d1:decide ((6:Int)<(n:Int))=false:=by simp;omega
  have d2:decide ((250:Int)<(tail.size:Int))=true:=by simp;omega
  clear h
  go_enter Tryz.func4,Tryz.ntmps4
  go_wp2_with fail
  refine (works_any _).mono ?_;rintro r w1 ⟨rfl,b1⟩
  go_wp2_with fail
  all_goals (go_ret;exact ⟨rfl,b1⟩)
structure Two (W w:World) (p u:Nat) (m:Bool) (A:ByteArray):Prop where
 pb:SdAt w p 31 m A []
 ub:StAt w u A m
 be:Below W.heap.size W w
theorem two_new (W w1:World) (h:Below W.heap.size W w1):Two W ((w1.alloc (.cells #[.bool false,.string ⟨#[]⟩] 31)).alloc (.cells #[.string ⟨#[]⟩,.bool false,.int .i64 0] 34)) w1.heap.size (w1.heap.size+1) false ⟨#[]⟩:=by
 have b1:Below w1.heap.size w1 (w1.alloc (.cells #[.bool false,.string ⟨#[]⟩] 31)):=(Below.refl _ _).alloc (Nat.le_refl _) _;have p1:SdAt (w1.alloc (.cells #[.bool false,.string ⟨#[]⟩] 31)) w1.heap.size 31 false ⟨#[]⟩ []:=heap_alloc_new _ _;have s1:(w1.alloc (.cells #[.bool false,.string ⟨#[]⟩] 31)).heap.size=w1.heap.size+1:=by simp
 generalize w1.alloc (.cells #[.bool false,.string ⟨#[]⟩] 31)=w2 at *;have b2:Below w2.heap.size w2 (w2.alloc (.cells #[.string ⟨#[]⟩,.bool false,.int .i64 0] 34)):=(Below.refl _ _).alloc (Nat.le_refl _) _;have u2:StAt (w2.alloc (.cells #[.string ⟨#[]⟩,.bool false,.int .i64 0] 34)) w2.heap.size ⟨#[]⟩ false:=heap_alloc_new _ _;rw [s1] at u2;exact ⟨p1.below b2,u2,(h.trans (b1.mono h.size)).trans (b2.mono (h.trans (b1.mono h.size)).size)⟩
set_option maxRecDepth 100000 in
theorem walk (a:Option Addr) (n c:Nat) (l:List ByteArray) (tail:ByteArray) (W:World) (w0:l.length=n∧n≤maxLen∧IsStrs W a l∧∀s∈l,s.size≤maxLen) (w1:tail.size≤maxLen) :
  Calls Tryz.prog 4 #[.slice a n c,.string tail] W fun e w'=>e=.returned (.bool true)∧Below W.heap.size W w':=by
 obtain ⟨hl,hn,hS,hsz⟩:=w0
 by_cases hg:6<n∨250<tail.size
 ·exact early a n c tail W hg w1 hn
 have d1:decide ((6:Int)<(n:Int))=false:=by simp;omega
 have d2:decide ((250:Int)<(tail.size:Int))=false:=by simp;omega
 have HS:=hid (show n≤6∧tail.size≤250 by omega)
 have HW:=hid (works_any W);have HL:=hid (And.intro hl (And.intro hS hsz));have hn6:(n:Int)≤6:=by omega
 clear hg w1 hn hl hS hsz
 go_enter Tryz.func4,Tryz.ntmps4
 go_wp2_with fail
 refine HW.out.mono ?_;rintro r w1 ⟨rfl,b1⟩;have T:=hid (two_new W w1 b1);have HB1:=hid b1.size;clear b1 HW
 go_wp2_with fail
 generalize ((w1.alloc (.cells #[.bool false,.string ⟨#[]⟩] 31)).alloc (.cells #[.string ⟨#[]⟩,.bool false,.int .i64 0] 34))=w2 at *;generalize hu:w1.heap.size+1=u at *;generalize w1.heap.size=p at *;have HPU:=hid hu;clear hu
 go_loopw [6,9] (fun av iv wr=>∃(i:Nat) (A:ByteArray) (m:Bool),i≤n∧iv=.int .i64 i∧av=.string A∧A.size≤800*i∧Two W wr p u m A) (fun _ iv _=>n-(intOf iv).toNat)
 case atStart=>exact ⟨0,⟨#[]⟩,false,Nat.zero_le _,rfl,rfl,by decide,T.out⟩
 case round=>
  obtain ⟨i,A,m,hi,rfl,rfl,hA,hT⟩:=hrel;have HT:=hid hT;have HA:=hid (And.intro hA hi);clear hT T
  by_cases hlt:i<n
  ·have hli:i<l.length:=by rw [HL.out.1];exact hlt
   obtain ⟨b,off,rfl,hb,hc⟩:=HL.out.2.1 (by omega)
   have hci:=(HT.out.be.cell (p:=⟨b,off+i,none⟩) hb).trans (hc i hli);have hsi:=HL.out.2.2 l[i] (List.getElem_mem hli);obtain ⟨s,hs⟩:∃s,l[i]=s:=⟨_,rfl⟩;rw [hs] at hci hsi;have HCI:=hid (And.intro hb (fun w (h:Below W.heap.size W w)=>(h.cell (p:=⟨b,off+i,none⟩) hb).trans (by rw [hc i hli,hs]):∀w,Below W.heap.size W w→w.cell? ⟨b,off+i,none⟩=some (.string s)))
   have hin:(i:Int)<(n:Int):=by omega
   have HLT:=hid hlt;have hsm:(s.size:Int)≤9223372036854775807:=by unfold maxLen at hsi;omega
   clear hs hc hb hli hA hi hlt hsi
   by_cases h8:800<s.size
   ·have p8:(800:Int)<(s.size:Int):=by omega
    clear h8
    go_wp2_with fail
    go_ret;exact ⟨rfl,HT.out.be⟩
   ·have p8:¬((800:Int)<(s.size:Int)):=by omega
    have HSZ:=hid (show s.size≤800 by omega)
    have CP:=hid (pack_any p m A s wr HT.out.pb (by have:=HA.out;have:=HS.out;omega) (by omega))
    clear h8
    go_wp2_with fail
    refine CP.out.mono ?_;rintro r w3 ⟨t,rfl,hseg,p3,g3⟩;have U3:=HT.out.ub.other g3 (by have:=HPU.out;omega)
    have B3:=HT.out.be.grown g3 HT.out.be.size (fun j hj=>by cases hj;have:=HB1.out;omega)
    have CR:=hid (refStream_any u m A s t (s.size:Int) w3 U3 (by have:=HA.out;have:=HS.out;omega) (by have:=HSZ.out;omega) hseg (by have:=HSZ.out;omega))
    have P3:=hid p3;have HB3:=hid B3;have hci3:=HCI.out.2 w3 B3
    have hXz:(hdOf m++t).size≤s.size+22:=by
     have:=hseg.2.1
     have:=hdOf_size m
     have:=HSZ.out
     rw [ByteArray.size_append];omega
    generalize hdOf m++t=X at *;have hx1:¬((s.size:Int)+0+22<(X.size:Int)):=by omega
    have hq:(s.size:Int).tdiv 1000=0:=by rw [Int.tdiv_eq_ediv_of_nonneg (by omega)];have:=HSZ.out;omega
    have HXZ:=hid hXz;clear hci hXz hseg p3 g3 U3 B3 CP
    go_wp2_with fail
    refine CR.out.mono ?_;rintro r w4 ⟨rfl,u4,g4⟩;have B4:=HB3.out.grown g4 HB3.out.size (fun j hj=>by cases hj;have:=HB1.out;have:=HPU.out;omega)
    have T4:=hid (Two.mk (P3.out.other g4 (by have:=HPU.out;omega)) u4 B4:Two W w4 p u true (A++s))
    have hci4:=HCI.out.2 w4 B4;clear u4 g4 CR B4 hci3 P3 HB3
    go_wp2_with fail
    have hcat:¬(9223372036854775807<A.size+s.size):=by have:=HA.out;have:=HSZ.out;omega
    go_quiet (fail)
    go_wp2_with fail
    refine ⟨⟨i+1,A++s,true,by have:=HLT.out;omega,by go_num,rfl,?_,⟨T4.out.pb,T4.out.ub,T4.out.be.trans ⟨rfl,rfl,rfl,Nat.le_refl _,fun _ _=>rfl⟩⟩⟩,?_⟩
    ·rw [ByteArray.size_append];have:=HA.out;have:=HSZ.out;omega
    ·have:=HLT.out;simp [intOf];omega
  ·obtain rfl:i=n:=by omega
   have hin:¬((i:Int)<(i:Int)):=by omega
   have hA5:A.size≤5000:=by have:=HS.out;omega
   have CW:=hid (zwhole_any A wr (by omega))
   have HA5:=hid hA5;clear hlt hA hi hA5
   go_wp2_with fail
   refine CW.out.mono ?_;rintro r w3 ⟨t,rfl,⟨⟨q,hq1,hq2⟩,hz,_⟩,b3⟩;have B3:=hid (HT.out.be.trans (b3.mono HT.out.be.size));have CO:=hid (fun w=>refOpen_any t A tail (A.size:Int) q w (by have:=HA5.out;omega) (by have:=HS.out;omega) ⟨hq1,hq2⟩ (by have:=HA5.out;omega))
   have hfs:=fr_size t A;obtain ⟨d,hd⟩:∃d,A.size/1000=d:=⟨_,rfl⟩;have hd1:(A.size:Int).tdiv 1000=(d:Int):=by rw [Int.tdiv_eq_ediv_of_nonneg (by omega)];omega
   obtain ⟨F,hF⟩:∃F,fr t A=F:=⟨_,rfl⟩;rw [hF] at hfs CO ⊢;have hz':t.size≤A.size+d+20:=by rw [←hd];exact hz
   have hF1:F.size≤A.size+d+26:=by omega
   have hF2:(F.size:Int)≤(A.size:Int)+(d:Int)+26:=by omega
   have hF3:(F.size:Int)≤6000:=by have:=HA5.out;omega
   have hA6:(A.size:Int)≤5000:=by have:=HA5.out;omega
   have hd5:(d:Int)≤5:=by have:=HA5.out;omega
   have ht2:(tail.size:Int)≤250:=by have:=HS.out;omega
   have hcat:¬(9223372036854775807<F.size+tail.size):=by have:=HS.out;omega
   clear hq1 hq2 hz hfs hd hF hz' b3 CW HT
   go_wp2_with fail
   refine (CO.out w3).mono ?_;rintro r w4 ⟨rfl,b4⟩;have B4:=hid (B3.out.trans (b4.mono B3.out.size));clear b4 CO B3
   go_wp2_with fail
   go_ret;exact ⟨rfl,B4.out⟩
set_option maxRecDepth 100000 in
theorem lifted (os:Os) (started:os.Started) (H:Type) (enc:TypeId×Value→H) :
  ReturnsInHanded {} Tryz.checked os 4 .any (Rows.zstreamBackSpec.pre6 enc Tryz.prog Tryz.f4 Rows.zstreamBackRow.domain false) (Rows.zstreamBackSpec.post enc Tryz.prog Tryz.f4 false true false false):=by
 refine returnsInHanded_of_change (C:=Tryz.checked) own started (by kernel_rfl) Tryz.func4
  (ChangeSpec.witness6 (enc:=enc) (C:=Tryz.checked) false ⟨#[],#[.slice none 0 0,.string ByteArray.empty],[]⟩ 8 (by kernel_rfl) (by kernel_rfl) (by kernel_rfl) (by kernel_rfl)) ?_
 intro W base args ds gs before hval0 hW hcnd _;have hval:∀(j:Nat) t v,Tryz.f4.params[j]?=some t→args[j]?=some v→Value.okWide Tryz.prog W .any base t v:=hval0;have hW':=hW;obtain ⟨p,q,hA0,hV,rfl,hfz,hnd⟩:=hW;have hA:DataW.TrodAll enc Tryz.prog W 0 (fun _=>true) true Tryz.f4.params.toList args.toList ds p:=hA0
 rw [Tryz.params4] at hA hval;obtain ⟨v0,vs0,d0,ds0,p0,q0,hargs,rfl,rfl,h0,r0⟩:=trodAll_cons hA;obtain ⟨v1,vs1,d1,ds1,p1,q1,rfl,rfl,rfl,h1,r1⟩:=trodAll_cons r0;obtain ⟨rfl,rfl,rfl⟩:=trodAll_nil r1;obtain rfl:args=#[v0,v1]:=by cases args;simp_all
 obtain ⟨rfl,rfl⟩:=trodVars_none hV;have k0:=h0;have lt0:∀x∈p0,x.block<W.heap.size:=by obtain ⟨m,hm⟩:=k0;exact DataW.trod_lt m _ _ _ hm
 obtain ⟨a0,len0,cap0,rfl⟩:=okWide_slice Tryz.underlying26 (hval 0 26 v0 rfl rfl);obtain ⟨A0,w0⟩:=strs_see h0;have k1:=h1;have lt1:∀x∈p1,x.block<W.heap.size:=by obtain ⟨m,hm⟩:=k1;exact DataW.trod_lt m _ _ _ hm
 obtain ⟨a1,rfl,rfl,rfl,w1⟩:=open_string Tryz.underlying9 (hval 1 9 v1 rfl rfl) h1;clear hA0 hval0;refine (walk a0 len0 cap0 A0 a1 W w0 w1).mono fun e W' ⟨he,bel⟩=>?_
 subst he;exact ⟨_,rfl,_,_,_,[],_,[],hW',trodAll_mk1 (shut_bool Tryz.underlying4 _),(trodAll_cons_mk (Below.trod laidOut (by kernel_rfl) (of_decide_eq_true (by kernel_rfl)) k0 bel lt0) (trodAll_cons_mk (Below.trod laidOut (by kernel_rfl) (of_decide_eq_true (by kernel_rfl)) k1 bel lt1) trodAll_mk0)),rfl,bel.frame _,fun h=>by cases h⟩
theorem over:Rows.zstreamBackRow.holds Tryz.pinned (OpenSpec.ofChange Rows.zstreamBackSpec):=
 OpenClaim.holds_of_wide 4 Tryz.f4 rfl rfl rfl rfl rfl rfl rfl ⟨rfl,rfl,rfl,rfl,rfl⟩ rfl rfl rfl rfl rfl (by kernel_rfl) Tryz.func4 (by kernel_rfl)
  (of_decide_eq_true (by kernel_rfl)) (by unfold Func.isWrapper;first | (rw [if_pos (by decide +kernel)];kernel_rfl) | (rw [if_neg (by decide +kernel)];exact ⟨rfl,rfl⟩))
  (fun os started H enc _=>lifted os started H enc)
theorem proved:Rows.ZstreamBackSaid:=over
end Go.Proofs.YthbjllabgpaaaaaGreat.zstreamBack
