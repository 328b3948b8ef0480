/-
  ZstreamHeaders (layer 10): which bytes are a header is just what the document says, for every text.
-/
import Derived.Test.YthbjllabgpaaaaaGreatRows
import Derived.Test.YthbjllabgpaaaaaGreatZstA
import Derived.WalkKit
import Derived.ProofKit
import Derived.OpenShut
import Derived.ShutString
import Derived.ChangeOld
import Derived.Below
import Derived.Lib.SmallJoins
import Derived.Deep.Slices
namespace Go.Proofs.YthbjllabgpaaaaaGreat.zstreamHeaders
open Go.Lib (hid)
set_option maxHeartbeats 4000000
open Go.Proofs.YthbjllabgpaaaaaGreat.Zst
open Go.ChangeShapes Go.WideShapes Go.ChangeAt Go.RowKit
open Go.ChangeMaps (open_string shut_string)
set_option linter.unusedVariables false
theorem own:ownKnob Tryz.prog.godebug=none:=by kernel_rfl
theorem laidOut:laidOutB Tryz.prog=true:=by kernel_rfl
set_option maxRecDepth 100000 in
theorem walk (s:ByteArray) (W:World) (w0:s.size≤maxLen) :
  Calls Tryz.prog 3 #[.string s] W fun e w'=>e=.returned (.bool true)∧Below W.heap.size W w':=by
 have hz:s.size≤9223372036854775807:=by unfold maxLen at w0;omega
 have HW:=hid (works_any W);have H1:=hid (fun w=>header_any s w hz)
 have H2:=hid (fun w=>refHeader_any s w hz)
 generalize hdE s=v at *;clear hz w0
 go_enter Tryz.func3,Tryz.ntmps3
 go_wp2_with fail
 refine HW.out.mono ?_;rintro r w1 ⟨rfl,b1⟩;have HB1:=hid b1;clear b1 HW
 go_wp2_with fail
 refine (H1.out w1).mono ?_;rintro r w2 ⟨rfl,b2⟩;have HB2:=hid (HB1.out.trans (b2.mono HB1.out.size));clear b2 H1
 go_wp2_with fail
 refine (H2.out w2).mono ?_;rintro r w3 ⟨rfl,rfl⟩;clear H2
 go_wp2_with fail
 go_ret;exact ⟨rfl,HB2.out⟩
set_option maxRecDepth 100000 in
theorem lifted (os:Os) (started:os.Started) (H:Type) (enc:TypeId×Value→H) :
  ReturnsInHanded {} Tryz.checked os 3 .any (Rows.zstreamHeadersSpec.pre6 enc Tryz.prog Tryz.f3 Rows.zstreamHeadersRow.domain false) (Rows.zstreamHeadersSpec.post enc Tryz.prog Tryz.f3 false true false false):=by
 refine returnsInHanded_of_change (C:=Tryz.checked) own started (by kernel_rfl) Tryz.func3
  (ChangeSpec.witness6 (enc:=enc) (C:=Tryz.checked) false ⟨#[],#[.string ByteArray.empty],[]⟩ 8 (by kernel_rfl) (by kernel_rfl) (by kernel_rfl) (by kernel_rfl)) ?_
 intro W base args ds gs before hval0 hW hcnd _;have hval:∀(j:Nat) t v,Tryz.f3.params[j]?=some t→args[j]?=some v→Value.okWide Tryz.prog W .any base t v:=hval0;have hW':=hW;obtain ⟨p,q,hA0,hV,rfl,hfz,hnd⟩:=hW;have hA:DataW.TrodAll enc Tryz.prog W 0 (fun _=>true) true Tryz.f3.params.toList args.toList ds p:=hA0
 rw [Tryz.params3] at hA hval;obtain ⟨v0,vs0,d0,ds0,p0,q0,hargs,rfl,rfl,h0,r0⟩:=trodAll_cons hA;obtain ⟨rfl,rfl,rfl⟩:=trodAll_nil r0;obtain rfl:args=#[v0]:=by cases args;simp_all
 obtain ⟨rfl,rfl⟩:=trodVars_none hV;have k0:=h0;have lt0:∀x∈p0,x.block<W.heap.size:=by obtain ⟨m,hm⟩:=k0;exact DataW.trod_lt m _ _ _ hm
 obtain ⟨a0,rfl,rfl,rfl,w0⟩:=open_string Tryz.underlying9 (hval 0 9 v0 rfl rfl) h0;clear hA0 hval0;refine (walk a0 W w0).mono fun e W' ⟨he,bel⟩=>?_
 subst he;exact ⟨_,rfl,_,_,_,[],_,[],hW',trodAll_mk1 (shut_bool Tryz.underlying4 _),(trodAll_cons_mk (Below.trod laidOut (by kernel_rfl) (of_decide_eq_true (by kernel_rfl)) k0 bel lt0) trodAll_mk0),rfl,bel.frame _,fun h=>by cases h⟩
theorem over:Rows.zstreamHeadersRow.holds Tryz.pinned (OpenSpec.ofChange Rows.zstreamHeadersSpec):=
 OpenClaim.holds_of_wide 3 Tryz.f3 rfl rfl rfl rfl rfl rfl rfl ⟨rfl,rfl,rfl,rfl,rfl⟩ rfl rfl rfl rfl rfl (by kernel_rfl) Tryz.func3 (by kernel_rfl)
  (of_decide_eq_true (by kernel_rfl)) (by unfold Func.isWrapper;first | (rw [if_pos (by decide +kernel)];kernel_rfl) | (rw [if_neg (by decide +kernel)];exact ⟨rfl,rfl⟩))
  (fun os started H enc _=>lifted os started H enc)
theorem proved:Rows.ZstreamHeadersSaid:=over
end Go.Proofs.YthbjllabgpaaaaaGreat.zstreamHeaders
