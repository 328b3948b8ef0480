/-
  Texts in one: AdlMath, AdlBase, AdlSum.
-/
import Derived.WalkKit
import Derived.ProofKit
import Derived.Test.YthbjllabgpaaaaaGreatRows
import Derived.OpenShut
import Derived.ShutString
import Derived.ChangeOld
import Derived.Below
import Derived.WalkSpells
import Derived.WalkLawsBesides
import Derived.Deep.QuietTactic
import Derived.BigQuiet
import Derived.BigGuardPart
import Derived.StillTailTactics
import Derived.Deep.RegionHeld3
import Derived.Deep.RegionWith
import Derived.Outline
import Derived.IntWalk
import Derived.Lib.Hide
import Derived.Test.YthbjllabgpaaaaaGreatAllBit
namespace Go.Proofs.YthbjllabgpaaaaaGreat.Adl
open Go.Lib (hid)
set_option maxHeartbeats 1000000
def adA (a:Int):List UInt8→Int
 | []=>a
 | c::r=>adA ((a+c.toNat)%65521) r
def adB (a b:Int):List UInt8→Int
 | []=>b
 | c::r=>adB ((a+c.toNat)%65521) ((b+(a+c.toNat)%65521)%65521) r
theorem adA_append (l m:List UInt8):∀a,adA a (l++m)=adA (adA a l) m:=by
 induction l with
 | nil=>intro a;rfl
 | cons c r ih=>intro a;exact ih _
theorem adB_append (l m:List UInt8):∀a b,adB a b (l++m)=adB (adA a l) (adB a b l) m:=by
 induction l with
 | nil=>intro a b;rfl
 | cons c r ih=>intro a b;exact ih _ _
theorem adA_bd (l:List UInt8):∀a,0≤a→a<65536→0≤adA a l∧adA a l<65536:=by
 induction l with
 | nil=>intro a h0 h1;exact ⟨h0,h1⟩
 | cons c r ih=>intro a h0 h1;exact ih _ (by omega) (by omega)
theorem adB_bd (l:List UInt8):∀a b,0≤b→b<65536→0≤adB a b l∧adB a b l<65536:=by
 induction l with
 | nil=>intro a b h0 h1;exact ⟨h0,h1⟩
 | cons c r ih=>intro a b h0 h1;exact ih _ _ (by omega) (by omega)
def lo (s:Int):Int:=s%65536
def hi (s:Int):Int:=s/65536%65536
theorem lo_bd (s:Int):0≤lo s∧lo s<65536:=by unfold lo;omega
theorem hi_bd (s:Int):0≤hi s∧hi s<65536:=by unfold hi;omega
def moreV (s:Int) (l:List UInt8):Int:=adB (lo s) (hi s) l*65536+adA (lo s) l
theorem moreV_bd (s:Int) (l:List UInt8):0≤moreV s l∧moreV s l<4294967296:=by
 have:=adA_bd l (lo s) (lo_bd s).1 (lo_bd s).2
 have:=adB_bd l (lo s) (hi s) (hi_bd s).1 (hi_bd s).2
 unfold moreV;generalize adA (lo s) l=x at *;generalize adB (lo s) (hi s) l=y at *;omega
end Go.Proofs.YthbjllabgpaaaaaGreat.Adl
namespace Go.Proofs.YthbjllabgpaaaaaGreat.Adl
open Go.Lib (hid)
set_option maxHeartbeats 1000000
open Go.ChangeShapes Go.WideShapes Go.ChangeAt Go.RowKit
set_option linter.unusedVariables false
theorem mask16 (x:Int):bits .and .i64 x 65535=x%65536:=Bit.i64_mask x 16 (by decide)
theorem or16 (a b:Int) (h0:0≤a) (h1:a<65536) (h2:0≤b) (h3:b<65536):bits .or .i64 (b*65536) a=b*65536+a:=by
 obtain ⟨x,rfl⟩:∃x:Nat,a=x:=⟨a.toNat,by omega⟩
 obtain ⟨y,rfl⟩:∃y:Nat,b=y:=⟨b.toNat,by omega⟩
 have:=Bit.i64_or x (y*65536) 16 (by omega) (by omega) (by omega) (by decide)
 have e:bits .or .i64 (((y*65536:Nat)):Int) (x:Int)=bits .or .i64 (x:Int) (((y*65536:Nat)):Int):=by simp [bits,BitVec.or_comm]
 rw [←e] at this;rw [show ((y:Int)*65536)=((y*65536:Nat):Int) by omega,this]
 omega
theorem ret_int {k:IntKind} {a b:Int} (h:a=b):Ending.returned (Value.int k a)=Ending.returned (.int k b):=by rw [h]
theorem hi_mask (s:Int):bits .and .i64 (s/65536) 65535=hi s:=mask16 _
theorem halves_any (s:Int) (w:World) :
  Calls Tryz.prog 77 #[.int .i64 s] w fun e w'=>e=.returned (.tuple #[.int .i64 (lo s),.int .i64 (hi s)])∧w=w':=by
 go_enter Tryz.func77,Tryz.ntmps77
 go_wp2
 go_ret2;refine ⟨?_,rfl⟩;rw [←hi_mask,←show bits .and .i64 s 65535=lo s from mask16 s]
 rfl
theorem whole_any (a b:Int) (w:World) (h0:0≤a) (h1:a<65536) (h2:0≤b) (h3:b<65536) :
  Calls Tryz.prog 78 #[.int .i64 a,.int .i64 b] w fun e w'=>e=.returned (.int .i64 (b*65536+a))∧w=w':=by
 go_enter Tryz.func78,Tryz.ntmps78
 go_wp2
 go_ret;exact ⟨ret_int (or16 a b h0 h1 h2 h3),rfl⟩
theorem adA_step (a:Int) (l:List UInt8) (k:Nat) (h:k<l.length) (c:UInt8) (hc:l[k]=c):adA a (l.take (k+1))=(adA a (l.take k)+c.toNat)%65521:=by
 rw [List.take_succ_eq_append_getElem h,adA_append,hc];rfl
theorem adB_step (a b:Int) (l:List UInt8) (k:Nat) (h:k<l.length):adB a b (l.take (k+1))=(adB a b (l.take k)+adA a (l.take (k+1)))%65521:=by
 rw [List.take_succ_eq_append_getElem h,adA_append,adB_append];rfl
theorem stepA (A:Int) (c:UInt8) (h0:0≤A) (h1:A<65536):(wrap64 (A+wrap64 c.toNat)).tmod 65521=(A+c.toNat)%65521:=by
 have:=c.toNat_lt
 rw [IntWalk.wrap64_in (c.toNat:Int) (by omega),IntWalk.wrap64_in _ (by omega),Int.tmod_eq_emod_of_nonneg (by omega)]
theorem stepB (A B:Int) (h0:0≤A) (h1:A<65536) (h2:0≤B) (h3:B<65536):(wrap64 (B+A)).tmod 65521=(B+A)%65521:=by
 rw [IntWalk.wrap64_in _ (by omega),Int.tmod_eq_emod_of_nonneg (by omega)]
theorem more_any (s:Int) (t:ByteArray) (w:World) (ht:t.size≤1000000) :
  Calls Tryz.prog 48 #[.int .i64 s,.string t] w fun e w'=>e=.returned (.int .i64 (moreV s t.data.toList))∧w=w':=by
 unfold moreV;have l0:=lo_bd s;have h0:=hi_bd s;have hh:=halves_any s w;generalize lo s=a at *;generalize hi s=b at *;have HH:=hid hh;clear hh
 go_enter Tryz.func48,Tryz.ntmps48
 go_wp2_with fail
 refine HH.out.mono ?_;rintro r w' ⟨rfl,rfl⟩
 go_wp2_with fail
 go_loop [5,6,15] (fun x y i=>∃k:Nat,k≤t.size∧i=.int .i64 k∧x=.int .i64 (adA a (t.data.toList.take k))∧y=.int .i64 (adB a b (t.data.toList.take k))) (fun _ _ i=>t.size-(intOf i).toNat)
 case atStart=>exact ⟨0,Nat.zero_le _,rfl,rfl,rfl⟩
 case round=>
  obtain ⟨k,hk,rfl,rfl,rfl⟩:=hrel;have ba:=adA_bd (t.data.toList.take k) a l0.1 l0.2;have bb:=adB_bd (t.data.toList.take k) a b h0.1 h0.2
  by_cases hlt:k<t.size
  ·have e1:=hid (adA_step a t.data.toList k (by simpa using hlt) t[k] (by simp;rfl))
   have e2:=hid (adB_step a b t.data.toList k (by simpa using hlt))
   generalize adA a (t.data.toList.take k)=A at *;generalize adB a b (t.data.toList.take k)=B at *
   go_wp2_with fail
   refine ⟨⟨k+1,by omega,by go_num,?_,?_⟩,?_⟩
   ·rw [e1.out,←stepA A t[k] ba.1 ba.2]
   ·rw [e2.out,e1.out,←stepB _ B (Int.emod_nonneg _ (by decide)) (by omega) bb.1 bb.2,←stepA A t[k] ba.1 ba.2]
   ·simp [intOf];omega
  ·obtain rfl:k=t.size:=by omega
   have e:t.data.toList.take t.size=t.data.toList:=List.take_of_length_le (by simp)
   rw [e] at ba bb ⊢
   go_wp2_with fail
   refine (whole_any _ _ _ ba.1 ba.2 bb.1 bb.2).mono ?_;rintro r w' ⟨rfl,rfl⟩
   go_wp2_with fail
   go_ret;exact ⟨rfl,rfl⟩
end Go.Proofs.YthbjllabgpaaaaaGreat.Adl
namespace Go.Proofs.YthbjllabgpaaaaaGreat.Adl
open Go.Lib (hid)
set_option maxHeartbeats 1000000
open Go.ChangeShapes Go.WideShapes Go.ChangeAt Go.RowKit
set_option linter.unusedVariables false
def sumV (ts:List ByteArray):Int:=ts.foldl (fun s t=>moreV s t.data.toList) 1
theorem sumV_step (ts:List ByteArray) (k:Nat) (h:k<ts.length):sumV (ts.take (k+1))=moreV (sumV (ts.take k)) ts[k].data.toList:=by
 unfold sumV;rw [List.take_succ_eq_append_getElem h,List.foldl_append];rfl
theorem sum_any (ts:List ByteArray) (a:Addr) (n c:Nat) (w:World) (hn:ts.length=n) (hl:n≤1000) (hc:∀j (h:j<ts.length),w.cell? (a.add j)=some (.string ts[j])) (hz:∀t∈ts,t.size≤1000000) :
  Calls Tryz.prog 26 #[.slice (some a) n c] w fun e w'=>e=.returned (.int .i64 (sumV ts))∧w=w':=by
 have HC:=hid hc;clear hc
 go_enter Tryz.func26,Tryz.ntmps26
 go_wp2_with fail
 go_loop [3,8] (fun x i=>∃k:Nat,k≤n∧i=.int .i64 k∧x=.int .i64 (sumV (ts.take k))) (fun _ i=>n-(intOf i).toNat)
 case atStart=>exact ⟨0,Nat.zero_le _,rfl,rfl⟩
 case round=>
  obtain ⟨k,hk,rfl,rfl⟩:=hrel
  by_cases hlt:k<n
  ·have hcc:=HC.out k (by omega)
   have hzz:=hz ts[k] (List.getElem_mem _);have e1:=hid (sumV_step ts k (by omega))
   generalize sumV (ts.take k)=A at *;generalize ts[k]=t at *
   go_wp2_with fail
   refine (more_any _ _ _ hzz).mono ?_;rintro r w' ⟨rfl,rfl⟩
   go_wp2_with fail
   refine ⟨⟨k+1,by omega,by go_num,?_⟩,?_⟩
   ·rw [e1.out]
   ·simp [intOf];omega
  ·obtain rfl:k=n:=by omega
   go_wp2_with fail
   go_ret;exact ⟨by rw [List.take_of_length_le (by omega)];rfl,rfl⟩
theorem sum_new (ts:List ByteArray) (n:Nat) (T:TypeId) (w:World) (hn:ts.length=n) (hl:n≤1000) (hz:∀t∈ts,t.size≤1000000) (o:Array Value) (ho:o=(ts.map Value.string).toArray) :
  Calls Tryz.prog 26 #[.slice (some ⟨w.heap.size,0,none⟩) n n] (w.alloc (.cells o T)) fun e w'=>e=.returned (.int .i64 (sumV ts))∧w.alloc (.cells o T)=w':=by
 subst ho;refine sum_any ts _ n n _ hn hl ?_ hz;intro j h
 have e:(⟨w.heap.size,0,none⟩:Addr).add j=⟨w.heap.size,j,none⟩:=by
  unfold Addr.add
  split
  ·next h=>simp_all
  ·simp
 rw [e];have hb:(w.alloc (.cells (ts.map Value.string).toArray T)).heap[w.heap.size]?=some (.cells (ts.map Value.string).toArray T (0,0)):=heap_alloc_new _ _;unfold World.cell?;rw [hb];simp [h]
end Go.Proofs.YthbjllabgpaaaaaGreat.Adl
