/-
  Texts in one: OctMath, BitMath, RegTwo, BitBase, BitWrite, BitPut, BitWrA, BitWr, BitRdA, BitRd.
-/
import Derived.WalkKit
import Derived.ProofKit
import Derived.Laws.Cells
import Derived.Laws.BytesString
import Derived.Laws.BitsAllLaws
import Derived.IntWalk
import Derived.Orders
import Derived.Test.YthbjllabgpaaaaaGreatRows
import Derived.OpenShut
import Derived.ShutString
import Derived.ChangeOld
import Derived.Below
import Derived.WalkSpells
import Derived.WalkLawsBesides
import Derived.Deep.QuietTactic
import Derived.BigQuiet
import Derived.BigGuardPart
import Derived.StillTailTactics
import Derived.Deep.RegionHeld3
import Derived.Deep.RegionWith
import Derived.Outline
import Derived.Lib.Hide
import Derived.ArgAppend
import Derived.Lib.AppendStr
namespace Go.Proofs.YthbjllabgpaaaaaGreat.Oct
open Go.Lib (hid)
set_option maxHeartbeats 2000000
def byt (n:Int) (i:Nat):UInt8:=UInt8.ofNat (n/2^(8*i)%256).toNat
theorem byt_toNat (n:Int) (i:Nat):((byt n i).toNat:Int)=n/2^(8*i)%256:=by
 unfold byt;have h0:0≤n/2^(8*i)%256:=Int.emod_nonneg _ (by decide)
 have h1:n/2^(8*i)%256<256:=Int.emod_lt_of_pos _ (by decide)
 rw [UInt8.toNat_ofNat'];omega
def leL (s:Nat) (n:Int):List UInt8:=(List.range s).map (byt n)
def beL (s:Nat) (n:Int):List UInt8:=(leL s n).reverse
theorem leL_length (s:Nat) (n:Int):(leL s n).length=s:=by simp [leL]
theorem beL_length (s:Nat) (n:Int):(beL s n).length=s:=by simp [beL,leL]
theorem ofNat_foldl (ns:List UInt8):∀s:ByteArray,(ns.map fun b=>(b.toNat:Int)).foldl (fun r n=>r.push (UInt8.ofNat n.toNat)) s=⟨s.data++ns.toArray⟩:=by
 induction ns with
 | nil=>intro s;cases s;simp
 | cons n ns ih=>
  intro s;simp only [List.map_cons,List.foldl_cons];rw [ih]
  cases s
  simp [ByteArray.push]
theorem addr_add (g j:Nat):(⟨g,0,none⟩:Addr).add j=⟨g,j,none⟩:=by
 unfold Addr.add
 split
 ·next h=>simp_all
 ·simp
theorem run_string_of {P:Program} (w:World) (src dst e:TypeId) (a:Addr) (c:Nat) (bs:List UInt8) (len:Nat) (hl:bs.length=len)
  (hs:P.underlying src=some (.slice e)) (he:P.underlying e=some (.int .u8)) (hd:P.underlying dst=some .string)
  (h:∀j,j<len→w.cell? (a.add j)=(bs.map fun b=>Value.int .u8 b.toNat)[j]?) :
  (convert src dst (.slice (some a) len c)).run P w=.ok (.string ⟨bs.toArray⟩) w:=by
 subst hl;rw [run_convert_bytes_string w src dst e _ _ _ hs he hd]
 have h1:=run_loadCells_list (P:=P) (w:=w) a (bs.map fun b=>Value.int .u8 b.toNat) (by
  intro j v hj
  have hlt:j<bs.length:=by
   have:=(List.getElem?_eq_some_iff.1 hj).1
   simpa using this
  rw [h j hlt,hj])
 rw [List.length_map] at h1;rw [run_bytesToString w a bs.length c (bs.map fun b=>(b.toNat:Int)) (by rw [h1,List.map_map];rfl),ofNat_foldl]
 rw [show ByteArray.empty.data=#[] from rfl,Array.empty_append]
end Go.Proofs.YthbjllabgpaaaaaGreat.Oct
namespace Go.Proofs.YthbjllabgpaaaaaGreat.Bit
open Go.Lib (hid)
set_option maxHeartbeats 2000000
def ibit (v:Int) (i:Nat):Bool:=v/2^i%2==1
def bitsOf (n:Nat) (v:Int):List Bool:=(List.range n).map (ibit v)
def num:List Bool→Nat
 | []=>0
 | b::l=>b.toNat+2*num l
def cnt (n:Int):Nat:=(min (max n 0) 32).toNat
theorem cnt_le (n:Int):cnt n≤32:=by unfold cnt;omega
theorem ibit_int (v:Int) (i:Nat):((ibit v i).toNat:Int)=v/2^i%2:=by
 unfold ibit
 have:v/2^i%2=0∨v/2^i%2=1:=by omega
 rcases this with h | h <;> rw [h] <;> rfl
theorem div_pow (v:Int) (a b:Nat):v/2^a/2^b=v/2^(a+b):=by
 rw [Int.ediv_ediv_of_nonneg (Int.le_of_lt (Int.pow_pos (by decide))),Int.pow_add]
theorem ibit_div (v:Int) (a i:Nat):ibit (v/2^a) i=ibit v (a+i):=by
 unfold ibit;rw [div_pow]
theorem bitsOf_length (n:Nat) (v:Int):(bitsOf n v).length=n:=by simp [bitsOf]
theorem bitsOf_succ (n:Nat) (v:Int):bitsOf (n+1) v=bitsOf n v++[ibit v n]:=by simp [bitsOf,List.range_succ]
theorem bitsOf_add (a b:Nat) (v:Int):bitsOf (a+b) v=bitsOf a v++bitsOf b (v/2^a):=by
 induction b with
 | zero=>simp [bitsOf]
 | succ b ih=>rw [←Nat.add_assoc,bitsOf_succ,ih,bitsOf_succ,ibit_div,List.append_assoc]
theorem num_append (a b:List Bool):num (a++b)=num a+2^a.length*num b:=by
 induction a with
 | nil=>simp [num]
 | cons x a ih=>
  simp only [List.cons_append,num,ih,List.length_cons,Nat.pow_succ,Nat.mul_add];rw [Nat.mul_comm (2^a.length) 2,Nat.mul_assoc];omega
theorem num_lt (l:List Bool):num l<2^l.length:=by
 induction l with
 | nil=>simp [num]
 | cons x a ih=>
  have:x.toNat≤1:=by cases x <;> simp
  simp only [num,List.length_cons,Nat.pow_succ];omega
theorem num_snoc (a:List Bool) (b:Bool):num (a++[b])=num a+2^a.length*b.toNat:=by rw [num_append];simp [num]
theorem num_zeros (n:Nat):num (List.replicate n false)=0:=by
 induction n with
 | zero=>rfl
 | succ n ih=>simp [List.replicate_succ,num,ih]
theorem num_pad (a:List Bool) (n:Nat):num (a++List.replicate n false)=num a:=by rw [num_append,num_zeros];simp
theorem num_bitsOf (n:Nat) (v:Int):(num (bitsOf n v):Int)=v%2^n:=by
 induction n with
 | zero=>simp [bitsOf,num]
 | succ n ih=>
  rw [bitsOf_succ,num_snoc,bitsOf_length,Int.natCast_add,Int.natCast_mul,ih,ibit_int];have hp:(0:Int)<2^n:=Int.pow_pos (by decide)
  have h1:=Int.emod_add_mul_ediv v (2^n);have h2:=Int.emod_add_mul_ediv (v/2^n) 2;have h3:=Int.emod_add_mul_ediv v (2^(n+1));rw [←div_pow v n 1] at h3;rw [show (2:Int)^1=2 from rfl] at h3
  have e:(2:Int)^(n+1)=2^n*2:=Int.pow_succ 2 n;rw [e] at h3 ⊢;generalize v/2^n=q at *;generalize v%2^n=r at *;have e2:(((2^n:Nat):Int))=2^n:=by simp
  rw [e2];have hq:(2:Int)^n*q=2^n*(q%2)+2^n*(2*(q/2)):=by rw [←Int.mul_add];congr 1;omega
  rw [Int.mul_assoc] at h3;omega
theorem num_inj:∀(a b:List Bool),a.length=b.length→num a=num b→a=b:=by
 intro a
 induction a with
 | nil=>intro b h _;cases b with | nil=>rfl | cons _ _=>simp at h
 | cons x a ih=>
  intro b h hn
  cases b with
  | nil=>simp at h
  | cons y b=>
   simp only [num] at hn;have hx:x.toNat≤1:=by cases x <;> simp
   have hy:y.toNat≤1:=by cases y <;> simp
   have h1:x.toNat=y.toNat:=by omega
   have h2:num a=num b:=by omega
   have:x=y:=by cases x <;> cases y <;> simp_all
   rw [this,ih b (by simpa using h) h2]
theorem bitsOf_num (l:List Bool):bitsOf l.length (num l)=l:=by
 apply num_inj
 ·rw [bitsOf_length]
 ·have:=num_bitsOf l.length (num l)
  have hl:=num_lt l;rw [Int.emod_eq_of_lt (by omega) (by exact_mod_cast hl)] at this
  exact_mod_cast this
def fre (l:List Bool):Nat:=(8-l.length%8)%8
def pad (l:List Bool):List Bool:=l++List.replicate (fre l) false
def pack (l:List Bool):List UInt8:=(List.range ((l.length+7)/8)).map fun i=>UInt8.ofNat (num ((l.drop (8*i)).take 8))
theorem pack_length (l:List Bool):(pack l).length=(l.length+7)/8:=by simp [pack]
theorem pad_length (l:List Bool):(pad l).length=l.length+fre l:=by simp [pad]
theorem pad_mod (l:List Bool):(pad l).length%8=0:=by rw [pad_length];unfold fre;omega
theorem pack_get (l:List Bool) (i:Nat) (h:i<(l.length+7)/8):(pack l)[i]?=some (UInt8.ofNat (num ((l.drop (8*i)).take 8))):=by simp [pack,h]
theorem pack_none (l:List Bool) (i:Nat) (h:(l.length+7)/8≤i):(pack l)[i]?=none:=by
 rw [List.getElem?_eq_none];rw [pack_length];exact h
theorem take8_append (l m:List Bool) (i:Nat) (h:8*i+8≤l.length):((l++m).drop (8*i)).take 8=(l.drop (8*i)).take 8:=by
 rw [List.drop_append_of_le_length (by omega),List.take_append_of_le_length (by rw [List.length_drop];omega)]
theorem pack_new (l:List Bool) (b:Bool) (h:l.length%8=0):pack (l++[b])=pack l++[UInt8.ofNat b.toNat]:=by
 apply List.ext_getElem?
 intro i;rcases Nat.lt_trichotomy i (l.length/8) with hi | hi | hi
 ·rw [pack_get _ _ (by rw [List.length_append];simp;omega),List.getElem?_append_left (by rw [pack_length];omega),pack_get _ _ (by omega),take8_append _ _ _ (by omega)]
 ·rw [pack_get _ _ (by rw [List.length_append];simp;omega),List.getElem?_append_right (by rw [pack_length];omega),pack_length]
  have e:i-(l.length+7)/8=0:=by omega
  have e2:8*i=l.length:=by omega
  rw [e,e2,List.drop_left];simp [num]
 ·rw [pack_none _ _ (by rw [List.length_append];simp;omega),List.getElem?_eq_none (by rw [List.length_append,pack_length];simp;omega)]
theorem pack_more (l:List Bool) (b:Bool) (h:l.length%8≠0) :
  pack (l++[b])=(pack l).set (l.length/8) (UInt8.ofNat (num (l.drop (8*(l.length/8)))+2^(l.length%8)*b.toNat)):=by
 apply List.ext_getElem?
 intro i;rw [List.getElem?_set];rcases Nat.lt_trichotomy i (l.length/8) with hi | hi | hi
 ·rw [if_neg (by omega),pack_get _ _ (by rw [List.length_append];simp;omega),pack_get _ _ (by omega),take8_append _ _ _ (by omega)]
 ·subst hi;rw [if_pos rfl,if_pos (by rw [pack_length];omega),pack_get _ _ (by rw [List.length_append];simp;omega)]
  rw [List.drop_append_of_le_length (by omega),List.take_of_length_le (by simp;omega),num_snoc,List.length_drop]
  rw [show l.length-8*(l.length/8)=l.length%8 by omega]
 ·rw [if_neg (by omega),pack_none _ _ (by rw [List.length_append];simp;omega),pack_none _ _ (by omega)]
theorem pack_last (l:List Bool) (h:l.length%8≠0):(pack l)[l.length/8]?=some (UInt8.ofNat (num (l.drop (8*(l.length/8))))):=by
 rw [pack_get _ _ (by omega),List.take_of_length_le (by simp;omega)]
theorem last_lt (l:List Bool):num (l.drop (8*(l.length/8)))<2^(l.length%8):=by
 have:=num_lt (l.drop (8*(l.length/8)))
 rw [List.length_drop,show l.length-8*(l.length/8)=l.length%8 by omega] at this
 exact this
theorem pack_pad (l:List Bool):pack (pad l)=pack l:=by
 apply List.ext_getElem?
 intro i;have hf:fre l=(8-l.length%8)%8:=rfl
 by_cases hi:i<(l.length+7)/8
 ·rw [pack_get _ _ (by rw [pad_length];omega),pack_get _ _ hi]
  by_cases h8:8*i+8≤l.length
  ·unfold pad;rw [take8_append _ _ _ h8]
  ·unfold pad;rw [List.drop_append_of_le_length (by omega),List.take_of_length_le (by simp;omega),List.take_of_length_le (by simp;omega),num_pad]
 ·rw [pack_none _ _ (by rw [pad_length];omega),pack_none _ _ (by omega)]
def tbits (s:List UInt8):List Bool:=s.flatMap fun b=>bitsOf 8 b.toNat
theorem tbits_length (s:List UInt8):(tbits s).length=8*s.length:=by
 induction s with
 | nil=>rfl
 | cons b s ih=>simp only [tbits,List.flatMap_cons,List.length_append,bitsOf_length,List.length_cons] at *;omega
theorem tbits_append (s t:List UInt8):tbits (s++t)=tbits s++tbits t:=by simp [tbits]
theorem ofNat_num (l:List Bool) (h:l.length≤8):(UInt8.ofNat (num l)).toNat=num l:=by
 have h1:=num_lt l;have h2:2^l.length≤2^8:=Nat.pow_le_pow_right (by decide) h
 rw [UInt8.toNat_ofNat'];exact Nat.mod_eq_of_lt (by omega)
theorem pack_cons (l m:List Bool) (h:l.length=8):pack (l++m)=UInt8.ofNat (num l)::pack m:=by
 apply List.ext_getElem?
 intro i
 cases i with
 | zero=>
  rw [pack_get _ _ (by rw [List.length_append];omega)]
  simp [h]
 | succ i=>
  rw [List.getElem?_cons_succ]
  by_cases hi:i<(m.length+7)/8
  ·rw [pack_get _ _ (by rw [List.length_append];omega),pack_get _ _ hi]
   have e:(l++m).drop (8*(i+1))=m.drop (8*i):=by rw [show 8*(i+1)=l.length+8*i by omega,←List.drop_drop,List.drop_left]
   rw [e]
  ·rw [pack_none _ _ (by rw [List.length_append];omega),pack_none _ _ (by omega)]
theorem num_byte (b:UInt8):num (bitsOf 8 (b.toNat:Int))=b.toNat:=by
 have h:=num_bitsOf 8 (b.toNat:Int);have hb:=b.toNat_lt;rw [Int.emod_eq_of_lt (Int.natCast_nonneg _) (by rw [show (2:Int)^8=256 from rfl];omega)] at h
 exact Int.ofNat.inj h
theorem pack_tbits (s:List UInt8):pack (tbits s)=s:=by
 induction s with
 | nil=>rfl
 | cons b s ih=>
  have:tbits (b::s)=bitsOf 8 b.toNat++tbits s:=by simp [tbits]
  rw [this,pack_cons _ _ (bitsOf_length _ _),ih,num_byte,UInt8.ofNat_toNat]
theorem pack_append:∀(k:Nat) (l m:List Bool),l.length=8*k→pack (l++m)=pack l++pack m:=by
 intro k
 induction k with
 | zero=>intro l m h;have:l=[]:=List.eq_nil_of_length_eq_zero (by omega);subst this;rfl
 | succ k ih=>
  intro l m h;have e:l=l.take 8++l.drop 8:=(List.take_append_drop 8 l).symm;have h8:(l.take 8).length=8:=by simp;omega
  rw [e,List.append_assoc,pack_cons _ _ h8,pack_cons _ _ h8,ih _ _ (by simp;omega)]
  rfl
theorem tbits_pack:∀(k:Nat) (l:List Bool),l.length=8*k→tbits (pack l)=l:=by
 intro k
 induction k with
 | zero=>intro l h;have:l=[]:=List.eq_nil_of_length_eq_zero (by omega);subst this;rfl
 | succ k ih=>
  intro l h;have e:l=l.take 8++l.drop 8:=(List.take_append_drop 8 l).symm;have h8:(l.take 8).length=8:=by simp;omega
  rw [e,pack_cons _ _ h8]
  have:∀b s,tbits (b::s)=bitsOf 8 b.toNat++tbits s:=fun b s=>by simp [tbits]
  rw [this,ih _ (by simp;omega),ofNat_num _ (by omega)]
  congr 1
  have:=bitsOf_num (l.take 8)
  rw [h8] at this;exact this
theorem tbits_packed (l:List Bool):tbits (pack l)=pad l:=by
 rw [←pack_pad,tbits_pack ((pad l).length/8)]
 have:=pad_mod l
 omega
theorem tbits_get (s:List UInt8) (i:Nat):(tbits s)[i]?=(s[i/8]?).map fun b=>ibit b.toNat (i%8):=by
 induction s generalizing i with
 | nil=>simp [tbits]
 | cons b s ih=>
  have:tbits (b::s)=bitsOf 8 b.toNat++tbits s:=by simp [tbits]
  rw [this]
  by_cases hi:i<8
  ·rw [List.getElem?_append_left (by rw [bitsOf_length];exact hi),show i/8=0 by omega,show i%8=i by omega]
   simp [bitsOf,hi]
  ·rw [List.getElem?_append_right (by rw [bitsOf_length];omega),bitsOf_length,ih,show i/8=(i-8)/8+1 by omega,show i%8=(i-8)%8 by omega]
   simp
/-! Go's operations on int. -/
theorem i64_mask (x:Int) (n:Nat) (hn:n≤62):bits .and .i64 x (2^n-1)=x%2^n:=by
 show IntKind.i64.wrap ((BitVec.ofInt 64 x &&& BitVec.ofInt 64 (2^n-1)).toNat:Int)=_;have hp:(2:Nat)^n≤2^62:=Nat.pow_le_pow_right (by decide) hn
 have hp0:0<(2:Nat)^n:=Nat.pow_pos (by decide)
 have e:((2:Int)^n-1)=(((2^n-1:Nat)):Int):=by
  have:((2^n:Nat):Int)=2^n:=by simp
  omega
 rw [BitVec.toNat_and,e,ofInt_u64 _ (by omega),Nat.and_two_pow_sub_one_eq_mod,BitVec.toNat_ofInt]
 have h1:((x%((2^64:Nat):Int)).toNat:Int)=x%((2^64:Nat):Int):=Int.toNat_of_nonneg (Int.emod_nonneg _ (by decide))
 have h2:(((x%((2^64:Nat):Int)).toNat%2^n:Nat):Int)=x%2^n:=by
  rw [Int.natCast_emod,h1,Int.natCast_pow];refine Int.emod_emod_of_dvd x ?_;refine ⟨2^(64-n),?_⟩
  have:(2:Nat)^64=2^n*2^(64-n):=by rw [←Nat.pow_add];congr 1;omega
  exact_mod_cast this
 rw [h2];have h3:0≤x%2^n:=Int.emod_nonneg _ (Int.ne_of_gt (Int.pow_pos (by decide)))
 have h4:x%2^n<2^n:=Int.emod_lt_of_pos _ (Int.pow_pos (by decide))
 have h5:((2:Int)^n)≤2^62:=by exact_mod_cast hp
 exact IntWalk.i64_in _ (by omega)
theorem i64_and1 (x:Int):bits .and .i64 x 1=x%2:=i64_mask x 1 (by decide)
theorem i64_or (a b n:Nat) (ha:a<2^n) (hb:b%2^n=0) (hb2:b<2^62) (hn:n≤62):bits .or .i64 (a:Int) (b:Int)=((a+b:Nat):Int):=by
 show IntKind.i64.wrap ((BitVec.ofInt 64 (a:Int) ||| BitVec.ofInt 64 (b:Int)).toNat:Int)=_;have hp:(2:Nat)^n≤2^62:=Nat.pow_le_pow_right (by decide) hn
 rw [BitVec.toNat_or,ofInt_u64 _ (by omega),ofInt_u64 _ (by omega),Nat.or_comm,nat_join n b a hb ha]
 rw [Nat.add_comm b a];exact IntWalk.i64_in _ (by omega)
theorem u8_or_more (a b n:Nat) (ha:a<2^n) (hb:b≤1) (hn:n<8):bits .or .u8 (a:Int) ((2^n*b:Nat):Int)=((a+2^n*b:Nat):Int):=by
 have h1:(2:Nat)^n≤2^7:=Nat.pow_le_pow_right (by decide) (by omega)
 have h2:2^n*b≤2^n*1:=Nat.mul_le_mul_left _ hb;rw [u8_or_nat _ _ (by omega) (by omega),Nat.or_comm,nat_join n _ a (by simp) ha,Nat.add_comm]
end Go.Proofs.YthbjllabgpaaaaaGreat.Bit
namespace Go.Proofs.YthbjllabgpaaaaaGreat.RegTwo
open Go.Lib (hid)
set_option maxHeartbeats 2000000
open Go
def dstOf (ops:Array Oper) (i:Nat):Option Tmp:=(ops[i]?).bind (·.dst)
def left (ops:Array Oper) (listed:Array Bool):Nat:=((List.range ops.size).filter fun i=>!listed.getD i true).length
section
variable {P:Program} {ops:Array Oper} {Q:Exit→Act→World→Prop} {md:Region.Mode}
theorem filter_less {p q:Nat→Bool} (i:Nat) (hp:p i=true) (hq:q i=false) (hn:∀j,j≠i→q j=p j):∀(l:List Nat),l.Nodup→i∈l→(l.filter q).length+1=(l.filter p).length:=by
 intro l
 induction l with
 | nil=>intro _ h;simp at h
 | cons a r ih=>
  intro hd hi;obtain ⟨h1,h2⟩:=List.nodup_cons.1 hd
  by_cases e:a=i
  ·subst e
   have:r.filter q=r.filter p:=List.filter_congr (fun j hj=>hn j (by rintro rfl;exact h1 hj))
   simp [hp,hq,this]
  ·have hi':i∈r:=by
    rcases List.mem_cons.1 hi with h | h
    ·exact absurd h.symm e
    ·exact h
   have:=ih h2 hi'
   by_cases hpa:p a
   ·simp [hpa,hn a e];omega
   ·simp [hpa,hn a e];omega
theorem left_set (listed:Array Bool) (hs:listed.size=ops.size) (i:Nat) (hi:i∈Region.ready md ops listed):left ops (listed.setIfInBounds i true)+1=left ops listed:=by
 obtain ⟨h0,o,ho,_⟩:=mem_ready.1 hi;have hlt:i<ops.size:=(Array.getElem?_eq_some_iff.1 ho).1;unfold left;refine filter_less i (by simp [h0]) ?_ ?_ _ List.nodup_range (List.mem_range.2 hlt)
 ·have:i<listed.size:=by omega
  simp [this]
 ·intro j hj;rw [getD_set_ne true (Ne.symm hj)]
theorem all_of_none (hd2:∀i o,ops[i]?=some o→∀e∈o.after,Region.binds md e=true→e.on<i) (listed:Array Bool) (hs:listed.size=ops.size) (h:Region.ready md ops listed=[]) :
  ∀i,i<ops.size→listed.getD i false=true:=by
 intro i
 induction i using Nat.strongRecOn with
 | ind i ih=>
  intro hi
  apply Classical.byContradiction
  intro hn;have hi':i<listed.size:=by omega
  have h0:listed.getD i true=false:=by
   simp [hi'] at hn ⊢;exact hn
  obtain ⟨o,ho⟩:∃o,ops[i]?=some o:=⟨ops[i],by simp [hi]⟩
  have:i∈Region.ready md ops listed:=mem_ready.2 ⟨h0,o,ho,fun e he hb=>by
   have hlt:=hd2 i o ho e he hb;exact ih e.on hlt (by omega)⟩
  rw [h] at this
  cases this
theorem none_of_left (listed:Array Bool) (h:left ops listed=0):Region.ready md ops listed=[]:=by
 apply List.eq_nil_iff_forall_not_mem.2
 intro i hi;obtain ⟨h0,o,ho,_⟩:=mem_ready.1 hi;have hlt:i<ops.size:=(Array.getElem?_eq_some_iff.1 ho).1;unfold left at h
 have:=List.length_eq_zero_iff.1 h
 have hm:i∈(List.range ops.size).filter fun i=>!listed.getD i true:=List.mem_filter.2 ⟨List.mem_range.2 hlt,by simp [h0]⟩
 rw [this] at hm
 cases hm
def byValue:Ground→Bool
 | .data=>true
 | .guard=>true
 | _=>false
def asks (md:Region.Mode) (ops:Array Oper) (m j:Nat):Bool:=((ops[m]?).map fun o=>o.after.toList.any fun e=>Region.binds md e&&byValue e.ground&&e.on==j).getD false
theorem asks_iff {md:Region.Mode} {ops:Array Oper} {m j:Nat}:asks md ops m j=true↔∃o,ops[m]?=some o∧∃e∈o.after,Region.binds md e=true∧byValue e.ground=true∧e.on=j:=by
 unfold asks
 cases ho:ops[m]? with
 | none=>simp
 | some o=>
  simp only [Option.map_some,Option.getD_some,List.any_eq_true,Bool.and_eq_true,beq_iff_eq,Option.some.injEq,exists_eq_left']
  constructor
  ·rintro ⟨e,he,⟨h1,h2⟩,h3⟩;exact ⟨e,Array.mem_toList_iff.1 he,h1,h2,h3⟩
  ·rintro ⟨e,he,h1,h2,h3⟩;exact ⟨e,Array.mem_toList_iff.2 he,⟨h1,h2⟩,h3⟩
def waits (md:Region.Mode) (ops:Array Oper) (m j:Nat):Bool:=((ops[m]?).map fun o=>o.after.toList.any fun e=>Region.binds md e&&e.on==j).getD false
theorem waits_iff {md:Region.Mode} {ops:Array Oper} {m j:Nat}:waits md ops m j=true↔∃o,ops[m]?=some o∧∃e∈o.after,Region.binds md e=true∧e.on=j:=by
 unfold waits
 cases ho:ops[m]? with
 | none=>simp
 | some o=>
  simp only [Option.map_some,Option.getD_some,List.any_eq_true,Bool.and_eq_true,beq_iff_eq,Option.some.injEq,exists_eq_left']
  constructor
  ·rintro ⟨e,he,h⟩;exact ⟨e,Array.mem_toList_iff.1 he,h⟩
  ·rintro ⟨e,he,h⟩;exact ⟨e,Array.mem_toList_iff.2 he,h⟩
def needed (md:Region.Mode) (ops:Array Oper) (i j:Nat):Bool:=i != j&&(List.range ops.size).any fun m=>m != i&&asks md ops m j&&!waits md ops i m
theorem needed_of {md:Region.Mode} {ops:Array Oper} {i j m:Nat} (h1:i≠j) (h2:m≠i) (h3:asks md ops m j=true) (h4:waits md ops i m≠true):needed md ops i j=true:=by
 unfold needed;simp only [bne_iff_ne,ne_eq,h1,not_false_eq_true,Bool.and_eq_true,List.any_eq_true,Bool.not_eq_true'];refine ⟨by simp,m,?_,⟨by simp [h2],h3⟩,by simpa using h4⟩
 obtain ⟨o,ho,_⟩:=asks_iff.1 h3;exact List.mem_range.2 (Array.getElem?_eq_some_iff.1 ho).1
def mayLead (md:Region.Mode) (ops:Array Oper) (i j:Nat):Bool:=i != j&&((ops[j]?).map fun o=>o.after.toList.all fun e=>!Region.binds md e||e.on != i).getD true
theorem lead_of {md:Region.Mode} {ops:Array Oper} {i j:Nat} (h1:i≠j) (h2:∀o,ops[j]?=some o→∀e∈o.after,Region.binds md e=true→e.on≠i):mayLead md ops i j=true:=by
 unfold mayLead;simp only [bne_iff_ne,ne_eq,h1,not_false_eq_true,Bool.and_eq_true];refine ⟨by simp,?_⟩
 cases ho:ops[j]? with
 | none=>rfl
 | some o=>
  simp only [Option.map_some,Option.getD_some];rw [List.all_eq_true];intro e he
  have:=h2 o ho e (Array.mem_toList_iff.1 he)
  cases hb:Region.binds md e with
  | true=>simp [this hb]
  | false=>simp
structure Inv (md:Region.Mode) (ops:Array Oper) (a1:Act) (use fin:Nat→Value→World→Prop) (S:(Nat→Bool)→World→Prop) (listed:Array Bool) (a:Act) (w:World):Prop where
 s:S (fun j=>listed.getD j false) w
 defers:a.defers=a1.defers
 size:a.tmps.size=a1.tmps.size
 same:∀t,(∀i,listed.getD i false=true→dstOf ops i≠some t)→a.tmps[t]?=a1.tmps[t]?
 done:∀i,listed.getD i false=true→∃v,(∀t,dstOf ops i=some t→a.tmps[t]?=some v)∧fin i v w∧((∃m,listed.getD m false≠true∧asks md ops m i=true)→use i v w)
 closed:∀j o,ops[j]?=some o→listed.getD j false=true→∀e∈o.after,Region.binds md e=true→listed.getD e.on false=true
theorem wpAny_inv (a1:Act) (use fin:Nat→Value→World→Prop) (S:(Nat→Bool)→World→Prop)
  (hd1:∀i j t,dstOf ops i=some t→dstOf ops j=some t→i=j)
  (hd2:∀i o,ops[i]?=some o→∀e∈o.after,Region.binds md e=true→e.on<i)
  (hd3:∀i t,dstOf ops i=some t→t<a1.tmps.size)
  (hstep:∀i o,ops[i]?=some o→∀(ℓ:Nat→Bool) a w,ℓ i=false→(∀m j,waits md ops m j=true→ℓ m=true→ℓ j=true)→(∀j,waits md ops i j=true→ℓ j=true)→S ℓ w→(∀t,(∀j,dstOf ops j≠some t)→a.tmps[t]?=a1.tmps[t]?) →
   (∀e∈o.after,Region.binds md e=true→byValue e.ground=true→∀t,dstOf ops e.on=some t→∃v,a.tmps[t]?=some v∧use e.on v w) →
   Region.wanted o (yielded ops a.tmps)=true∧o.wp P a w (fun a' w'=>∃v,a'=a.put o.dst v∧use i v w'∧fin i v w'∧S (fun j=>if j=i then true else ℓ j) w'∧(∀j u,needed md ops i j=true→use j u w→use j u w')∧∀j u,mayLead md ops i j=true→fin j u w→fin j u w') Q)
  (hend:∀a w,a.defers=a1.defers→a.tmps.size=a1.tmps.size→(∀t,(∀i,dstOf ops i≠some t)→a.tmps[t]?=a1.tmps[t]?) →
   (∀i,i<ops.size→∃v,(∀t,dstOf ops i=some t→a.tmps[t]?=some v)∧fin i v w)→Q .normal a w) :
  ∀(fuel:Nat) (listed:Array Bool) (a:Act) (w:World),listed.size=ops.size→left ops listed≤fuel→Inv md ops a1 use fin S listed a w→wpAny P md ops Q fuel listed a w:=by
 have hfin:∀(listed:Array Bool) (a:Act) (w:World),listed.size=ops.size→Inv md ops a1 use fin S listed a w→Region.ready md ops listed=[]→Q .normal a w:=by
  intro listed a w hs I hr;have hall:=all_of_none hd2 listed hs hr;exact hend a w I.defers I.size (fun t ht=>I.same t fun i _=>ht i) (fun i h=>by obtain ⟨v,h1,h2,_⟩:=I.done i (hall i h);exact ⟨v,h1,h2⟩)
 intro fuel
 induction fuel with
 | zero=>
  intro listed a w hs hl I;have hr:=none_of_left (ops:=ops) (md:=md) listed (by omega)
  exact ⟨hr,hfin listed a w hs I hr⟩
 | succ fuel ih=>
  intro listed a w hs hl I;refine ⟨hfin listed a w hs I,fun i hi=>?_⟩
  have hcount:=left_set listed hs i hi;obtain ⟨h0,o,ho,hdeps⟩:=mem_ready.1 hi;have hlt:i<ops.size:=(Array.getElem?_eq_some_iff.1 ho).1
  have hni:listed.getD i false≠true:=by
   have:i<listed.size:=by omega
   simp [this] at h0 ⊢;exact h0
  obtain ⟨hw,hwp⟩:=hstep i o ho (fun j=>listed.getD j false) a w (by simpa using hni) (fun m j hm hl=>by
   obtain ⟨o',ho',e,he,hb,rfl⟩:=waits_iff.1 hm;exact I.closed m o' ho' hl e he hb) (fun j hm=>by
   obtain ⟨o',ho',e,he,hb,rfl⟩:=waits_iff.1 hm;rw [ho] at ho'
   cases ho'
   exact hdeps e he hb) I.s (fun t ht=>I.same t fun j _=>ht j) (fun e he hb hv t ht=>by obtain ⟨v,h1,_,h2⟩:=I.done e.on (hdeps e he hb);exact ⟨v,h1 t ht,h2 ⟨i,hni,asks_iff.2 ⟨o,ho,e,he,hb,hv,rfl⟩⟩⟩)
  unfold wpOp;simp only [ho,hw,if_true];refine .inl (Oper.wp_mono ?_ hwp);rintro a' w' ⟨v,rfl,hv,hvf,hS,hku,hk⟩;refine ih _ _ _ (by simpa using hs) (by omega) ?_
  have hnew:∀j,(listed.setIfInBounds i true).getD j false=true→j=i∨listed.getD j false=true:=by
   intro j hj
   by_cases e:i=j
   ·exact .inl e.symm
   ·rw [getD_set_ne false e] at hj;exact .inr hj
  have hold:∀j,listed.getD j false=true→(listed.setIfInBounds i true).getD j false=true:=fun j hj=>getD_set_true hj
  have hme:(listed.setIfInBounds i true).getD i false=true:=by
   have:i<listed.size:=by omega
   simp [this]
  have hdst:dstOf ops i=o.dst:=by unfold dstOf;rw [ho];rfl
  have hcl:∀j o,ops[j]?=some o→(listed.setIfInBounds i true).getD j false=true→∀e∈o.after,Region.binds md e=true→(listed.setIfInBounds i true).getD e.on false=true:=by
   intro j o' ho' hj e he hb;rcases hnew j hj with rfl | hj
   ·rw [ho] at ho'
    cases ho'
    exact hold _ (hdeps e he hb)
   ·exact hold _ (I.closed j o' ho' hj e he hb)
  have hah:∀j,listed.getD j false=true→mayLead md ops i j=true:=by
   intro j hj;refine lead_of (by rintro rfl;exact hni hj) fun o' ho' e he hb h=>?_
   exact hni (h ▸ I.closed j o' ho' hj e he hb)
  have hnx:∀j u,listed.getD j false=true→fin j u w→((∃m,listed.getD m false≠true∧asks md ops m j=true)→use j u w) →
    fin j u w'∧((∃m,(listed.setIfInBounds i true).getD m false≠true∧asks md ops m j=true)→use j u w'):=by
   intro j u hj hf hu;refine ⟨hk j u (hah j hj) hf,?_⟩;rintro ⟨m,hm1,hm2⟩;have hmi:m≠i:=by rintro rfl;exact hm1 hme
   have hml:listed.getD m false≠true:=fun h=>hm1 (hold m h)
   refine hku j u (needed_of (by rintro rfl;exact hni hj) hmi hm2 ?_) (hu ⟨m,hml,hm2⟩)
   intro h;obtain ⟨o',ho',e,he,hb,rfl⟩:=waits_iff.1 h;rw [ho] at ho'
   cases ho'
   exact hml (hdeps e he hb)
  have hS':S (fun j=>(listed.setIfInBounds i true).getD j false) w':=by
   have e:(fun j=>(listed.setIfInBounds i true).getD j false)=fun j=>if j=i then true else listed.getD j false:=by
    funext j
    by_cases hj:j=i
    ·rw [if_pos hj,hj];exact hme
    ·rw [if_neg hj,getD_set_ne false (Ne.symm hj)]
   rw [e];exact hS
  cases hd:o.dst with
  | none=>
   show Inv md ops a1 use fin S _ a w'
   exact ⟨hS',I.defers,I.size,fun t ht=>I.same t fun j hj=>ht j (hold j hj),fun j hj=>by
    rcases hnew j hj with rfl | hj
    ·exact ⟨v,fun t ht=>(by rw [hdst,hd] at ht;cases ht),hvf,fun _=>hv⟩
    ·obtain ⟨u,hu,hf,hv⟩:=I.done j hj;exact ⟨u,hu,hnx j u hj hf hv⟩,hcl⟩
  | some t0=>
   have ht0:t0<a.tmps.size:=by rw [I.size];exact hd3 i t0 (by rw [hdst,hd])
   show Inv md ops a1 use fin S _ { a with tmps:=a.tmps.setIfInBounds t0 v } w'
   refine ⟨hS',I.defers,by simpa using I.size,fun t ht=>?_,fun j hj=>?_,hcl⟩
   ·have hne:t0≠t:=by
     rintro rfl;exact ht i hme (by rw [hdst,hd])
    show (a.tmps.setIfInBounds t0 v)[t]?=_;rw [Array.getElem?_setIfInBounds_ne hne];exact I.same t fun j hj=>ht j (hold j hj)
   ·rcases hnew j hj with rfl | hj
    ·refine ⟨v,fun t ht=>?_,hvf,fun _=>hv⟩
     rw [hdst,hd] at ht
     cases ht
     show (a.tmps.setIfInBounds t0 v)[t0]?=_;simp [ht0]
    ·obtain ⟨u,hu,hf,hv2⟩:=I.done j hj;refine ⟨u,fun t ht=>?_,hnx j u hj hf hv2⟩
     have hne:t0≠t:=by
      rintro rfl
      have:=hd1 i j t0 (by rw [hdst,hd]) ht
      subst this;exact hni hj
     show (a.tmps.setIfInBounds t0 v)[t]?=_;rw [Array.getElem?_setIfInBounds_ne hne];exact hu t ht
theorem region_inv {id:Nat} {a1:Act} {w:World} (hm:P.follows .mixedOrders=true) (use fin:Nat→Value→World→Prop) (S:(Nat→Bool)→World→Prop)
  (hd1:∀i j t,dstOf ops i=some t→dstOf ops j=some t→i=j)
  (hd2:∀i o,ops[i]?=some o→∀e∈o.after,Region.binds .any e=true→e.on<i)
  (hd3:∀i t,dstOf ops i=some t→t<a1.tmps.size)
  (hS:S (fun _=>false) w.drew)
  (hstep:∀i o,ops[i]?=some o→∀(ℓ:Nat→Bool) a w,ℓ i=false→(∀m j,waits .any ops m j=true→ℓ m=true→ℓ j=true)→(∀j,waits .any ops i j=true→ℓ j=true)→S ℓ w→(∀t,(∀j,dstOf ops j≠some t)→a.tmps[t]?=a1.tmps[t]?) →
   (∀e∈o.after,Region.binds .any e=true→byValue e.ground=true→∀t,dstOf ops e.on=some t→∃v,a.tmps[t]?=some v∧use e.on v w) →
   Region.wanted o (yielded ops a.tmps)=true∧o.wp P a w (fun a' w'=>∃v,a'=a.put o.dst v∧use i v w'∧fin i v w'∧S (fun j=>if j=i then true else ℓ j) w'∧(∀j u,needed .any ops i j=true→use j u w→use j u w')∧∀j u,mayLead .any ops i j=true→fin j u w→fin j u w') Q)
  (hend:∀a w,a.defers=a1.defers→a.tmps.size=a1.tmps.size→(∀t,(∀i,dstOf ops i≠some t)→a.tmps[t]?=a1.tmps[t]?) →
   (∀i,i<ops.size→∃v,(∀t,dstOf ops i=some t→a.tmps[t]?=some v)∧fin i v w)→Q .normal a w) :
  (Code.region id ops true).wp P Q a1 w:=by
 refine wp_region_any hm (wpAny_inv a1 use fin S hd1 hd2 hd3 hstep hend _ _ _ _ (by simp) ?_ ?_)
 ·unfold left;refine Nat.le_trans (List.length_filter_le _ _) ?_
  simp
 ·have hf:∀i,(Array.replicate ops.size false).getD i false≠true:=by
   intro i
   by_cases h:i<ops.size <;> simp [h]
  have e0:(fun j=>(Array.replicate ops.size false).getD j false)=fun _=>false:=by
   funext j;simpa using hf j
  exact ⟨by rw [e0];exact hS,rfl,rfl,fun _ _=>rfl,fun i h=>absurd h (hf i),fun j o _ h=>absurd h (hf j)⟩
/-! ### The side conditions, to be computed; the operations, one by one. -/
def okDst (ops:Array Oper):Bool:=(List.range ops.size).all fun i=>(List.range ops.size).all fun j=>i==j||dstOf ops i==none||dstOf ops i != dstOf ops j
def okDep (md:Region.Mode) (ops:Array Oper):Bool:=(List.range ops.size).all fun i=>((ops[i]?).map fun o=>o.after.toList.all fun e=>!Region.binds md e||decide (e.on<i)).getD true
def okSize (n:Nat) (ops:Array Oper):Bool:=(List.range ops.size).all fun i=>((dstOf ops i).map fun t=>decide (t<n)).getD true
def notDst (ops:Array Oper) (t:Tmp):Bool:=(List.range ops.size).all fun i=>dstOf ops i != some t
theorem dst_lt {i t:Nat} (h:dstOf ops i=some t):i<ops.size:=by
 apply Classical.byContradiction
 intro hn;unfold dstOf at h;rw [Array.getElem?_eq_none (Nat.le_of_not_lt hn)] at h
 cases h
theorem okDst_spec (h:okDst ops=true):∀i j t,dstOf ops i=some t→dstOf ops j=some t→i=j:=by
 intro i j t hi hj;unfold okDst at h;rw [List.all_eq_true] at h;have h1:=h i (List.mem_range.2 (dst_lt hi));rw [List.all_eq_true] at h1;have h2:=h1 j (List.mem_range.2 (dst_lt hj));rw [hi,hj] at h2
 simpa using h2
theorem okDep_spec (h:okDep md ops=true):∀i o,ops[i]?=some o→∀e∈o.after,Region.binds md e=true→e.on<i:=by
 intro i o ho e he hb;unfold okDep at h;rw [List.all_eq_true] at h;have h1:=h i (List.mem_range.2 (Array.getElem?_eq_some_iff.1 ho).1);rw [ho] at h1;simp only [Option.map_some,Option.getD_some] at h1;rw [List.all_eq_true] at h1;have h2:=h1 e (Array.mem_toList_iff.2 he);rw [hb] at h2
 simpa using h2
theorem okSize_spec {n:Nat} (h:okSize n ops=true):∀i t,dstOf ops i=some t→t<n:=by
 intro i t hi;unfold okSize at h;rw [List.all_eq_true] at h;have h1:=h i (List.mem_range.2 (dst_lt hi));rw [hi] at h1
 simpa using h1
theorem notDst_spec {t:Tmp} (h:notDst ops t=true):∀j,dstOf ops j≠some t:=by
 intro j hj;unfold notDst at h;rw [List.all_eq_true] at h;have h1:=h j (List.mem_range.2 (dst_lt hj));rw [hj] at h1;simp at h1
def downs (ops:Array Oper) (m:Nat):List Nat:=(List.range m).reverse.foldl (fun R j=>if R.any (fun r=>waits .any ops r j) then j::R else R) [m]
def reach (ops:Array Oper) (m i:Nat):Bool:=(downs ops m).contains i
theorem downs_spec {ℓ:Nat→Bool} (hc:∀m j,waits .any ops m j=true→ℓ m=true→ℓ j=true) (m:Nat) (hm:ℓ m=true):∀j∈downs ops m,ℓ j=true:=by
 have key:∀(l R:List Nat),(∀j∈R,ℓ j=true)→∀j∈l.foldl (fun R j=>if R.any (fun r=>waits .any ops r j) then j::R else R) R,ℓ j=true:=by
  intro l
  induction l with
  | nil=>intro R h;exact h
  | cons x l ih=>
   intro R h;refine ih _ ?_;show ∀j∈(if R.any (fun r=>waits .any ops r x) then x::R else R),ℓ j=true
   by_cases hx:R.any (fun r=>waits .any ops r x)=true
   ·rw [if_pos hx];intro j hj;rcases List.mem_cons.1 hj with rfl | hj
    ·obtain ⟨r,hr,hw⟩:=List.any_eq_true.1 hx;exact hc r j hw (h r hr)
    ·exact h j hj
   ·rw [if_neg hx];exact h
 exact key _ _ (by simpa using hm)
def StepOk (P:Program) (ops:Array Oper) (Q:Exit→Act→World→Prop) (a1:Act) (use fin:Nat→Value→World→Prop) (S:(Nat→Bool)→World→Prop) (i:Nat) (o:Oper):Prop:=
 ∀(ℓ:Nat→Bool) a w,ℓ i=false→(∀m,reach ops m i=true→ℓ m=false)→(∀j,waits .any ops i j=true→ℓ j=true)→S ℓ w→(∀t,notDst ops t=true→a.tmps[t]?=a1.tmps[t]?) →
  (∀e∈o.after,Region.binds .any e=true→byValue e.ground=true→∀t,dstOf ops e.on=some t→∃v,a.tmps[t]?=some v∧use e.on v w) →
  Region.wanted o (yielded ops a.tmps)=true∧∀K:Act→World→Prop,(∀v w',use i v w'→fin i v w'→S (fun j=>if j=i then true else ℓ j) w'→(∀j u,needed .any ops i j=true→use j u w→use j u w')→(∀j u,mayLead .any ops i j=true→fin j u w→fin j u w')→K (a.put o.dst v) w')→o.wp P a w K Q
def StepsOk (P:Program) (ops:Array Oper) (Q:Exit→Act→World→Prop) (a1:Act) (use fin:Nat→Value→World→Prop) (S:(Nat→Bool)→World→Prop):Nat→List Oper→Prop
 | _,[]=>True
 | i,o::r=>StepOk P ops Q a1 use fin S i o∧StepsOk P ops Q a1 use fin S (i+1) r
theorem StepsOk.get {a1:Act} {use fin:Nat→Value→World→Prop} {S:(Nat→Bool)→World→Prop}:∀(l:List Oper) (k i:Nat) (o:Oper),StepsOk P ops Q a1 use fin S k l→l[i]?=some o→StepOk P ops Q a1 use fin S (k+i) o
 | [],_,_,_,_,h=>by simp at h
 | x::r,k,0,o,⟨h1,_⟩,h=>by
  simp at h;subst h;exact h1
 | x::r,k,i+1,o,⟨_,h2⟩,h=>by
  have:=StepsOk.get r (k+1) i o h2 (by simpa using h)
  rw [show k+(i+1)=k+1+i by omega]
  exact this
theorem wanted_none {o:Oper} {f:Nat→Option Bool} (h:o.guard=none):Region.wanted o f=true:=by
 unfold Region.wanted;rw [h]
theorem region_ops {id n:Nat} {a1:Act} {w:World} (hm:P.follows .mixedOrders=true) (use fin:Nat→Value→World→Prop) (S:(Nat→Bool)→World→Prop)
  (h1:okDst ops=true) (h2:okDep .any ops=true) (hn:a1.tmps.size=n) (h3:okSize n ops=true) (hS:S (fun _=>false) w.drew) (hsteps:StepsOk P ops Q a1 use fin S 0 ops.toList)
  (hend:∀a w,a.defers=a1.defers→a.tmps.size=a1.tmps.size→(∀t,notDst ops t=true→a.tmps[t]?=a1.tmps[t]?) →
   (∀i,i<ops.size→∃v,(∀t,dstOf ops i=some t→a.tmps[t]?=some v)∧fin i v w)→Q .normal a w) :
  (Code.region id ops true).wp P Q a1 w:=by
 subst hn;refine region_inv hm use fin S (okDst_spec h1) (okDep_spec h2) (okSize_spec h3) hS ?_ ?_
 ·intro i o ho ℓ a w hl hc hd hw hsame hdeps;have hg:=StepsOk.get ops.toList 0 i o hsteps (by rw [Array.getElem?_toList];exact ho)
  rw [Nat.zero_add] at hg
  obtain ⟨x,y⟩:=hg ℓ a w hl (fun m hm=>by
   cases h:ℓ m with
   | false=>rfl
   | true=>
    have:=downs_spec hc m h i (by unfold reach at hm;simpa using hm)
    rw [hl] at this
    cases this) hd hw (fun t ht=>hsame t (notDst_spec ht)) hdeps
  exact ⟨x,y _ fun v w' p q r x y=>⟨v,rfl,p,q,r,x,y⟩⟩
 ·intro a w hd hz hsame hdone;exact hend a w hd hz (fun t ht=>hsame t (notDst_spec ht)) hdone
theorem arr_all (tm:Array Value) (n:Nat) (h:tm.size=n):tm=((List.range n).map fun j=>tm.getD j undef).toArray:=by
 subst h
 apply Array.ext_getElem?
 intro j
 by_cases hj:j<tm.size
 ·simp [hj]
 ·rw [Array.getElem?_eq_none (by omega),Array.getElem?_eq_none (by simp;omega)]
theorem getD_same {tm:Array Value} {t:Nat} {v:Value} (h:tm[t]?=some v):tm.getD t undef=v:=by
 rw [Array.getD_eq_getD_getElem?,h];rfl
end
end Go.Proofs.YthbjllabgpaaaaaGreat.RegTwo
namespace Go.Proofs.YthbjllabgpaaaaaGreat.Bit
open Go.Lib (hid)
set_option maxHeartbeats 2000000
open Go.ChangeShapes Go.WideShapes Go.ChangeAt Go.RowKit
set_option linter.unusedVariables false
theorem cnt_int (n:Int):((cnt n:Nat):Int)=min (max n 0) 32:=by unfold cnt;omega
theorem ret_int {k:IntKind} {a b:Int} (h:a=b):Ending.returned (Value.int k a)=Ending.returned (.int k b):=by rw [h]
theorem within_any (n:Int) (w:World) :
  Calls Tryz.prog 104 #[.int .i64 n] w fun e w'=>e=.returned (.int .i64 (cnt n))∧w=w':=by
 rw [cnt_int]
 go_enter Tryz.func104,Tryz.ntmps104
 go_wp2
 all_goals (go_ret;exact ⟨ret_int (by omega),rfl⟩)
theorem bit_any (v:Int) (i:Nat) (hi:i<64) (w:World) :
  Calls Tryz.prog 106 #[.int .i64 v,.int .i64 i] w fun e w'=>e=.returned (.int .i64 (ibit v i).toNat)∧w=w':=by
 rw [ibit_int]
 go_enter Tryz.func106,Tryz.ntmps106
 go_wp2
 go_ret;exact ⟨ret_int (i64_and1 _),rfl⟩
theorem count_any (n:Int) (w:World) :
  Calls Tryz.prog 79 #[.int .i64 n] w fun e w'=>e=.returned (.int .i64 (cnt n))∧w=w':=by
 rw [cnt_int]
 go_enter Tryz.func79,Tryz.ntmps79
 go_wp2
 all_goals (go_ret;exact ⟨ret_int (by omega),rfl⟩)
def revV (bits len:Int):Nat:=num (bitsOf (cnt len) bits).reverse
theorem rev_bits (n:Nat) (v:Int):(bitsOf n v).reverse=(List.range n).map fun i=>ibit v (n-1-i):=by
 apply List.ext_getElem?
 intro j
 by_cases hj:j<n
 ·rw [List.getElem?_reverse (by rw [bitsOf_length];exact hj),bitsOf_length]
  simp [bitsOf,hj,show n-1-j<n by omega]
 ·rw [List.getElem?_eq_none (by simp [bitsOf];omega),List.getElem?_eq_none (by simp;omega)]
theorem range_num_succ (f:Nat→Bool) (k:Nat):num ((List.range (k+1)).map f)=num ((List.range k).map f)+2^k*(f k).toNat:=by
 rw [List.range_succ,List.map_append,List.map_singleton,num_snoc]
 simp
theorem range_num_lt (f:Nat→Bool) (k:Nat):num ((List.range k).map f)<2^k:=by
 have:=num_lt ((List.range k).map f)
 simpa using this
theorem or_step (f:Nat→Bool) (k:Nat) (hk:k<32) :
  bits .or .i64 ((num ((List.range k).map f):Nat):Int) (((f k).toNat:Int)*2^k)=((num ((List.range (k+1)).map f):Nat):Int):=by
 have h1:=range_num_lt f k;have hb:(f k).toNat≤1:=by cases f k <;> simp
 have hp:(2:Nat)^k≤2^32:=Nat.pow_le_pow_right (by decide) (by omega)
 have h2:2^k*(f k).toNat≤2^k*1:=Nat.mul_le_mul_left _ hb
 have e:(((f k).toNat:Int)*2^k)=((2^k*(f k).toNat:Nat):Int):=by
  rw [Int.natCast_mul,Int.natCast_pow,Int.mul_comm];rfl
 rw [e,i64_or _ _ k h1 (by simp) (by omega) (by omega),range_num_succ]
theorem shl_in (b:Bool) (k:Nat) (hk:k<62):wrap64 ((b.toNat:Int)*2^k)=(b.toNat:Int)*2^k:=by
 have hp:(2:Nat)^k≤2^62:=Nat.pow_le_pow_right (by decide) (by omega)
 have hp2:(2:Int)^k≤2^62:=by exact_mod_cast hp
 have hp3:(0:Int)<2^k:=Int.pow_pos (by decide)
 exact IntWalk.wrap64_in _ (by cases b <;> simp <;> omega)
theorem reverse_any (bt len:Int) (w:World) :
  Calls Tryz.prog 172 #[.agg #[.int .i64 bt,.int .i64 len]] w fun e w'=>e=.returned (.int .i64 (revV bt len))∧Below w.heap.size w w':=by
 unfold revV;rw [rev_bits];have hle:=cnt_le len;generalize hn:cnt len=n at *;have HN:=hid hn;clear hn
 go_enter Tryz.func172,Tryz.ntmps172
 go_wp2_with fail
 refine (within_any _ _).mono ?_;rintro r w' ⟨rfl,rfl⟩;rw [HN.out]
 go_wp2_with fail
 go_loop [4,10] (fun v i=>∃k:Nat,k≤n∧i=.int .i64 k∧v=.int .i64 (num ((List.range k).map fun i=>ibit bt (n-1-i)):Nat)) (fun _ i=>n-(intOf i).toNat)
 case atStart=>exact ⟨0,Nat.zero_le _,rfl,rfl⟩
 case round=>
  obtain ⟨k,hk,rfl,rfl⟩:=hrel
  by_cases hlt:k<n
  ·have HS:=hid (or_step (fun i=>ibit bt (n-1-i)) k (by omega))
   have e1:(n:Int)-1-k=((n-1-k:Nat):Int):=by omega
   generalize num ((List.range k).map fun i=>ibit bt (n-1-i))=m at *
   go_wp2_with fail
   refine (bit_any _ _ (by omega) _).mono ?_
   rintro r w' ⟨rfl,rfl⟩;clear e1;generalize ibit bt (n-1-k)=bb at *;have b0:(0:Int)≤(bb.toNat:Int):=by omega
   have b1:(bb.toNat:Int)≤1:=by cases bb <;> simp
   go_wp2_with fail
   refine ⟨⟨k+1,by omega,by go_num,?_⟩,by simp [intOf];omega⟩
   rw [←HS.out,shl_in _ _ (by omega)]
  ·obtain rfl:k=n:=by omega
   go_wp2_with fail
   go_ret;exact ⟨rfl,(Below.refl _ _).alloc (Nat.le_refl _) _⟩
end Go.Proofs.YthbjllabgpaaaaaGreat.Bit
namespace Go.Proofs.YthbjllabgpaaaaaGreat.Bit
open Go.Lib (hid)
set_option maxHeartbeats 2000000
open Go.ChangeShapes Go.WideShapes Go.ChangeAt Go.RowKit
set_option linter.unusedVariables false
theorem info_u8:(Tryz.prog.info? 5).map (fun i=>(i.zero,i.size,i.bytes))=some (some (.int .u8 0),1,1):=by kernel_rfl
structure But (b:Nat) (v:Value) (w w':World):Prop where
 os:w'.os=w.os
 tape:w'.tape=w.tape
 output:w'.output=w.output
 size:w.heap.size≤w'.heap.size
 block:∀k,k<w.heap.size→k≠b→some k≠v.ownBlock→w'.heap[k]?=w.heap[k]?
theorem But.refl (b:Nat) (v:Value) (w:World):But b v w w:=⟨rfl,rfl,rfl,Nat.le_refl _,fun _ _ _ _=>rfl⟩
def Near (w:World) (v v':Value):Prop:=∀k,v'.ownBlock=some k→v.ownBlock=some k∨w.heap.size≤k
theorem Near.refl (w:World) (v:Value):Near w v v:=fun _ h=>.inl h
theorem Near.trans {w w1:World} {v v1 v2:Value} (h:Near w v v1) (k:Near w1 v1 v2) (hs:w.heap.size≤w1.heap.size):Near w v v2:=by
 intro i hi;rcases k i hi with h1 | h1
 ·exact h i h1
 ·exact .inr (by omega)
theorem But.trans {b:Nat} {v v1:Value} {w w1 w2:World} (h:But b v w w1) (n:Near w v v1) (k:But b v1 w1 w2):But b v w w2:=by
 refine ⟨k.os.trans h.os,k.tape.trans h.tape,k.output.trans h.output,Nat.le_trans h.size k.size,fun i hi hb hv=>?_⟩
 have hs:=h.size;refine (k.block i (by omega) hb fun e=>?_).trans (h.block i hi hb hv)
 rcases n i e.symm with h1 | h1
 ·exact hv h1.symm
 ·omega
theorem run_append_near {P:Program} (w:World) (t ty e:TypeId) (i:TypeInfo) (z:Value) (size bytes:Nat) (ht:P.underlying t=some (.slice e)) (hi:P.info? e=some i) (hz:i.zero=some z)
  (hsize:i.size=size) (hby:i.bytes=bytes) (hzs:z.cells.size=size) (hsz:0<size)
  (v:Value) (n:Nat) (xs:List Value) (hown:w.ownsRow 0 e size v n xs)
  (a:Addr) (m c:Nat) (news:List Value) (hl:news.length=m*size) (hnews:∀j u,news[j]?=some u→w.cell? (a.add j)=some u) (h1:∀u∈news,u.oneCell'=true)
  (h63:n+m≤maxLen) (hbytes:(n+m)*bytes≤140737488355328) :
  ∃v' w',(Builtin.append_ #[t,t] ty #[v,.slice (some a) m c]).run P w=.ok v' w'∧w'.ownsRow 0 e size v' (n+m) (xs++news)∧w.grownBy w' v.ownBlock∧Near w v v':=by
 rcases hown.2 with ⟨rfl,rfl⟩ | ⟨g,cap,cur,rfl,hbg,hg,hnc,hcm,hcs,htake⟩
 ·obtain ⟨v',w',hr,h2,h3,_⟩:=run_append_own (P:=P) w w.heap.size t ty e i z size bytes ht hi hz hsize hby hzs hsz (.slice none 0 0) 0 xs ⟨hown.1,.inl ⟨rfl,rfl⟩⟩ a m c news hl hnews h1 h63 hbytes (Nat.le_refl _);refine ⟨v',w',hr,⟨h2.1,?_⟩,h3,fun k hk=>.inr (h2.lt k hk).1⟩
  rcases h2.2 with h | ⟨g,cap,cur,h1,_,h3⟩
  ·exact .inl h
  ·exact .inr ⟨g,cap,cur,h1,Nat.zero_le _,h3⟩
 ·by_cases hroom:n+m≤cap
  ·obtain ⟨w',hr,h2,h3⟩:=run_append_fits (P:=P) w 0 t ty e i size ht hi hsize g n cap xs hown a m c news hl hnews h1 hroom;exact ⟨_,w',hr,h2,h3,fun k hk=>.inl hk⟩
  ·have holds:∀j u,xs[j]?=some u→w.cell? ((⟨g,0,none⟩:Addr).add j)=some u:=hown.cells (g:=g) rfl;obtain ⟨v',w',hr,h2,h3⟩:=run_append_arg_grows (P:=P) w t ty e i z size bytes ht hi hz hsize hby hzs hsz ⟨g,0,none⟩ n cap xs hown.1 holds a m c news hl hnews (by omega) h63 hbytes
   refine ⟨v',w',hr,⟨h2.1,?_⟩,⟨h3.os,h3.tape,h3.output,h3.size,fun k hk _=>h3.block k hk (by simp)⟩,fun k hk=>.inr (h2.lt k hk).1⟩
   rcases h2.2 with h | ⟨g,cap,cur,h1,_,h3⟩
   ·exact .inl h
   ·exact .inr ⟨g,cap,cur,h1,Nat.zero_le _,h3⟩
theorem wpList_append_near {P:Program} (w:World) {ops:Array Oper} {rest:List Oper} {o:Oper} {a:Act} {Q:Exit→Act→World→Prop} (hgd:o.guard=none) (s x:Operand) (t:TypeId)
  (ho:o.op=.call { callee:=.builtin .append,args:=#[s,x],argTypes:=#[t,t] })
  (e:TypeId) (i:TypeInfo) (z:Value) (size bytes:Nat) (ht:P.underlying t=some (.slice e)) (hi:P.info? e=some i) (hz:i.zero=some z)
  (hsize:i.size=size) (hby:i.bytes=bytes) (hzs:z.cells.size=size) (hsz:0<size)
  (v:Value) (n:Nat) (xs:List Value) (hs:a.eval s=v) (hown:w.ownsRow 0 e size v n xs)
  (ad:Addr) (m c:Nat) (news:List Value) (hx:a.eval x=.slice (some ad) m c) (hl:news.length=m*size) (hnews:∀j u,news[j]?=some u→w.cell? (ad.add j)=some u) (h1:∀u∈news,u.oneCell'=true)
  (h63:n+m≤maxLen) (hbytes:(n+m)*bytes≤140737488355328)
  (h:∀v' w',w'.ownsRow 0 e size v' (n+m) (xs++news)→w.grownBy w' v.ownBlock→Near w v v'→wpList P ops Q rest (a.put o.dst v') w'):wpList P ops Q (o::rest) a w:=by
 refine wpList_plain hgd fun K hK=>?_
 obtain ⟨v',w',hr,h2,h3,h4⟩:=run_append_near (P:=P) w t o.type e i z size bytes ht hi hz hsize hby hzs hsz v n xs hown ad m c news hl hnews h1 h63 hbytes;unfold Oper.wp execOp;simp only [ho,resolve,invoke,builtin,Sem.run_bind,Sem.run_pure,Result.andThen_ok,List.map_toArray,List.map_cons,List.map_nil,hs,hx,hr];exact hK _ _ (h v' w' h2 h3 h4)
def cellsU (l:List UInt8):List Value:=l.map fun b=>Value.int .u8 b.toNat
structure WrRaw (w:World) (b:Nat) (v:Value) (bs:List UInt8) (f:Int):Prop where
 blk:w.heap[b]?=some (.cells #[v,.int .i64 f] 85 (0,0))
 own:w.ownsRow 0 5 1 v bs.length (cellsU bs)
theorem WrRaw.lt {w:World} {b:Nat} {v:Value} {bs:List UInt8} {f:Int} (h:WrRaw w b v bs f):b<w.heap.size:=(Array.getElem?_eq_some_iff.1 h.blk).1
theorem WrRaw.cells {w:World} {b:Nat} {v:Value} {bs:List UInt8} {f:Int} (h:WrRaw w b v bs f) :
  w.cell? ⟨b,0,none⟩=some v∧w.cell? ⟨b,1,none⟩=some (.int .i64 f)∧w.frozen? ⟨b,0,none⟩=false∧w.frozen? ⟨b,1,none⟩=false:=by
 refine ⟨?_,?_,?_,?_⟩
 ·rw [cell_of_row w b 0 _ _ _ h.blk];rfl
 ·rw [cell_of_row w b 1 _ _ _ h.blk];rfl
 ·exact frozen_of_row w b 0 _ _ h.blk
 ·exact frozen_of_row w b 1 _ _ h.blk
theorem WrRaw.ne {w:World} {b:Nat} {v:Value} {bs:List UInt8} {f:Int} (h:WrRaw w b v bs f):v.ownBlock≠some b:=by
 intro e;rcases h.own.2 with ⟨rfl,_⟩ | ⟨g,cap,cur,rfl,_,hg,_⟩
 ·simp [Value.ownBlock] at e
 ·simp only [Value.ownBlock,Option.some.injEq] at e;subst e;rw [h.blk] at hg;simp at hg
theorem ownsRow_block {w w':World} {e:TypeId} {v:Value} {n:Nat} {xs:List Value} (h:w.ownsRow 0 e 1 v n xs) (hk:∀k,v.ownBlock=some k→w'.heap[k]?=w.heap[k]?):w'.ownsRow 0 e 1 v n xs:=by
 refine ⟨h.1,?_⟩;rcases h.2 with h1 | ⟨g,cap,cur,rfl,h1,hg,h2⟩
 ·exact .inl h1
 ·exact .inr ⟨g,cap,cur,rfl,h1,by rw [hk g rfl];exact hg,h2⟩
theorem WrRaw.setFree {w:World} {b:Nat} {v:Value} {bs:List UInt8} {f:Int} (h:WrRaw w b v bs f) (f':Int):WrRaw (w.setCell ⟨b,1,none⟩ (.int .i64 f')) b v bs f':=by
 refine ⟨?_,ownsRow_block h.own fun k hk=>heap_setCell_other w ⟨b,1,none⟩ k _ (fun e=>h.ne (by rw [hk,e]))⟩
 rw [heap_setCell_same w b 1 _ _ _ h.blk];rfl
theorem But.setCell {b:Nat} {v:Value} (w:World) (o:Nat) (u:Value):But b v w (w.setCell ⟨b,o,none⟩ u):=
 ⟨rfl,rfl,rfl,by simp,fun k _ hk _=>heap_setCell_other w ⟨b,o,none⟩ k u hk⟩
theorem WrRaw.appended {w w1:World} {b:Nat} {v v':Value} {bs bs':List UInt8} {f:Int} (h:WrRaw w b v bs f) (hg:w.grownBy w1 v.ownBlock) (hn:Near w v v') (ho:w1.ownsRow 0 5 1 v' bs'.length (cellsU bs')) :
  WrRaw (w1.setCell ⟨b,0,none⟩ v') b v' bs' f∧But b v w (w1.setCell ⟨b,0,none⟩ v'):=by
 have hb:w1.heap[b]?=some (.cells #[v,.int .i64 f] 85 (0,0)):=by rw [hg.block b h.lt (fun e=>h.ne e.symm)];exact h.blk
 have hne:v'.ownBlock≠some b:=by
  intro e;rcases hn b e with h1 | h1
  ·exact h.ne h1
  ·have:=h.lt;omega
 refine ⟨⟨?_,ownsRow_block ho fun k hk=>heap_setCell_other w1 ⟨b,0,none⟩ k _ (fun e=>hne (by rw [hk,e]))⟩,⟨hg.os,hg.tape,hg.output,by simpa using hg.size,fun k hk hb' hv=>?_⟩⟩
 ·rw [heap_setCell_same w1 b 0 _ _ _ hb];rfl
 ·exact (heap_setCell_other w1 ⟨b,0,none⟩ k _ hb').trans (hg.block k hk hv)
end Go.Proofs.YthbjllabgpaaaaaGreat.Bit
namespace Go.Proofs.YthbjllabgpaaaaaGreat.Bit
open Go.Lib (hid)
set_option maxHeartbeats 2000000
open Go.ChangeShapes Go.WideShapes Go.ChangeAt Go.RowKit
set_option linter.unusedVariables false
theorem cellsU_get (l:List UInt8) (i:Nat):(cellsU l)[i]?=(l[i]?).map fun b=>Value.int .u8 b.toNat:=by simp [cellsU]
theorem cellsU_set (l:List UInt8) (i:Nat) (x:UInt8):(cellsU l).set i (.int .u8 x.toNat)=cellsU (l.set i x):=by simp [cellsU,List.map_set]
theorem WrRaw.shape {w:World} {b:Nat} {v:Value} {bs:List UInt8} {f:Int} (h:WrRaw w b v bs f) (hn:0<bs.length):∃g cap,v=.slice (some ⟨g,0,none⟩) bs.length cap∧g≠b:=by
 rcases h.own.2 with ⟨_,h0⟩ | ⟨g,cap,cur,rfl,_⟩
 ·omega
 ·exact ⟨g,cap,rfl,fun e=>h.ne (by rw [e];rfl)⟩
theorem WrRaw.byteAt {w:World} {b g cap:Nat} {bs:List UInt8} {f:Int} (h:WrRaw w b (.slice (some ⟨g,0,none⟩) bs.length cap) bs f) (i:Nat) (hi:i<bs.length) :
  w.cell? ⟨g,i,none⟩=some (.int .u8 (bs[i].toNat:Nat))∧w.frozen? ⟨g,i,none⟩=false:=by
 refine ⟨?_,h.own.frozenAt i⟩;rw [h.own.cellAt i (by omega),cellsU_get,List.getElem?_eq_getElem hi]
 rfl
theorem WrRaw.stored {w:World} {b g cap:Nat} {bs:List UInt8} {f:Int} (h:WrRaw w b (.slice (some ⟨g,0,none⟩) bs.length cap) bs f) (i:Nat) (x:UInt8) :
  WrRaw (w.setCell ⟨g,i,none⟩ (.int .u8 x.toNat)) b (.slice (some ⟨g,0,none⟩) bs.length cap) (bs.set i x) f∧But b (.slice (some ⟨g,0,none⟩) bs.length cap) w (w.setCell ⟨g,i,none⟩ (.int .u8 x.toNat)):=by
 have hne:b≠g:=fun e=>h.ne (by rw [e];rfl)
 have hs:=(h.own.stored i (.int .u8 x.toNat)).1;rw [cellsU_set] at hs;refine ⟨⟨?_,by rw [List.length_set];exact hs⟩,⟨rfl,rfl,rfl,by simp,fun k _ _ hk=>heap_setCell_other w ⟨g,i,none⟩ k _ (fun e=>hk (by rw [e];rfl))⟩⟩
 rw [heap_setCell_other w ⟨g,i,none⟩ b _ hne];exact h.blk
theorem But.drew (b:Nat) (v:Value) (w:World):But b v w w.drew:=⟨rfl,rfl,rfl,Nat.le_refl _,fun _ _ _ _=>rfl⟩
theorem WrRaw.drew {w:World} {b:Nat} {v:Value} {bs:List UInt8} {f:Int} (h:WrRaw w b v bs f):WrRaw w.drew b v bs f:=⟨h.blk,h.own⟩
theorem shl_u8 (bb:Bool) (k:Nat) (hk:k<8):IntKind.u8.wrap (IntKind.i64.wrap ((bb.toNat:Int)*2^k))=((2^k*bb.toNat:Nat):Int):=by
 have hp:(2:Nat)^k≤2^7:=Nat.pow_le_pow_right (by decide) (by omega)
 have hb:bb.toNat≤1:=by cases bb <;> simp
 have h2:2^k*bb.toNat≤2^k*1:=Nat.mul_le_mul_left _ hb;have e:(bb.toNat:Int)*2^k=((2^k*bb.toNat:Nat):Int):=by rw [Int.natCast_mul,Int.natCast_pow,Int.mul_comm];rfl
 rw [e,IntWalk.i64_in _ (by omega),IntKind.wrap_u8']
 omega
set_option maxRecDepth 100000 in
theorem put_some (b g cap:Nat) (bs:List UInt8) (f:Nat) (bb:Bool) (w:World) (h:WrRaw w b (.slice (some ⟨g,0,none⟩) bs.length cap) bs f) (hl:0<bs.length) (f1:1≤f) (f8:f≤7) (hm:bs.length≤1099511627776)
  (x:UInt8) (hx:bs[bs.length-1]?=some x) (y:UInt8) (hy:bits .or .u8 (x.toNat:Int) ((2^(8-f)*bb.toNat:Nat):Int)=y.toNat) :
  Calls Tryz.prog 105 #[.pointer (some ⟨b,0,none⟩),.int .i64 bb.toNat] w fun r w'=>r=.returned (.tuple #[]) ∧
   WrRaw w' b (.slice (some ⟨g,0,none⟩) bs.length cap) (bs.set (bs.length-1) y) (f-1:Nat)∧But b (.slice (some ⟨g,0,none⟩) bs.length cap) w w':=by
 obtain ⟨c0,c1,f0,f1'⟩:=h.cells;have hi:bs.length-1<bs.length:=by omega
 obtain ⟨c2,f2⟩:=h.byteAt (bs.length-1) hi;have ex:bs[bs.length-1]=x:=by rw [List.getElem?_eq_getElem hi] at hx;exact Option.some.inj hx
 rw [ex] at c2;have e1:((bs.length:Int)-1)=((bs.length-1:Nat):Int):=by omega
 have k1:IntKind.i64.wrap ((bs.length:Int)-1)=((bs.length-1:Nat):Int):=by rw [←e1];exact IntWalk.i64_in _ (by omega)
 have k2:IntKind.i64.wrap (8-(f:Int))=((8-f:Nat):Int):=by rw [show (8-(f:Int))=((8-f:Nat):Int) by omega];exact IntWalk.i64_in _ (by omega)
 have k3:(0:Int)≤((8-f:Nat):Int):=by omega
 have k4:((bs.length-1:Nat):Int)<(bs.length:Int):=by omega
 have k5:(0:Int)≤((bs.length-1:Nat):Int):=by omega
 have H:=hid h;rw [←shl_u8 bb (8-f) (by omega)] at hy
 have HY:=hid hy;clear h hx ex hy e1
 go_enter Tryz.func105,Tryz.ntmps105
 go_wp2
 go_still_tail 22,(by kernel_rfl)
 rw [HY.out]
 change wpList _ _ _ _ _ w.drew
 have h2:=H.out.drew;have b2:=But.drew b (.slice (some ⟨g,0,none⟩) bs.length cap) w;clear c0 c1 c2 f0 f1' f2;generalize w.drew=w2 at *;have cz:=(h2.byteAt (bs.length-1) hi).1;have fz:=(h2.byteAt (bs.length-1) hi).2;obtain ⟨h3,b3⟩:=h2.stored (bs.length-1) y;obtain ⟨c3,c4,f3,f4⟩:=h3.cells;have H3:=hid h3;have B3:=hid (b2.trans (Near.refl _ _) b3);clear h2 b2 h3 b3 k1 k2 k3 k4 k5;have q1:(f:Int)-1=((f-1:Nat):Int):=by omega
 go_wp2
 go_end0;exact ⟨rfl,H3.out.setFree _,B3.out.trans (Near.refl _ _) (But.setCell _ _ _)⟩
theorem WrRaw.alloc {w:World} {b:Nat} {v:Value} {bs:List UInt8} {f:Int} (h:WrRaw w b v bs f) (o:Obj):WrRaw (w.alloc o) b v bs f:=by
 refine ⟨?_,h.own.alloc o⟩;rw [Below.heap_alloc w o b h.lt];exact h.blk
theorem But.alloc (b:Nat) (v:Value) (w:World) (o:Obj):But b v w (w.alloc o):=⟨rfl,rfl,rfl,by simp,fun k hk _ _=>Below.heap_alloc w o k hk⟩
theorem Near.alloc {w:World} {v v':Value} {o:Obj} (h:Near (w.alloc o) v v'):Near w v v':=by
 intro k hk;rcases h k hk with h1 | h1
 ·exact .inl h1
 ·refine .inr ?_
  have:(w.alloc o).heap.size=w.heap.size+1:=by simp
  omega
theorem WrRaw.more {w w1:World} {b:Nat} {v v':Value} {bs:List UInt8} {f:Int} {o:Obj} (h:WrRaw w b v bs f) (hg:(w.alloc o).grownBy w1 v.ownBlock) (hn:Near (w.alloc o) v v')
  (ho:w1.ownsRow 0 5 1 v' (bs.length+1) (cellsU bs++[.int .u8 0])) :
  ∃g cap,v'=.slice (some ⟨g,0,none⟩) (bs.length+1) cap∧w1.cell? ⟨b,0,none⟩=some v∧w1.frozen? ⟨b,0,none⟩=false ∧
   WrRaw (w1.setCell ⟨b,0,none⟩ v') b v' (bs++[0]) f∧But b v w (w1.setCell ⟨b,0,none⟩ v')∧Near w v v':=by
 have ha:=h.alloc o;have e:(bs++[0]).length=bs.length+1:=by simp
 have e2:cellsU (bs++[0])=cellsU bs++[.int .u8 0]:=by simp [cellsU]
 obtain ⟨h1,h2⟩:=ha.appended (bs':=bs++[0]) hg hn (by rw [e,e2];exact ho)
 have hb:w1.heap[b]?=(w.alloc o).heap[b]?:=hg.block b ha.lt (fun e=>ha.ne e.symm)
 obtain ⟨c0,_,f0,_⟩:=ha.cells;obtain ⟨g,cap,rfl,_⟩:=h1.shape (by simp)
 refine ⟨g,cap,by rw [e],?_,?_,h1,(But.alloc b v w o).trans (Near.refl _ _) h2,hn.alloc⟩
 ·rw [World.cell?_of_block (a:=⟨b,0,none⟩) hb];exact c0
 ·rw [World.frozen?_of_block (a:=⟨b,0,none⟩) hb];exact f0
set_option maxRecDepth 100000 in
theorem put_none (b:Nat) (v:Value) (bs:List UInt8) (bb:Bool) (w:World) (h:WrRaw w b v bs 0) (hm:bs.length≤1099511627776) :
  Calls Tryz.prog 105 #[.pointer (some ⟨b,0,none⟩),.int .i64 bb.toNat] w fun r w'=>r=.returned (.tuple #[]) ∧
   ∃v',WrRaw w' b v' (bs++[UInt8.ofNat bb.toNat]) 7∧But b v w w'∧Near w v v':=by
 obtain ⟨i0,hi,hz0,hz1,hz2⟩:=info_parts info_u8;obtain ⟨c0,c1,f0,f1'⟩:=h.cells;have H:=hid h;have hown:=h.own;clear h
 go_enter Tryz.func105,Tryz.ntmps105
 go_wp2_with (at_builtin;refine wpList_append_near _ rfl _ _ 68 rfl 5 i0 (.int .u8 0) 1 1 Tryz.underlying68 hi hz0 hz1 hz2 rfl (by decide) v bs.length (cellsU bs) rfl (hown.alloc _) ⟨w.heap.size,0,none⟩ 1 1 [.int .u8 0] rfl rfl (cell_one_new _ _ _) (by intro u hu;simp at hu;subst hu;rfl) (by unfold maxLen;omega) (by omega) ?_;intro v' w1 hown1 hgrow hnear;obtain ⟨g,cap,rfl,c3,f3,h3,b3,n3⟩:=H.out.more hgrow hnear hown1;clear hown hown1 hgrow hnear c0 c1 f0 f1' hi hz0 hz1 hz2;obtain ⟨c4,c5,f4,f5⟩:=h3.cells;have H3:=hid h3;have B3:=hid b3;have N3:=hid n3;clear h3 b3 n3)
 have h4:=H3.out.setFree 8;have b4:=B3.out.trans N3.out (But.setCell (b:=b) (v:=.slice (some ⟨g,0,none⟩) (bs.length+1) cap) _ 1 (.int .i64 8));have s4:=b4.size;have e:bs.length+1=(bs++[0]).length:=by simp
 have x0:(bs++[(0:UInt8)])[(bs++[(0:UInt8)]).length-1]?=some 0:=by simp
 have y0:(bs++[(0:UInt8)]).set ((bs++[(0:UInt8)]).length-1) (UInt8.ofNat bb.toNat)=bs++[UInt8.ofNat bb.toNat]:=by simp
 have l0:0<(bs++[(0:UInt8)]).length:=by simp
 have m0:(bs++[(0:UInt8)]).length≤1099511627777:=by simp;omega
 clear c3 f3 c4 c5 f4 f5 H3 B3;generalize (w1.setCell ⟨b,0,none⟩ (.slice (some ⟨g,0,none⟩) (bs.length+1) cap)).setCell ⟨b,1,none⟩ (.int .i64 8)=w4 at *;rw [e] at h4 ⊢;have N4:Hid (Near w v (.slice (some ⟨g,0,none⟩) (bs++[(0:UInt8)]).length cap)):=by rw [←e];exact N3
 clear N3 e;have Y0:=hid y0;clear y0;generalize bs++[(0:UInt8)]=cs at *;clear hm H;have hy:bits .or .u8 ((0:UInt8).toNat:Int) ((2^(8-8)*bb.toNat:Nat):Int)=(UInt8.ofNat bb.toNat).toNat:=by cases bb <;> rfl
 obtain ⟨f,hf⟩:∃f:Nat,8=f:=⟨8,rfl⟩;have e8:((8:Nat):Int)=(f:Int):=by rw [hf]
 have h5:WrRaw w4 b (.slice (some ⟨g,0,none⟩) cs.length cap) cs f:=by rw [←e8];exact h4
 have hy':bits .or .u8 ((0:UInt8).toNat:Int) ((2^(8-f)*bb.toNat:Nat):Int)=(UInt8.ofNat bb.toNat).toNat:=by rw [←hf];exact hy
 have f1:1≤f:=by omega
 have f8:f≤8:=by omega
 have B4:=hid b4;have HF:=hid hf;clear h4 hy hf e8 b4 s4;obtain ⟨y,hyy⟩:∃y,UInt8.ofNat bb.toNat=y:=⟨_,rfl⟩;rw [hyy] at hy';obtain ⟨x,hxx⟩:∃x:UInt8,(0:UInt8)=x:=⟨_,rfl⟩;rw [hxx] at hy' x0;clear hxx;have YY:=hid hyy;clear hyy;obtain ⟨c0,c1,f0,f1'⟩:=h5.cells;have hi:cs.length-1<cs.length:=by omega
 obtain ⟨c2,f2⟩:=h5.byteAt (cs.length-1) hi;have ex:cs[cs.length-1]=x:=by rw [List.getElem?_eq_getElem hi] at x0;exact Option.some.inj x0
 rw [ex] at c2;have e1:((cs.length:Int)-1)=((cs.length-1:Nat):Int):=by omega
 have k1:IntKind.i64.wrap ((cs.length:Int)-1)=((cs.length-1:Nat):Int):=by rw [←e1];exact IntWalk.i64_in _ (by omega)
 have k2:IntKind.i64.wrap (8-(f:Int))=((8-f:Nat):Int):=by rw [show (8-(f:Int))=((8-f:Nat):Int) by omega];exact IntWalk.i64_in _ (by omega)
 have k3:(0:Int)≤((8-f:Nat):Int):=by omega
 have k4:((cs.length-1:Nat):Int)<(cs.length:Int):=by omega
 have k5:(0:Int)≤((cs.length-1:Nat):Int):=by omega
 have H:=hid h5;rw [←shl_u8 bb (8-f) (by omega)] at hy'
 have HY:=hid hy';clear h5 x0 ex hy' e1
 go_still_tail 22,(by kernel_rfl)
 rw [HY.out]
 change wpList _ _ _ _ _ w4.drew
 have h2:=H.out.drew;have b2:=B4.out.trans N4.out (But.drew b (.slice (some ⟨g,0,none⟩) cs.length cap) w4);clear c0 c1 c2 f0 f1' f2 H B4;generalize w4.drew=w2 at *;have cz:=(h2.byteAt (cs.length-1) hi).1;have fz:=(h2.byteAt (cs.length-1) hi).2;obtain ⟨h3,b3⟩:=h2.stored (cs.length-1) y;obtain ⟨c3,c4,f3,f4⟩:=h3.cells;have H3:=hid h3;have B3:=hid (b2.trans N4.out b3);clear h2 b2 h3 b3 k1 k2 k3 k4 k5;have q1:(f:Int)-1=7:=by have:=HF.out;omega
 go_wp2
 go_end0;refine ⟨rfl,_,?_,B3.out.trans N4.out (But.setCell _ _ _),N4.out⟩;rw [←Y0.out,YY.out];exact H3.out.setFree _
end Go.Proofs.YthbjllabgpaaaaaGreat.Bit
namespace Go.Proofs.YthbjllabgpaaaaaGreat.Bit
open Go.Lib (hid)
set_option maxHeartbeats 2000000
open Go.ChangeShapes Go.WideShapes Go.ChangeAt Go.RowKit
set_option linter.unusedVariables false
def WrAt (w:World) (b:Nat) (v:Value) (l:List Bool):Prop:=WrRaw w b v (pack l) (fre l:Nat)
theorem fre_zero {l:List Bool} (h:l.length%8=0):fre l=0:=by unfold fre;omega
theorem put_any (b:Nat) (v:Value) (l:List Bool) (bb:Bool) (w:World) (h:WrAt w b v l) (hm:l.length≤1099511627776) :
  Calls Tryz.prog 105 #[.pointer (some ⟨b,0,none⟩),.int .i64 bb.toNat] w fun r w'=>r=.returned (.tuple #[]) ∧
   ∃v',WrAt w' b v' (l++[bb])∧But b v w w'∧Near w v v':=by
 have hl:=pack_length l
 by_cases h8:l.length%8=0
 ·have h0:WrRaw w b v (pack l) 0:=by have:=h;unfold WrAt at this;rw [fre_zero h8] at this;exact this
  refine (put_none b v (pack l) bb w h0 (by omega)).mono ?_
  rintro r w' ⟨rfl,v',h1,h2,h3⟩;refine ⟨rfl,v',?_,h2,h3⟩;unfold WrAt;rw [pack_new l bb h8,show fre (l++[bb])=7 by unfold fre;rw [List.length_append];simp;omega]
  exact h1
 ·obtain ⟨g,cap,rfl,_⟩:=h.shape (by omega)
  have hi:l.length/8=(pack l).length-1:=by omega
  have hx:=pack_last l h8;have hb:bb.toNat≤1:=by cases bb <;> simp
  have hlt:=last_lt l;have hp:(2:Nat)^(l.length%8)≤2^7:=Nat.pow_le_pow_right (by decide) (by omega)
  have h2:2^(l.length%8)*bb.toNat≤2^(l.length%8)*1:=Nat.mul_le_mul_left _ hb;have hf:8-fre l=l.length%8:=by unfold fre;omega
  have hy:=u8_or_more (num (l.drop (8*(l.length/8)))) bb.toNat (l.length%8) hlt hb (by omega)
  have n1:(UInt8.ofNat (num (l.drop (8*(l.length/8))))).toNat=num (l.drop (8*(l.length/8))):=by
   rw [UInt8.toNat_ofNat'];exact Nat.mod_eq_of_lt (by omega)
  have n2:(UInt8.ofNat (num (l.drop (8*(l.length/8)))+2^(l.length%8)*bb.toNat)).toNat=num (l.drop (8*(l.length/8)))+2^(l.length%8)*bb.toNat:=by
   rw [UInt8.toNat_ofNat'];exact Nat.mod_eq_of_lt (by omega)
  refine (put_some b g cap (pack l) (fre l) bb w h (by omega) (by unfold fre;omega) (by unfold fre;omega) (by omega) _ (by rw [←hi];exact hx)
   (UInt8.ofNat (num (l.drop (8*(l.length/8)))+2^(l.length%8)*bb.toNat)) (by rw [hf,n1,n2];exact hy)).mono ?_
  rintro r w' ⟨rfl,h3,h4⟩;refine ⟨rfl,_,?_,h4,Near.refl _ _⟩;unfold WrAt;rw [pack_more l bb h8,show fre (l++[bb])=fre l-1 by unfold fre;rw [List.length_append];simp;omega]
  rw [←hi] at h3;exact h3
theorem wbits_any (b:Nat) (v:Value) (l:List Bool) (n x:Int) (w:World) (h:WrAt w b v l) (hm:l.length≤1099511627000) :
  Calls Tryz.prog 73 #[.pointer (some ⟨b,0,none⟩),.int .i64 n,.int .i64 x] w fun r w'=>r=.returned (.tuple #[]) ∧
   ∃v',WrAt w' b v' (l++bitsOf (cnt n) x)∧But b v w w'∧Near w v v':=by
 have hle:=cnt_le n;generalize hn:cnt n=m at *;have HN:=hid hn;clear hn
 go_enter Tryz.func73,Tryz.ntmps73
 go_wp2_with fail
 refine (within_any _ _).mono ?_;rintro r w' ⟨rfl,rfl⟩;rw [HN.out]
 go_wp2_with fail
 go_loopw [11] (fun i wr=>∃(k:Nat) (u:Value),k≤m∧i=.int .i64 k∧WrAt wr b u (l++bitsOf k x)∧But b v w wr∧Near w v u) (fun i _=>m-(intOf i).toNat)
 case atStart=>exact ⟨0,v,Nat.zero_le _,rfl,by simpa [bitsOf] using h,But.refl _ _ _,Near.refl _ _⟩
 case round=>
  obtain ⟨k,u,hk,rfl,h1,h2,h3⟩:=hrel
  by_cases hlt:k<m
  ·go_wp2_with fail
   refine (bit_any _ _ (by omega) _).mono ?_
   rintro r w' ⟨rfl,rfl⟩
   go_wp2_with fail
   refine (put_any b u _ (ibit x k) _ h1 (by rw [List.length_append,bitsOf_length];omega)).mono ?_
   rintro r w' ⟨rfl,u',h4,h5,h6⟩;have h7:=h2.trans h3 h5;have h8:=h3.trans h6 h2.size;rw [List.append_assoc,←bitsOf_succ] at h4;have HH:=hid (And.intro h4 (And.intro h7 h8));clear h1 h2 h3 h4 h5 h6 h7 h8
   go_wp2_with fail
   refine ⟨⟨k+1,u',by omega,by go_num,HH.out.1,HH.out.2.1,HH.out.2.2⟩,?_⟩
   simp [intOf];omega
  ·obtain rfl:k=m:=by omega
   have HH:=hid (And.intro h1 (And.intro h2 h3));clear h1 h2 h3
   go_wp2_with fail
   go_end0;exact ⟨rfl,u,HH.out.1,HH.out.2.1,HH.out.2.2⟩
theorem WrAt.len8 (l:List Bool):8*((pack l).length:Int)-(fre l:Nat)=l.length:=by
 rw [pack_length];unfold fre;omega
theorem wlen_any (b:Nat) (v:Value) (l:List Bool) (w:World) (h:WrAt w b v l) (hm:l.length≤1099511627776) :
  Calls Tryz.prog 70 #[.pointer (some ⟨b,0,none⟩)] w fun r w'=>r=.returned (.int .i64 l.length)∧∃n,w'=w.drewN n:=by
 obtain ⟨c0,c1,f0,f1⟩:=h.cells;have hl:=WrAt.len8 l;have hp:=pack_length l
 obtain ⟨a,cap,rfl⟩:∃a cap,v=.slice a (pack l).length cap:=by
  rcases h.own.2 with ⟨rfl,h0⟩ | ⟨g,cap,cur,rfl,_⟩
  ·exact ⟨none,0,by rw [h0]⟩
  ·exact ⟨_,cap,rfl⟩
 clear h;have hfr:fre l≤7:=by unfold fre;omega
 generalize (pack l).length=n at *;generalize fre l=f at *;have k1:IntKind.i64.wrap (8*(n:Int))=8*n:=IntWalk.i64_in _ (by omega)
 have k2:IntKind.i64.wrap (8*(n:Int)-f)=l.length:=by rw [hl];exact IntWalk.i64_in _ (by omega)
 clear hl hp
 go_enter Tryz.func70,Tryz.ntmps70
 go_wp2
 go_quiet (fail)
 go_wp2
 go_ret;exact ⟨rfl,_,rfl⟩
theorem run_string_nil {P:Program} (w:World) (src dst e:TypeId) (hs:P.underlying src=some (.slice e)) (he:P.underlying e=some (.int .u8)) (hd:P.underlying dst=some .string) :
  (convert src dst (.slice none 0 0)).run P w=.ok (.string ⟨#[]⟩) w:=by
 rw [run_convert_bytes_string w src dst e _ _ _ hs he hd]
 rfl
theorem wstring_any (b:Nat) (v:Value) (l:List Bool) (w:World) (h:WrAt w b v l) :
  Calls Tryz.prog 44 #[.pointer (some ⟨b,0,none⟩)] w fun r w'=>r=.returned (.string ⟨(pack l).toArray⟩)∧w=w':=by
 obtain ⟨c0,c1,f0,f1⟩:=h.cells
 have hcv:(convert 68 9 v).run Tryz.prog w=.ok (.string ⟨(pack l).toArray⟩) w:=by
  rcases h.own.2 with ⟨rfl,h0⟩ | ⟨g,cap,cur,rfl,_⟩
  ·rw [List.eq_nil_of_length_eq_zero h0];exact run_string_nil w 68 9 5 Tryz.underlying68 Tryz.underlying5 Tryz.underlying9
  ·refine Oct.run_string_of w 68 9 5 ⟨g,0,none⟩ cap (pack l) _ rfl Tryz.underlying68 Tryz.underlying5 Tryz.underlying9 ?_;intro j hj;rw [Oct.addr_add];exact h.own.cellAt j (by omega)
 clear h
 go_enter Tryz.func44,Tryz.ntmps44
 go_wp2
 go_ret;exact ⟨rfl,rfl⟩
def codeBits (bt len:Int):List Bool:=(bitsOf (cnt len) bt).reverse
theorem codeBits_length (bt len:Int):(codeBits bt len).length=cnt len:=by simp [codeBits,bitsOf]
theorem bits_rev (bt len:Int):bitsOf (cnt len) (revV bt len:Nat)=codeBits bt len:=by
 have:=bitsOf_num (codeBits bt len)
 rw [codeBits_length] at this;exact this
theorem But.below {b:Nat} {v:Value} {w w':World} (h:Below w.heap.size w w'):But b v w w':=⟨h.os,h.tape,h.output,h.size,fun k hk _ _=>h.block k hk⟩
theorem WrRaw.below {w w':World} {b:Nat} {v:Value} {bs:List UInt8} {f:Int} (h:WrRaw w b v bs f) (hb:Below w.heap.size w w'):WrRaw w' b v bs f:=by
 refine ⟨by rw [hb.block b h.lt];exact h.blk,ownsRow_block h.own fun k hk=>hb.block k (h.own.lt k hk).2⟩
theorem wcode_any (b:Nat) (v:Value) (l:List Bool) (bt len:Int) (w:World) (h:WrAt w b v l) (hm:l.length≤1099511627000) :
  Calls Tryz.prog 150 #[.pointer (some ⟨b,0,none⟩),.agg #[.int .i64 bt,.int .i64 len]] w fun r w'=>r=.returned (.tuple #[]) ∧
   ∃v',WrAt w' b v' (l++codeBits bt len)∧But b v w w'∧Near w v v':=by
 go_enter Tryz.func150,Tryz.ntmps150
 go_wp2_with fail
 have ha:=WrRaw.alloc h (.cells #[.int .i64 bt,.int .i64 len] 151);have ba:=But.alloc b v w (.cells #[.int .i64 bt,.int .i64 len] 151);have hc0:(w.alloc (.cells #[.int .i64 bt,.int .i64 len] 151)).heap[w.heap.size]?=some (.cells #[.int .i64 bt,.int .i64 len] 151 (0,0)):=heap_alloc_new _ _;have sz:w.heap.size<(w.alloc (.cells #[.int .i64 bt,.int .i64 len] 151)).heap.size:=by simp
 have hbB:w.heap.size≠b:=by have:=WrRaw.lt h;omega
 have hvB:some w.heap.size≠v.ownBlock:=fun e=>by have:=(h.own.lt _ e.symm).2;omega
 clear h;generalize w.alloc (.cells #[.int .i64 bt,.int .i64 len] 151)=w1 at *;have c0:w1.cell? ⟨w.heap.size,0,none⟩=some (.int .i64 bt):=by rw [cell_of_row w1 _ 0 _ _ _ hc0];rfl
 have c1:w1.cell? ⟨w.heap.size,1,none⟩=some (.int .i64 len):=by rw [cell_of_row w1 _ 1 _ _ _ hc0];rfl
 generalize w.heap.size=B at *
 go_region_held3 (fun w'=>w'.cell? ⟨B,0,none⟩=some (.int .i64 bt)∧w'.cell? ⟨B,1,none⟩=some (.int .i64 len)) (first | exact ⟨c0,c1⟩ | exact hk2 | exact hk3)
  (first
   | (go_at_call 172;refine (reverse_any _ _ _).mono ?_;rintro r w2 ⟨rfl,b2⟩;have hk2:w2.cell? ⟨B,0,none⟩=some (.int .i64 bt)∧w2.cell? ⟨B,1,none⟩=some (.int .i64 len):=⟨(World.cell?_of_block (w:=w1) (w':=w2) (a:=⟨B,0,none⟩) (b2.block B sz)).trans c0,(World.cell?_of_block (w:=w1) (w':=w2) (a:=⟨B,1,none⟩) (b2.block B sz)).trans c1⟩;have h2:WrAt w2 b v l:=WrRaw.below (w:=w1) ha ⟨b2.os,b2.tape,b2.output,b2.size,b2.block⟩)
   | (go_at_call 73;refine (wbits_any b v l _ _ _ h2 hm).mono ?_;rintro r w3 ⟨rfl,v',h3,b3,n3⟩;have b4:=(But.below (b:=b) (v:=v) (w:=w1) (w':=w2) ⟨b2.os,b2.tape,b2.output,b2.size,b2.block⟩).trans (Near.refl _ _) b3;have hk3:w3.cell? ⟨B,0,none⟩=some (.int .i64 bt)∧w3.cell? ⟨B,1,none⟩=some (.int .i64 len):=⟨(World.cell?_of_block (w:=w1) (w':=w3) (a:=⟨B,0,none⟩) (b4.block B sz hbB hvB)).trans c0,(World.cell?_of_block (w:=w1) (w':=w3) (a:=⟨B,1,none⟩) (b4.block B sz hbB hvB)).trans c1⟩))
 rw [bits_rev] at h3
 have HH:=hid (And.intro h3 (And.intro (ba.trans (Near.refl _ _) b4) (show Near w v v' from fun k hk=>by
  rcases n3 k hk with h | h
  ·exact .inl h
  ·have:=b2.size;have:=ba.size;exact .inr (by have e:w1.drew.heap.size=w1.heap.size:=rfl;omega))))
 clear h3 ba b4 n3 b2 b3 hk3 hk2 h2 ha hc0 sz c0 c1
 go_wp2
 go_end0;exact ⟨rfl,v',HH.out.1,HH.out.2.1,HH.out.2.2⟩
end Go.Proofs.YthbjllabgpaaaaaGreat.Bit
namespace Go.Proofs.YthbjllabgpaaaaaGreat.Bit
open Go.Lib (hid)
set_option maxHeartbeats 2000000
open Go.ChangeShapes Go.WideShapes Go.ChangeAt Go.RowKit
set_option linter.unusedVariables false
theorem align_any (b:Nat) (v:Value) (l:List Bool) (w:World) (h:WrAt w b v l) :
  Calls Tryz.prog 72 #[.pointer (some ⟨b,0,none⟩)] w fun r w'=>r=.returned (.tuple #[])∧WrAt w' b v (pad l)∧But b v w w':=by
 obtain ⟨c0,c1,f0,f1⟩:=h.cells;have h1:=h.setFree 0
 have h2:WrAt (w.setCell ⟨b,1,none⟩ (.int .i64 0)) b v (pad l):=by
  unfold WrAt;rw [pack_pad,fre_zero (pad_mod l)];exact h1
 have H:=hid h2;clear h h1 h2
 go_enter Tryz.func72,Tryz.ntmps72
 go_wp2
 go_end0;exact ⟨rfl,H.out,But.setCell _ _ _⟩
theorem run_append_string_near {P:Program} (w:World) (t u ty e:TypeId) (i:TypeInfo) (ht:P.underlying t=some (.slice e)) (hu:P.underlying u=some .string) (hi:P.info? e=some i) (hz:i.zero=some (.int .u8 0))
  (hsize:i.size=1) (hby:i.bytes=1) (v:Value) (n:Nat) (xs:List Value) (hown:w.ownsRow 0 e 1 v n xs) (s:ByteArray) (h63:n+s.size≤maxLen) (hbytes:n+s.size≤140737488355328) :
  ∃v' w',(Builtin.append_ #[t,u] ty #[v,.string s]).run P w=.ok v' w'∧w'.ownsRow 0 e 1 v' (n+s.size) (xs++Lib.strCells s)∧w.grownBy w' v.ownBlock∧Near w v v':=by
 obtain ⟨v',w',hr,h2,h3,_⟩:=Lib.run_append_own_string (P:=P) w 0 t u ty e i ht hu hi hz hsize hby v n xs hown s h63 hbytes (Nat.zero_le _);refine ⟨v',w',hr,h2,h3,?_⟩;rcases hown.2 with ⟨rfl,rfl⟩ | ⟨g,cap,cur,rfl,hbg,hg,hnc,hcm,hcs,htake⟩
 ·obtain ⟨v2,w2,hr2,h4,_⟩:=Lib.run_append_own_string (P:=P) w w.heap.size t u ty e i ht hu hi hz hsize hby (.slice none 0 0) 0 xs ⟨hown.1,.inl ⟨rfl,rfl⟩⟩ s h63 hbytes (Nat.le_refl _);rw [hr] at hr2
  injection hr2 with e1 e2
  subst e1 e2;exact fun k hk=>.inr (h4.lt k hk).1
 ·by_cases hroom:n+s.size≤cap
  ·have hr2:=Lib.run_append_room_string (P:=P) w t u ty e i ht hu hi hsize g n cap cur hg s hroom (by omega)
   rw [hr] at hr2
   injection hr2 with e1 e2
   subst e1;exact fun k hk=>.inl hk
  ·have holds:∀j u,xs[j]?=some u→w.cell? ((⟨g,0,none⟩:Addr).add j)=some u:=hown.cells (g:=g) rfl;have hr2:=Lib.run_append_grow_string (P:=P) w t u ty e i (.int .u8 0) ht hu hi hz ⟨g,0,none⟩ n cap xs (by rw [hsize];simpa using hown.1) holds s (by omega) (by unfold maxLen at h63;omega) (by rw [hby];exact growslice_fits (by omega) (by omega))
   rw [hr] at hr2
   injection hr2 with e1 e2
   subst e1;intro k hk;simp only [Value.ownBlock,Option.some.injEq] at hk;exact .inr (by omega)
theorem strCells_eq (s:ByteArray):Lib.strCells s=cellsU s.data.toList:=rfl
theorem wpList_append_string_near {P:Program} (w:World) {ops:Array Oper} {rest:List Oper} {o:Oper} {a:Act} {Q:Exit→Act→World→Prop} (hgd:o.guard=none) (sl x:Operand) (t u:TypeId)
  (ho:o.op=.call { callee:=.builtin .append,args:=#[sl,x],argTypes:=#[t,u] })
  (e:TypeId) (i:TypeInfo) (ht:P.underlying t=some (.slice e)) (hu:P.underlying u=some .string) (hi:P.info? e=some i) (hz:i.zero=some (.int .u8 0))
  (hsize:i.size=1) (hby:i.bytes=1)
  (v:Value) (n:Nat) (xs:List Value) (hs:a.eval sl=v) (hown:w.ownsRow 0 e 1 v n xs) (s:ByteArray) (hx:a.eval x=.string s)
  (h63:n+s.size≤maxLen) (hbytes:n+s.size≤140737488355328)
  (h:∀v' w',w'.ownsRow 0 e 1 v' (n+s.size) (xs++Lib.strCells s)→w.grownBy w' v.ownBlock→Near w v v'→wpList P ops Q rest (a.put o.dst v') w'):wpList P ops Q (o::rest) a w:=by
 refine wpList_plain hgd fun K hK=>?_
 obtain ⟨v',w',hr,h2,h3,h4⟩:=run_append_string_near (P:=P) w t u o.type e i ht hu hi hz hsize hby v n xs hown s h63 hbytes;unfold Oper.wp execOp;simp only [ho,resolve,invoke,builtin,Sem.run_bind,Sem.run_pure,Result.andThen_ok,List.map_toArray,List.map_cons,List.map_nil,hs,hx,hr];exact hK _ _ (h v' w' h2 h3 h4)
theorem WrRaw.moreS {w w1:World} {b:Nat} {v v':Value} {bs:List UInt8} {f:Int} {s:ByteArray} (h:WrRaw w b v bs f) (hg:w.grownBy w1 v.ownBlock) (hn:Near w v v')
  (ho:w1.ownsRow 0 5 1 v' (bs.length+s.size) (cellsU bs++Lib.strCells s)) :
  ∃ao nn cap,v'=.slice ao nn cap∧w1.cell? ⟨b,0,none⟩=some v∧w1.frozen? ⟨b,0,none⟩=false ∧
   WrRaw (w1.setCell ⟨b,0,none⟩ v') b v' (bs++s.data.toList) f∧But b v w (w1.setCell ⟨b,0,none⟩ v'):=by
 have e1:(bs++s.data.toList).length=bs.length+s.size:=by simp
 have e2:cellsU (bs++s.data.toList)=cellsU bs++Lib.strCells s:=by rw [strCells_eq];simp [cellsU]
 obtain ⟨h2,b2⟩:=h.appended (bs':=bs++s.data.toList) hg hn (by rw [e1,e2];exact ho)
 have hb:w1.heap[b]?=w.heap[b]?:=hg.block b h.lt (fun e=>h.ne e.symm)
 obtain ⟨c0,_,f0,_⟩:=h.cells
 obtain ⟨ao,nn,cap,rfl⟩:∃ao nn cap,v'=.slice ao nn cap:=by
  rcases ho.2 with ⟨rfl,_⟩ | ⟨g,cap,cur,rfl,_⟩
  ·exact ⟨_,_,_,rfl⟩
  ·exact ⟨_,_,_,rfl⟩
 refine ⟨ao,nn,cap,rfl,?_,?_,h2,b2⟩
 ·rw [World.cell?_of_block (a:=⟨b,0,none⟩) hb];exact c0
 ·rw [World.frozen?_of_block (a:=⟨b,0,none⟩) hb];exact f0
theorem wbytes_any (b:Nat) (v:Value) (l:List Bool) (s:ByteArray) (w:World) (h:WrAt w b v l) (hm:l.length≤1099511627776) (hs:s.size≤1099511627776) :
  Calls Tryz.prog 74 #[.pointer (some ⟨b,0,none⟩),.string s] w fun r w'=>r=.returned (.tuple #[]) ∧
   ∃v',WrAt w' b v' (pad l++tbits s.data.toList)∧But b v w w'∧Near w v v':=by
 obtain ⟨i0,hi,hz0,hz1,hz2⟩:=info_parts info_u8;have hpl:=pack_length l
 have key:pack (pad l++tbits s.data.toList)=pack l++s.data.toList:=by
  rw [pack_append ((pad l).length/8) _ _ (by have:=pad_mod l;omega),pack_pad,pack_tbits]
 have kf:fre (pad l++tbits s.data.toList)=0:=fre_zero (by rw [List.length_append,tbits_length];have:=pad_mod l;omega)
 have KEY:=hid (And.intro key kf);clear key kf
 go_enter Tryz.func74,Tryz.ntmps74
 go_wp2_with fail
 refine (align_any _ _ _ _ h).mono ?_;rintro r w1 ⟨rfl,h1,b1⟩
 have h1':WrRaw w1 b v (pack l) 0:=by
  have:=h1
  unfold WrAt at this;rw [pack_pad,fre_zero (pad_mod l)] at this;exact this
 obtain ⟨c0,c1,f0,f1⟩:=h1'.cells;have hown:=h1'.own;have H1:=hid h1';have B1:=hid b1;clear h h1 b1 h1'
 go_wp2_with (at_builtin;refine wpList_append_string_near _ rfl _ _ 68 9 rfl 5 i0 Tryz.underlying68 Tryz.underlying9 hi hz0 hz1 hz2 v (pack l).length (cellsU (pack l)) rfl hown s rfl (by unfold maxLen;omega) (by omega) ?_;intro v' w2 ho hg hn;obtain ⟨ao,nn,cap,rfl,c3,f3,h3,b3⟩:=H1.out.moreS hg hn ho;clear hown ho hg c0 c1 f0 f1 hi hz0 hz1 hz2;have H3:=hid h3;have B3:=hid b3;have N3:=hid hn;clear h3 b3 hn)
 go_end0;refine ⟨rfl,.slice ao nn cap,?_,B1.out.trans (Near.refl _ _) B3.out,?_⟩
 ·unfold WrAt;rw [KEY.out.1,KEY.out.2];exact H3.out
 ·intro k hk;rcases N3.out k hk with h | h
  ·exact .inl h
  ·have:=B1.out.size;exact .inr (by omega)
end Go.Proofs.YthbjllabgpaaaaaGreat.Bit
namespace Go.Proofs.YthbjllabgpaaaaaGreat.Bit
open Go.Lib (hid)
set_option maxHeartbeats 2000000
open Go.ChangeShapes Go.WideShapes Go.ChangeAt Go.RowKit
set_option linter.unusedVariables false
def errI (bad:Bool):Int:=if bad then 2 else 0
def tb (t:ByteArray):List Bool:=tbits t.data.toList
theorem tb_length (t:ByteArray):(tb t).length=8*t.size:=by unfold tb;rw [tbits_length];simp
def RdAt (T:TypeId) (w:World) (b:Nat) (t:ByteArray) (i:Nat) (bad:Bool):Prop:=w.heap[b]?=some (.cells #[.string t,.int .i64 i,.int .i64 (errI bad)] T (0,0))
theorem RdAt.lt {T:TypeId} {w:World} {b:Nat} {t:ByteArray} {i:Nat} {e:Bool} (h:RdAt T w b t i e):b<w.heap.size:=(Array.getElem?_eq_some_iff.1 h).1
theorem RdAt.cells {T:TypeId} {w:World} {b:Nat} {t:ByteArray} {i:Nat} {e:Bool} (h:RdAt T w b t i e) :
  w.cell? ⟨b,0,none⟩=some (.string t)∧w.cell? ⟨b,1,none⟩=some (.int .i64 i)∧w.cell? ⟨b,2,none⟩=some (.int .i64 (errI e))∧w.frozen? ⟨b,1,none⟩=false∧w.frozen? ⟨b,2,none⟩=false:=by
 unfold RdAt at h;refine ⟨?_,?_,?_,?_,?_⟩
 ·rw [cell_of_row w b 0 _ _ _ h];rfl
 ·rw [cell_of_row w b 1 _ _ _ h];rfl
 ·rw [cell_of_row w b 2 _ _ _ h];rfl
 ·exact frozen_of_row w b 1 _ _ h
 ·exact frozen_of_row w b 2 _ _ h
theorem RdAt.set1 {T:TypeId} {w:World} {b:Nat} {t:ByteArray} {i:Nat} {e:Bool} (h:RdAt T w b t i e) (j:Nat):RdAt T (w.setCell ⟨b,1,none⟩ (.int .i64 j)) b t j e:=by
 unfold RdAt at *;rw [heap_setCell_same w b 1 _ T _ h];rfl
theorem RdAt.set2 {T:TypeId} {w:World} {b:Nat} {t:ByteArray} {i:Nat} {e:Bool} (h:RdAt T w b t i e):RdAt T (w.setCell ⟨b,2,none⟩ (.int .i64 2)) b t i true:=by
 unfold RdAt at *;rw [heap_setCell_same w b 2 _ T _ h];rfl
theorem RdAt.kept {T:TypeId} {w w':World} {b:Nat} {t:ByteArray} {i:Nat} {e:Bool} {row:Option Nat} (h:RdAt T w b t i e) (hg:w.grownBy w' row) (hr:some b≠row):RdAt T w' b t i e:=by
 unfold RdAt at *;rw [hg.block b (RdAt.lt h) hr];exact h
theorem rgrown_set (w:World) (b o:Nat) (v:Value):w.grownBy (w.setCell ⟨b,o,none⟩ v) (some b):=
 ⟨rfl,rfl,rfl,by simp,fun k _ hk=>heap_setCell_other w ⟨b,o,none⟩ k v (fun e=>hk (by simp [e]))⟩
theorem rgrown_drewN {w w':World} {row:Option Nat} (h:w.grownBy w' row) (n:Nat):w.grownBy (w'.drewN n) row:=⟨h.os,h.tape,h.output,h.size,h.block⟩
theorem rgrown_from_drewN {w w':World} {row:Option Nat} {n:Nat} (h:(w.drewN n).grownBy w' row):w.grownBy w' row:=⟨h.os,h.tape,h.output,h.size,h.block⟩
theorem rgrown_trans {a b c:World} {row:Option Nat} (h:a.grownBy b row) (k:b.grownBy c row):a.grownBy c row:=
 ⟨k.os.trans h.os,k.tape.trans h.tape,k.output.trans h.output,Nat.le_trans h.size k.size,fun i hi hr=>(k.block i (Nat.lt_of_lt_of_le hi h.size) hr).trans (h.block i hi hr)⟩
def rOk (T:List Bool) (i:Nat) (bad:Bool) (k:Nat):Bool:=!bad&&decide (k≤T.length-i)
def rV (T:List Bool) (i:Nat) (bad:Bool) (k:Nat):Nat:=if rOk T i bad k then num ((T.drop i).take k) else 0
def rI (T:List Bool) (i:Nat) (bad:Bool) (k:Nat):Nat:=if rOk T i bad k then i+k else i
theorem rI_le {T:List Bool} {i:Nat} {bad:Bool} {k:Nat} (h:i≤T.length):rI T i bad k≤T.length:=by
 unfold rI
 by_cases h1:rOk T i bad k=true
 ·rw [if_pos h1];unfold rOk at h1;simp at h1;omega
 ·rw [if_neg h1];exact h
theorem rnew_any (t:ByteArray) (w:World) :
  Calls Tryz.prog 58 #[.string t] w fun r w'=>r=.returned (.pointer (some ⟨w.heap.size,0,none⟩))∧RdAt 107 w' w.heap.size t 0 false∧Below w.heap.size w w':=by
 go_enter Tryz.func58,Tryz.ntmps58
 go_wp2
 go_ret;refine ⟨rfl,?_,(Below.refl _ _).alloc (Nat.le_refl _) _⟩;unfold RdAt;exact heap_alloc_new _ _
theorem rat_any (b:Nat) (t:ByteArray) (i:Nat) (e:Bool) (w:World) (h:RdAt 107 w b t i e) :
  Calls Tryz.prog 62 #[.pointer (some ⟨b,0,none⟩)] w fun r w'=>r=.returned (.int .i64 i)∧w=w':=by
 obtain ⟨c0,c1,c2,f1,f2⟩:=h.cells;clear h
 go_enter Tryz.func62,Tryz.ntmps62
 go_wp2
 go_ret;exact ⟨rfl,rfl⟩
theorem rerr_any (b:Nat) (t:ByteArray) (i:Nat) (e:Bool) (w:World) (h:RdAt 107 w b t i e) :
  Calls Tryz.prog 94 #[.pointer (some ⟨b,0,none⟩)] w fun r w'=>r=.returned (.int .i64 (errI e))∧w=w':=by
 obtain ⟨c0,c1,c2,f1,f2⟩:=h.cells;clear h
 go_enter Tryz.func94,Tryz.ntmps94
 go_wp2
 go_ret;exact ⟨rfl,rfl⟩
theorem rleft_any (b:Nat) (t:ByteArray) (i:Nat) (e:Bool) (w:World) (h:RdAt 107 w b t i e) (hi:i≤(tb t).length) (ht:t.size≤1099511627776) :
  Calls Tryz.prog 34 #[.pointer (some ⟨b,0,none⟩)] w fun r w'=>r=.returned (.int .i64 ((tb t).length-i:Nat))∧∃n,w'=w.drewN n:=by
 obtain ⟨c0,c1,c2,f1,f2⟩:=h.cells;clear h;rw [tb_length] at *;have k1:IntKind.i64.wrap (8*(t.size:Int))=8*t.size:=IntWalk.i64_in _ (by omega)
 have k2:IntKind.i64.wrap (8*(t.size:Int)-i)=((8*t.size-i:Nat):Int):=by rw [show 8*(t.size:Int)-i=((8*t.size-i:Nat):Int) by omega];exact IntWalk.i64_in _ (by omega)
 go_enter Tryz.func34,Tryz.ntmps34
 go_wp2
 go_quiet (fail)
 go_wp2
 go_ret;exact ⟨rfl,_,rfl⟩
theorem can_any (b:Nat) (t:ByteArray) (i:Nat) (e ok:Bool) (w:World) (h:RdAt 107 w b t i e) :
  Calls Tryz.prog 112 #[.pointer (some ⟨b,0,none⟩),.bool ok] w fun r w'=>r=.returned (.bool (ok&&!e))∧RdAt 107 w' b t i (!(ok&&!e))∧w.grownBy w' (some b):=by
 obtain ⟨c0,c1,c2,f1,f2⟩:=h.cells;have H:=hid h;clear h
 cases ok with
 | false=>
  go_enter Tryz.func112,Tryz.ntmps112
  go_wp2
  go_ret;exact ⟨rfl,H.out.set2,rgrown_set _ _ _ _⟩
 | true=>
  cases e with
  | false=>
   have c3:w.cell? ⟨b,2,none⟩=some (.int .i64 0):=c2;clear c2
   go_enter Tryz.func112,Tryz.ntmps112
   go_wp2
   go_ret;exact ⟨rfl,H.out,World.grownBy.refl _ _⟩
  | true=>
   have c3:w.cell? ⟨b,2,none⟩=some (.int .i64 2):=c2;clear c2
   go_enter Tryz.func112,Tryz.ntmps112
   go_wp2
   go_ret;exact ⟨rfl,H.out,World.grownBy.refl _ _⟩
def tat (T:List Bool) (i:Nat):Bool:=T[i]?.getD false
theorem tat_tb (t:ByteArray) (i:Nat) (hi:i<8*t.size):tat (tb t) i=ibit ((t[i/8]'(by omega)).toNat:Int) (i%8):=by
 unfold tat tb;have h:i/8<t.data.toList.length:=by simp;omega
 rw [tbits_get,List.getElem?_eq_getElem h]
 rfl
theorem peek_any (b:Nat) (t:ByteArray) (i j:Nat) (e:Bool) (w:World) (h:RdAt 107 w b t i e) (hj:j<(tb t).length) (ht:t.size≤1099511627776) :
  Calls Tryz.prog 113 #[.pointer (some ⟨b,0,none⟩),.int .i64 j] w fun r w'=>r=.returned (.int .i64 (tat (tb t) j).toNat)∧w=w':=by
 obtain ⟨c0,c1,c2,f1,f2⟩:=h.cells;clear h;have hlen:=tb_length t;have hj':j<8*t.size:=by omega
 have hat:=tat_tb t j hj';have hlt:j/8<t.size:=by omega
 have e1:((j:Int)).tdiv 8=((j/8:Nat):Int):=by rw [Int.tdiv_eq_ediv_of_nonneg (by omega)];omega
 have e2:((j:Int)).tmod 8=((j%8:Nat):Int):=by rw [Int.tmod_eq_emod_of_nonneg (by omega)];omega
 have HAT:=hid hat;have hb:=(t[j/8]'hlt).toNat_lt;clear hat hlen hj e1 e2
 go_enter Tryz.func113,Tryz.ntmps113
 go_wp2_with fail
 refine (bit_any _ (j%8) (by omega) _).mono ?_
 rintro r w' ⟨rfl,rfl⟩
 go_wp2_with fail
 go_ret;exact ⟨by rw [HAT.out];rfl,rfl⟩
theorem take_range (T:List Bool) (i k:Nat) (h:i+k≤T.length):(T.drop i).take k=(List.range k).map fun j=>tat T (i+j):=by
 apply List.ext_getElem?
 intro j
 by_cases hj:j<k
 ·rw [List.getElem?_take_of_lt hj,List.getElem?_drop];simp only [List.getElem?_map,List.getElem?_range hj,Option.map_some,tat];rw [List.getElem?_eq_getElem (by omega)]
  rfl
 ·rw [List.getElem?_eq_none (by simp;omega),List.getElem?_eq_none (by simp;omega)]
theorem rbits_any (b:Nat) (t:ByteArray) (i:Nat) (e:Bool) (n:Int) (w:World) (h:RdAt 107 w b t i e) (hi:i≤(tb t).length) (ht:t.size≤1099511627776) :
  Calls Tryz.prog 93 #[.pointer (some ⟨b,0,none⟩),.int .i64 n] w fun r w'=>r=.returned (.int .i64 (rV (tb t) i e (cnt n))) ∧
   RdAt 107 w' b t (rI (tb t) i e (cnt n)) (!rOk (tb t) i e (cnt n))∧w.grownBy w' (some b):=by
 have hle:=cnt_le n;have hL:(tb t).length≤8796093022208:=by rw [tb_length];omega
 generalize hn:cnt n=m at *;have HN:=hid hn;clear hn;have hdec:decide ((m:Int)≤(((tb t).length-i:Nat):Int))=decide (m≤(tb t).length-i):=by simp
 by_cases hok:rOk (tb t) i e m=true
 ·have e1:rV (tb t) i e m=num ((List.range m).map fun j=>tat (tb t) (i+j)):=by
   unfold rV;rw [if_pos hok,take_range];unfold rOk at hok;simp at hok;omega
  have e2:rI (tb t) i e m=i+m:=by unfold rI;rw [if_pos hok]
  have hm:i+m≤(tb t).length:=by unfold rOk at hok;simp at hok;omega
  have hd:decide (m≤(tb t).length-i)=true:=by unfold rOk at hok;simp at hok;simp;omega
  have he:e=false:=by unfold rOk at hok;simp at hok;exact hok.1
  subst he;rw [e1,e2,hok];clear e1 e2 hok
  go_enter Tryz.func93,Tryz.ntmps93
  go_wp2_with fail
  refine (within_any _ _).mono ?_;rintro r w' ⟨rfl,rfl⟩;rw [HN.out]
  go_wp2_with fail
  refine (rleft_any _ _ _ _ _ h hi ht).mono ?_;rintro r w' ⟨rfl,nd,rfl⟩
  go_wp2_with fail
  refine (can_any _ _ _ _ _ _ (show RdAt _ (w.drewN nd) b t i false from h)).mono ?_
  rintro r w1 ⟨rfl,h1,g1⟩;have g1':=rgrown_from_drewN g1;clear h g1 hdec;have h1':RdAt 107 w1 b t i false:=h1;clear h1;have H1:=hid h1';have G1:=hid g1';obtain ⟨c0,c1,c2,f1,f2⟩:=h1'.cells;clear h1' g1' hd
  go_wp2_with fail
  go_loop [5,17] (fun v k=>∃j:Nat,j≤m∧k=.int .i64 j∧v=.int .i64 (num ((List.range j).map fun a=>tat (tb t) (i+a)):Nat)) (fun _ k=>m-(intOf k).toNat)
  case atStart=>exact ⟨0,Nat.zero_le _,rfl,rfl⟩
  case round=>
   obtain ⟨j,hj,rfl,rfl⟩:=hrel
   by_cases hlt:j<m
   ·have HS:=hid (or_step (fun a=>tat (tb t) (i+a)) j (by omega))
    generalize num ((List.range j).map fun a=>tat (tb t) (i+a))=x at *
    go_wp2_with fail
    rw [show (i:Int)+(j:Int)=((i+j:Nat):Int) by omega]
    refine (peek_any b t i (i+j) false _ H1.out (by omega) ht).mono ?_
    rintro r w' ⟨rfl,rfl⟩;generalize tat (tb t) (i+j)=bb at *;have b0:(0:Int)≤(bb.toNat:Int):=by omega
    have b1:(bb.toNat:Int)≤1:=by cases bb <;> simp
    go_wp2_with fail
    refine ⟨⟨j+1,by omega,by go_num,?_⟩,by simp [intOf];omega⟩
    rw [←HS.out,shl_in _ _ (by omega)]
   ·obtain rfl:j=m:=by omega
    go_wp2_with fail
    go_ret;refine ⟨rfl,?_,rgrown_trans G1.out (rgrown_set _ _ _ _)⟩;exact H1.out.set1 (i+j)
 ·have hok':rOk (tb t) i e m=false:=by simpa using hok
  have e1:rV (tb t) i e m=0:=by unfold rV;rw [if_neg hok]
  have e2:rI (tb t) i e m=i:=by unfold rI;rw [if_neg hok]
  have hx:(decide (m≤(tb t).length-i)&&!e)=false:=by rw [←hok'];unfold rOk;rw [Bool.and_comm]
  rw [e1,e2,hok'];have HX:=hid hx;clear e1 e2 hok hok' hx
  go_enter Tryz.func93,Tryz.ntmps93
  go_wp2_with fail
  refine (within_any _ _).mono ?_;rintro r w' ⟨rfl,rfl⟩;rw [HN.out]
  go_wp2_with fail
  refine (rleft_any _ _ _ _ _ h hi ht).mono ?_;rintro r w' ⟨rfl,nd,rfl⟩
  go_wp2_with fail
  refine (can_any _ _ _ _ _ _ (show RdAt _ (w.drewN nd) b t i e from h)).mono ?_
  rintro r w1 ⟨rfl,h1,g1⟩;rw [HX.out] at h1 ⊢;have H1:=hid h1;have G1:=hid (rgrown_from_drewN g1);clear h g1 h1 hdec
  go_wp2_with fail
  go_ret;exact ⟨rfl,H1.out,G1.out⟩
def gap (i:Nat):Nat:=(8-i%8)%8
theorem cnt_nat (k:Nat) (h:k≤32):cnt (k:Int)=k:=by unfold cnt;omega
end Go.Proofs.YthbjllabgpaaaaaGreat.Bit
namespace Go.Proofs.YthbjllabgpaaaaaGreat.Bit
open Go.Lib (hid)
set_option maxHeartbeats 2000000
open Go.ChangeShapes Go.WideShapes Go.ChangeAt Go.RowKit
set_option linter.unusedVariables false
theorem ralign_any (b:Nat) (t:ByteArray) (i:Nat) (e:Bool) (w:World) (h:RdAt 107 w b t i e) (hi:i≤(tb t).length) (ht:t.size≤1099511627776) :
  Calls Tryz.prog 132 #[.pointer (some ⟨b,0,none⟩)] w fun r w'=>r=.returned (.int .i64 (rV (tb t) i e (gap i))) ∧
   RdAt 107 w' b t (rI (tb t) i e (gap i)) (!rOk (tb t) i e (gap i))∧w.grownBy w' (some b):=by
 have hlen:=tb_length t
 have e1:((((tb t).length-i:Nat):Int)).tmod 8=((gap i:Nat):Int):=by
  rw [Int.tmod_eq_emod_of_nonneg (by omega)];unfold gap;omega
 have e0:(((tb t).length-i:Nat):Int)%8=((gap i:Nat):Int):=by unfold gap;omega
 have hg:gap i≤32:=by unfold gap;omega
 have hc:=cnt_nat (gap i) hg;have HC:=hid hc;clear hc hlen
 go_enter Tryz.func132,Tryz.ntmps132
 go_wp2_with fail
 refine (rleft_any _ _ _ _ _ h hi ht).mono ?_;rintro r w' ⟨rfl,nd,rfl⟩
 go_wp2_with fail
 refine (rbits_any _ _ _ _ _ _ (show RdAt _ (w.drewN nd) b t i e from h) hi ht).mono ?_
 rintro r w1 ⟨rfl,h1,g1⟩;rw [HC.out] at h1 ⊢;have H1:=hid h1;have G1:=hid (rgrown_from_drewN g1);clear h h1 g1
 go_wp2_with fail
 go_ret;exact ⟨rfl,H1.out,G1.out⟩
def yOk (T:List Bool) (i:Nat) (bad:Bool) (n:Int):Bool:=!bad&&decide (max n 0≤(((T.length-i)/8:Nat):Int))
def yS (t:ByteArray) (i:Nat) (bad:Bool) (n:Int):ByteArray:=if yOk (tb t) i bad n then t.extract ((i+7)/8) ((i+7)/8+n.toNat) else ⟨#[]⟩
def yI (T:List Bool) (i:Nat) (bad:Bool) (n:Int):Nat:=if yOk T i bad n then 8*((i+7)/8+n.toNat) else i
theorem yI_le {t:ByteArray} {i:Nat} {bad:Bool} {n:Int} (h:i≤(tb t).length):yI (tb t) i bad n≤(tb t).length:=by
 have hl:=tb_length t;unfold yI
 by_cases h1:yOk (tb t) i bad n=true
 ·rw [if_pos h1];unfold yOk at h1;simp at h1;omega
 ·rw [if_neg h1];exact h
theorem rbytes_any (b:Nat) (t:ByteArray) (i:Nat) (e:Bool) (n:Int) (w:World) (h:RdAt 107 w b t i e) (hi:i≤(tb t).length) (ht:t.size≤1099511627776) :
  Calls Tryz.prog 133 #[.pointer (some ⟨b,0,none⟩),.int .i64 n] w fun r w'=>r=.returned (.string (yS t i e n)) ∧
   RdAt 107 w' b t (yI (tb t) i e n) (!yOk (tb t) i e n)∧w.grownBy w' (some b):=by
 have hlen:=tb_length t;obtain ⟨k,hk,hk0⟩:∃k:Nat,(k:Int)=max n 0∧n.toNat=k:=⟨n.toNat,by omega,rfl⟩
 obtain ⟨Q,hQ⟩:∃Q,((tb t).length-i)/8=Q:=⟨_,rfl⟩
 have e1:((((tb t).length-i:Nat):Int)).tdiv 8=(Q:Int):=by
  rw [Int.tdiv_eq_ediv_of_nonneg (by omega)];omega
 have e0:(((tb t).length-i:Nat):Int)/8=(Q:Int):=by omega
 by_cases hok:yOk (tb t) i e n=true
 ·have hq:e=false∧k≤Q:=by
   unfold yOk at hok;rw [←hk,hQ] at hok;simp only [Bool.and_eq_true,Bool.not_eq_true',decide_eq_true_eq] at hok;exact ⟨hok.1,by omega⟩
  obtain ⟨rfl,hq⟩:=hq;have r1:rOk (tb t) i false (gap i)=true:=by unfold rOk gap;simp;omega
  have r2:rI (tb t) i false (gap i)=8*((i+7)/8):=by unfold rI;rw [if_pos r1];unfold gap;omega
  have s1:yS t i false n=t.extract ((i+7)/8) ((i+7)/8+k):=by unfold yS;rw [if_pos hok,hk0]
  have s2:yI (tb t) i false n=8*((i+7)/8+k):=by unfold yI;rw [if_pos hok,hk0]
  rw [s1,s2,hok];have hf:(i+7)/8+k≤t.size:=by omega
  obtain ⟨f,hff⟩:∃f,(i+7)/8=f:=⟨_,rfl⟩;rw [hff] at hf r2 ⊢;have R:=hid (And.intro r1 r2);have FF:=hid hff;clear s1 s2 hok r1 r2 hff;have ed:decide ((k:Int)≤(Q:Int))=true:=by simp;omega
  have hL:(tb t).length≤8796093022208:=by omega
  have hfm:(f:Int)+k≤1099511627776:=by omega
  clear hk0;have K:=hid hk;clear hlen hk hQ;rcases (show n<0∨0≤n by omega) with hneg | hneg
  ·have k0:Hid ((0:Int)=(k:Int)):=by rw [Hid,K.out];omega
   go_enter Tryz.func133,Tryz.ntmps133
   go_wp2_with fail
   rw [k0.out];refine (rleft_any _ _ _ _ _ h hi ht).mono ?_;rintro r w' ⟨rfl,nd,rfl⟩;clear hneg
   go_wp2_with fail
   refine (can_any _ _ _ _ _ _ (show RdAt _ (w.drewN nd) b t i false from h)).mono ?_
   rintro r w1 ⟨rfl,h1,g1⟩;have h1':RdAt 107 w1 b t i false:=h1;have G1:=hid (rgrown_from_drewN g1);clear h h1 g1
   go_wp2_with fail
   refine (ralign_any _ _ _ _ _ h1' hi ht).mono ?_;rintro r w2 ⟨rfl,h2,g2⟩;rw [R.out.1,R.out.2] at h2;have h2':RdAt 107 w2 b t (8*f) false:=h2;obtain ⟨c0,c1,c2,f1,f2⟩:=h2'.cells;have H2:=hid h2';have G2:=hid (rgrown_trans G1.out g2);clear h1' h2 g2 h2'
   go_wp2
   go_ret;refine ⟨rfl,?_,rgrown_trans G2.out (rgrown_set _ _ _ _)⟩;have hh:=H2.out.set1 (8*(f+k));rw [show ((8*(f+k):Nat):Int)=8*f+8*k by omega] at hh
   exact hh
  ·obtain rfl:n=k:=by have:=K.out;omega
   go_enter Tryz.func133,Tryz.ntmps133
   go_wp2_with fail
   refine (rleft_any _ _ _ _ _ h hi ht).mono ?_;rintro r w' ⟨rfl,nd,rfl⟩;clear hneg
   go_wp2_with fail
   refine (can_any _ _ _ _ _ _ (show RdAt _ (w.drewN nd) b t i false from h)).mono ?_
   rintro r w1 ⟨rfl,h1,g1⟩;have h1':RdAt 107 w1 b t i false:=h1;have G1:=hid (rgrown_from_drewN g1);clear h h1 g1
   go_wp2_with fail
   refine (ralign_any _ _ _ _ _ h1' hi ht).mono ?_;rintro r w2 ⟨rfl,h2,g2⟩;rw [R.out.1,R.out.2] at h2;have h2':RdAt 107 w2 b t (8*f) false:=h2;obtain ⟨c0,c1,c2,f1,f2⟩:=h2'.cells;have H2:=hid h2';have G2:=hid (rgrown_trans G1.out g2);clear h1' h2 g2 h2'
   go_wp2
   go_ret;refine ⟨rfl,?_,rgrown_trans G2.out (rgrown_set _ _ _ _)⟩;have hh:=H2.out.set1 (8*(f+k));rw [show ((8*(f+k):Nat):Int)=8*f+8*k by omega] at hh
   exact hh
 ·have hok':yOk (tb t) i e n=false:=by simpa using hok
  have s1:yS t i e n=⟨#[]⟩:=by unfold yS;rw [if_neg hok]
  have s2:yI (tb t) i e n=i:=by unfold yI;rw [if_neg hok]
  have hdec:decide ((k:Int)≤(Q:Int))=decide (k≤Q):=by simp
  have hx:(decide (k≤Q)&&!e)=false:=by
   rw [←hok'];unfold yOk;rw [hQ,←hk,hdec,Bool.and_comm]
  rw [s1,s2,hok'];have hQ2:Q≤1099511627776:=by omega
  have HX:=hid hx;have K:=hid hk;clear s1 s2 hok hok' hx hk hk0 hQ hlen;rcases (show n<0∨0≤n by omega) with hneg | hneg
  ·have k0:Hid ((0:Int)=(k:Int)):=by rw [Hid,K.out];omega
   go_enter Tryz.func133,Tryz.ntmps133
   go_wp2_with fail
   rw [k0.out];refine (rleft_any _ _ _ _ _ h hi ht).mono ?_;rintro r w' ⟨rfl,nd,rfl⟩;clear hneg
   go_wp2_with fail
   refine (can_any _ _ _ _ _ _ (show RdAt _ (w.drewN nd) b t i e from h)).mono ?_
   rintro r w1 ⟨rfl,h1,g1⟩;rw [HX.out] at h1 ⊢;have H1:=hid h1;have G1:=hid (rgrown_from_drewN g1);clear h h1 g1 hdec
   go_wp2_with fail
   go_ret;exact ⟨rfl,H1.out,G1.out⟩
  ·obtain rfl:n=k:=by have:=K.out;omega
   go_enter Tryz.func133,Tryz.ntmps133
   go_wp2_with fail
   refine (rleft_any _ _ _ _ _ h hi ht).mono ?_;rintro r w' ⟨rfl,nd,rfl⟩;clear hneg
   go_wp2_with fail
   refine (can_any _ _ _ _ _ _ (show RdAt _ (w.drewN nd) b t i e from h)).mono ?_
   rintro r w1 ⟨rfl,h1,g1⟩;rw [HX.out] at h1 ⊢;have H1:=hid h1;have G1:=hid (rgrown_from_drewN g1);clear h h1 g1 hdec
   go_wp2_with fail
   go_ret;exact ⟨rfl,H1.out,G1.out⟩
end Go.Proofs.YthbjllabgpaaaaaGreat.Bit
