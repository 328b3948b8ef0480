/-
  Texts in one: SymMath, SymNum, SymNumB, SymRefN, SymFix, SymCount, SymCountR, SymPut, SymWrite, SymReadM, SymRead, SymReadB, SymEval, SymWorks, SymSame, SymSameT.
-/
import Derived.WalkKit
import Derived.ProofKit
import Derived.IntWalk
import Derived.Lib.Hide
import Derived.Test.YthbjllabgpaaaaaGreatAllLz
import Derived.Test.YthbjllabgpaaaaaGreatAllHuf
import Derived.Test.YthbjllabgpaaaaaGreatAllRf
import Derived.Shelf.Abstract
import Derived.Laws.ResultCell
namespace Go.Proofs.YthbjllabgpaaaaaGreat.Sym
open Go.Lib (hid)
set_option maxHeartbeats 8000000
set_option linter.unusedVariables false
def bt (k i:Nat):Nat:=i/k-1
def bs (a k:Nat):Nat→Nat
 | 0=>a
 | i+1=>bs a k i+2^bt k i
theorem bs_up (a k i:Nat):bs a k i<bs a k (i+1):=by have:=Nat.two_pow_pos (bt k i);show bs a k i<bs a k i+_;omega
theorem bs_mono (a k i:Nat):∀d,bs a k i≤bs a k (i+d)
 | 0=>Nat.le_refl _
 | d+1=>by have h1:=bs_mono a k i d;have h2:=bs_up a k (i+d);show bs a k i≤bs a k (i+d+1);omega
theorem bs_le {a k i j:Nat} (h:i≤j):bs a k i≤bs a k j:=by
 obtain ⟨d,rfl⟩:=Nat.exists_eq_add_of_le h;exact bs_mono a k i d
def LBt:List Nat:=[3,4,5,6,7,8,9,10,11,13,15,17,19,23,27,31,35,43,51,59,67,83,99,115,131,163,195,227,258]
def LXt:List Nat:=[0,0,0,0,0,0,0,0,1,1,1,1,2,2,2,2,3,3,3,3,4,4,4,4,5,5,5,5,0]
def DBt:List Nat:=[1,2,3,4,5,7,9,13,17,25,33,49,65,97,129,193,257,385,513,769,1025,1537,2049,3073,4097,6145,8193,12289,16385,24577]
def DXt:List Nat:=[0,0,0,0,1,1,2,2,3,3,4,4,5,5,6,6,7,7,8,8,9,9,10,10,11,11,12,12,13,13]
def LB (i:Nat):Nat:=LBt.getD i 0
def LX (i:Nat):Nat:=LXt.getD i 0
def DB (i:Nat):Nat:=DBt.getD i 0
def DX (i:Nat):Nat:=DXt.getD i 0
theorem LB_eq:∀i:Fin 28,LB i=bs 3 4 i∧LX i=bt 4 i:=by decide +kernel
theorem DB_eq:∀i:Fin 30,DB i=bs 1 2 i∧DX i=bt 2 i:=by decide +kernel
theorem bs_l:bs 3 4 28=259:=by decide +kernel
theorem bs_d:bs 1 2 30=32769:=by decide +kernel
def lastIx (b:Nat→Nat) (n:Nat):Nat→Nat
 | 0=>0
 | k+1=>if b k≤n then k else lastIx b n k
theorem lastIx_is (b:Nat→Nat) (n i:Nat) (hi:b i≤n):∀c,i<c→(∀k,i<k→k<c→n<b k)→lastIx b n c=i:=by
 intro c
 induction c with
 | zero=>intro h;omega
 | succ c ih=>
  intro hc hk;unfold lastIx
  by_cases h:i=c
  ·subst h;rw [if_pos hi]
  ·rw [if_neg (by have:=hk c (by omega) (by omega);omega)]
   exact ih (by omega) fun k h1 h2=>hk k h1 (by omega)
def li (n:Nat):Nat:=lastIx LB n 29
def di (n:Nat):Nat:=lastIx DB n 30
theorem find_bs (a k n:Nat) (h:a≤n):∀c,n<bs a k c→∃i,i<c∧bs a k i≤n∧n<bs a k (i+1):=by
 intro c
 induction c with
 | zero=>intro h2;exact absurd h2 (by show ¬n<a;omega)
 | succ c ih=>
  intro h2
  by_cases h3:n<bs a k c
  ·obtain ⟨i,h4,h5⟩:=ih h3;exact ⟨i,by omega,h5⟩
  ·exact ⟨c,by omega,by omega,h2⟩
theorem di_is (n i:Nat) (hi:i<30) (h1:bs 1 2 i≤n) (h2:n<bs 1 2 (i+1)):di n=i:=by
 refine lastIx_is DB n i (by rw [(DB_eq ⟨i,hi⟩).1];exact h1) 30 hi fun k h3 h4=>?_
 have e:DB k=bs 1 2 k:=(DB_eq ⟨k,h4⟩).1;rw [e];exact Nat.lt_of_lt_of_le h2 (bs_le h3)
theorem li_is (n i:Nat) (hn:n<258) (hi:i<28) (h1:bs 3 4 i≤n) (h2:n<bs 3 4 (i+1)):li n=i:=by
 refine lastIx_is LB n i (by rw [(LB_eq ⟨i,hi⟩).1];exact h1) 29 (by omega) fun k h3 h4=>?_
 by_cases h:k=28
 ·subst h;exact hn
 ·have e:LB k=bs 3 4 k:=(LB_eq ⟨k,by omega⟩).1
  rw [e];exact Nat.lt_of_lt_of_le h2 (bs_le h3)
theorem li_258:li 258=28:=by decide +kernel
theorem di_spec (n:Nat) (h1:1≤n) (h2:n≤32768):di n<30∧DB (di n)≤n∧n<DB (di n)+2^DX (di n):=by
 obtain ⟨i,hi,a,b⟩:=find_bs 1 2 n h1 30 (by rw [bs_d];omega)
 rw [di_is n i hi a b,(DB_eq ⟨i,hi⟩).1,(DB_eq ⟨i,hi⟩).2];exact ⟨hi,a,b⟩
theorem li_spec (n:Nat) (h1:3≤n) (h2:n≤258):li n<29∧LB (li n)≤n∧n<LB (li n)+2^LX (li n):=by
 by_cases h:n=258
 ·subst h;rw [li_258];decide +kernel
 ·obtain ⟨i,hi,a,b⟩:=find_bs 3 4 n h1 28 (by rw [bs_l];omega)
  rw [li_is n i (by omega) hi a b,(LB_eq ⟨i,hi⟩).1,(LB_eq ⟨i,hi⟩).2]
  exact ⟨by omega,a,b⟩
theorem DX_le:∀i,DX i≤13:=by
 intro i
 by_cases h:i<30
 ·exact (by decide +kernel:∀i:Fin 30,DX i≤13) ⟨i,h⟩
 ·unfold DX;rw [List.getD_eq_getElem?_getD,List.getElem?_eq_none (by show 30≤i;omega)];decide
theorem LX_le:∀i,LX i≤5:=by
 intro i
 by_cases h:i<29
 ·exact (by decide +kernel:∀i:Fin 29,LX i≤5) ⟨i,h⟩
 ·unfold LX;rw [List.getD_eq_getElem?_getD,List.getElem?_eq_none (by show 29≤i;omega)];decide
theorem DB_pos:∀i:Fin 30,1≤DB i∧DB i≤24577:=by decide +kernel
theorem LB_pos:∀i:Fin 29,3≤LB i∧LB i≤258:=by decide +kernel
def lenS (n:Int):Nat×Nat×Nat:=if 3≤n∧n≤258 then (257+li n.toNat,n.toNat-LB (li n.toNat),LX (li n.toNat)) else (0,0,0)
def distS (n:Int):Nat×Nat×Nat:=if 1≤n∧n≤32768 then (di n.toNat,n.toNat-DB (di n.toNat),DX (di n.toNat)) else (0,0,0)
def lenO (s:Int):Nat×Nat:=if 257≤s∧s≤285 then (LB (s.toNat-257),LX (s.toNat-257)) else (0,0)
def distO (s:Int):Nat×Nat:=if 0≤s∧s≤29 then (DB s.toNat,DX s.toNat) else (0,0)
end Go.Proofs.YthbjllabgpaaaaaGreat.Sym
namespace Go.Proofs.YthbjllabgpaaaaaGreat.Sym
open Go.Lib (hid)
set_option maxHeartbeats 8000000
open Go.ChangeShapes Go.WideShapes Go.ChangeAt Go.RowKit
set_option linter.unusedVariables false
def sc (f c a k:Nat):Array Value:=#[.int .i64 f,.int .i64 c,.int .i64 a,.int .i64 k]
theorem bits_any (f c a k i:Nat) (hk:k=4∨k=2) (hi:i≤1000000) (w:World) :
  Calls Tryz.prog 173 #[.agg (sc f c a k),.int .i64 i] w fun e w'=>e=.returned (.int .i64 (bt k i:Nat))∧Below w.heap.size w w':=by
 unfold sc;have e1:max ((i:Int)/4-1) 0=(bt 4 i:Nat):=by unfold bt;omega
 have e2:max ((i:Int)/2-1) 0=(bt 2 i:Nat):=by unfold bt;omega
 have H1:=hid e1;have H2:=hid e2;clear e1 e2;rcases hk with rfl | rfl
 ·go_enter Tryz.func173,Tryz.ntmps173
  go_wp2
  all_goals (go_ret;exact ⟨congrArg Ending.returned (congrArg (Value.int .i64) (by unfold bt;omega)),(Below.refl _ _).alloc (Nat.le_refl _) _⟩)
 ·go_enter Tryz.func173,Tryz.ntmps173
  go_wp2
  all_goals (go_ret;exact ⟨congrArg Ending.returned (congrArg (Value.int .i64) (by unfold bt;omega)),(Below.refl _ _).alloc (Nat.le_refl _) _⟩)
theorem symbol_low (f c a k:Nat) (n:Int) (h:n<a) (w:World) :
  Calls Tryz.prog 165 #[.agg (sc f c a k),.int .i64 n] w fun e w'=>e=.returned (.tuple #[.int .i64 0,.int .i64 0,.int .i64 0])∧Below w.heap.size w w':=by
 unfold sc
 go_enter Tryz.func165,Tryz.ntmps165
 go_wp2
 go_ret3
 exact ⟨rfl,(Below.refl _ _).alloc (Nat.le_refl _) _⟩
theorem sc_cells {w:World} {B f c a k:Nat} {T:TypeId} (h:w.heap[B]?=some (.cells #[.int .i64 f,.int .i64 c,.int .i64 a,.int .i64 k] T (0,0))) :
  w.cell? ⟨B,0,none⟩=some (.int .i64 f)∧w.cell? ⟨B,1,none⟩=some (.int .i64 c)∧w.cell? ⟨B,2,none⟩=some (.int .i64 a)∧w.cell? ⟨B,3,none⟩=some (.int .i64 k):=by
 refine ⟨?_,?_,?_,?_⟩
 ·rw [cell_of_row w _ 0 _ _ _ h];rfl
 ·rw [cell_of_row w _ 1 _ _ _ h];rfl
 ·rw [cell_of_row w _ 2 _ _ _ h];rfl
 ·rw [cell_of_row w _ 3 _ _ _ h];rfl
theorem bs_small {a k:Nat} (hk:k=4∨k=2) (ha:a≤3):∀j,j≤31→bs a k j≤3+j*16384
 | 0,_=>by show a≤_;omega
 | j+1,h=>by
  have h1:=bs_small hk ha j (by omega)
  obtain ⟨P,e1,e2,e3,e4⟩:=(⟨2^bt k j,rfl,rfl,trivial,Nat.le_trans (Nat.pow_le_pow_right (by decide) (show bt k j≤14 by unfold bt;rcases hk with rfl | rfl <;> omega)) (by decide)⟩:∃P:Nat,2^bt k j=P∧P=P∧True∧P≤16384)
  show bs a k j+2^bt k j≤_;omega
theorem bt_le {k i:Nat} (hk:k=4∨k=2) (hi:i≤30):bt k i≤14:=by unfold bt;rcases hk with rfl | rfl <;> omega
theorem pow_lay (q:Nat) (h:q≤14):∃P:Nat,2^q=P∧(2:Int)^q=P∧1≤P∧P≤16384:=
 ⟨2^q,rfl,by push_cast;rfl,Nat.one_le_two_pow,Nat.le_trans (Nat.pow_le_pow_right (by decide) h) (by decide)⟩
theorem symbol_any (f c a k J:Nat) (n r1 r2 r3:Int) (hk:k=4∨k=2) (hf:f≤300) (hc:c≤30) (hn0:a≤n) (hn:n≤9223372036854775807) (hJ:J≤c) (ha:a≤3)
  (h1:∀j,j<J→(bs a k (j+1):Int)≤n) (h2:J<c→n<bs a k (J+1)∧r1=(f+J:Nat)∧r2=n-bs a k J∧r3=bt k J) (h3:J=c→r1=0∧r2=0∧r3=0) (w:World) :
  Calls Tryz.prog 165 #[.agg (sc f c a k),.int .i64 n] w fun e w'=>e=.returned (.tuple #[.int .i64 r1,.int .i64 r2,.int .i64 r3])∧Below w.heap.size w w':=by
 have H1:=hid h1;have H2:=hid h2;have H3:=hid h3;clear h1 h2 h3
 go_enter Tryz.func165,Tryz.ntmps165
 unfold sc;have hwa:IntKind.i64.wrap (n-a)=n-a:=IntWalk.i64_in _ (by omega)
 go_wp2_with fail
 have hB0:(w.alloc (.cells #[.int .i64 f,.int .i64 c,.int .i64 a,.int .i64 k] 190)).heap[w.heap.size]?=some (.cells #[.int .i64 f,.int .i64 c,.int .i64 a,.int .i64 k] 190 (0,0)):=heap_alloc_new _ _;have bb:Below w.heap.size w (w.alloc (.cells #[.int .i64 f,.int .i64 c,.int .i64 a,.int .i64 k] 190)):=(Below.refl _ _).alloc (Nat.le_refl _) _;have hsz:(w.alloc (.cells #[.int .i64 f,.int .i64 c,.int .i64 a,.int .i64 k] 190)).heap.size=w.heap.size+1:=by simp
 generalize w.alloc (.cells #[.int .i64 f,.int .i64 c,.int .i64 a,.int .i64 k] 190)=w1 at *;have hlw:w.heap.size<w1.heap.size:=by omega
 have BB:=hid bb;have HB0:=hid hB0;clear hsz bb hB0;generalize hBw:w.heap.size=B at *;have HBW:=hid hBw;clear hBw
 go_loopw [1,19] (fun v i wr=>∃j,j≤J∧v=.int .i64 (n-bs a k j)∧i=.int .i64 j∧Below w1.heap.size w1 wr) (fun _ i _=>J-(intOf i).toNat)
 case atStart=>exact ⟨0,Nat.zero_le _,rfl,rfl,Below.refl _ _⟩
 case round=>
  obtain ⟨j,hj,rfl,rfl,hbx⟩:=hrel;have hblk:wr.heap[B]?=some (.cells #[.int .i64 f,.int .i64 c,.int .i64 a,.int .i64 k] 190 (0,0)):=(hbx.block B hlw).trans HB0.out;obtain ⟨cb0,cb1,cb2,cb3⟩:=sc_cells hblk;have hmo:=bs_small (a:=a) hk ha j (by omega)
  by_cases hlt:j<J
  ·have hbj:=H1.out j hlt;have hbt:=bt_le (k:=k) (i:=j) hk (by omega)
   have CB:=hid (fun w=>bits_any f c a k j hk (by omega) w)
   unfold sc at CB;have hup:bs a k (j+1)=bs a k j+2^bt k j:=rfl;obtain ⟨P,hP1,hP2,hP3,hP4⟩:=pow_lay _ hbt;rw [hP1] at hup;have hw1:IntKind.i64.wrap P=P:=IntWalk.i64_in _ (by omega)
   have hge:¬(n-bs a k j<P):=by omega
   have hge2:decide (n-bs a k j<(P:Int))=false:=by simp;omega
   have hw2:IntKind.i64.wrap (n-bs a k j-P)=n-bs a k j-P:=IntWalk.i64_in _ (by omega)
   have HX:=hid hbx;clear hbx hbj
   go_wp2_with fail
   refine (CB.out _).mono ?_;rintro r w2 ⟨rfl,b2⟩;have HX2:=hid (HX.out.trans (b2.mono HX.out.size));clear b2 HX
   go_wp2_with fail
   refine ⟨⟨j+1,by omega,?_,by go_num,HX2.out⟩,?_⟩
   ·rw [hup];congr 1;push_cast;omega
   ·simp [intOf];omega
  ·obtain rfl:j=J:=by omega
   by_cases hJc:j<c
   ·obtain ⟨g1,g2,g3,g4⟩:=H2.out hJc;have hbt:=bt_le (k:=k) (i:=j) hk (by omega)
    have CB:=hid (fun w=>bits_any f c a k j hk (by omega) w)
    unfold sc at CB;have hup:bs a k (j+1)=bs a k j+2^bt k j:=rfl;obtain ⟨P,hP1,hP2,hP3,hP4⟩:=pow_lay _ hbt;rw [hP1] at hup;have hw1:IntKind.i64.wrap P=P:=IntWalk.i64_in _ (by omega)
    have hge:n-bs a k j<P:=by omega
    have hge2:decide (n-bs a k j<(P:Int))=true:=by simp;omega
    have hw3:IntKind.i64.wrap ((f:Int)+j)=r1:=by rw [g2];push_cast;exact IntWalk.i64_in _ (by omega)
    have HX:=hid hbx;have G3:=hid g3;have G4:=hid g4;clear hbx g2 g3 g4 g1 hup
    go_wp2_with fail
    refine (CB.out _).mono ?_;rintro r w2 ⟨rfl,b2⟩;have hx2:=HX.out.trans (b2.mono HX.out.size);have hblk2:w2.heap[B]?=some (.cells #[.int .i64 f,.int .i64 c,.int .i64 a,.int .i64 k] 190 (0,0)):=(hx2.block B hlw).trans HB0.out;have hc2:=sc_cells hblk2;have hl2:B<w2.heap.size:=by have:=hx2.size;omega
    have HX2:=hid hx2;have HBL2:=hid hblk2;clear b2 HX hx2 hblk cb0 cb1 cb2 cb3 hblk2
    go_wp2_with fail
    go_region_held3 (fun w'=>w'.cell? ⟨B,0,none⟩=some (.int .i64 f)∧w'.cell? ⟨B,1,none⟩=some (.int .i64 c)∧w'.cell? ⟨B,2,none⟩=some (.int .i64 a)∧w'.cell? ⟨B,3,none⟩=some (.int .i64 k)) (first | exact hc2 | exact hk3)
     (first
      | (go_at_call 173;refine (CB.out _).mono ?_;rintro r w3 ⟨rfl,b3⟩;have hk3:=sc_cells ((b3.block B hl2).trans HBL2.out)))
    have HB3:=hid ((BB.out.trans (HX2.out.mono (Nat.le_of_lt hlw))).trans ((show Below w2.heap.size w2 w3 from ⟨b3.os,b3.tape,b3.output,b3.size,b3.block⟩).mono (by have:=HX2.out.size;have:=BB.out.size;omega)))
    clear b3 hk3 hc2
    go_wp2
    go_ret3
    exact ⟨by rw [G3.out,G4.out];rfl,by rw [HBW.out];exact HB3.out⟩
   ·obtain ⟨rfl,rfl,rfl⟩:=H3.out (by omega)
    have HB3:=hid (BB.out.trans (hbx.mono (Nat.le_of_lt hlw)));clear hbx
    go_wp2
    go_ret3
    exact ⟨rfl,by rw [HBW.out];exact HB3.out⟩
theorem of_bad (f c a k:Nat) (s:Int) (hf:f≤300) (hc:c≤30) (h:s<f∨(f+c:Nat)≤s) (w:World) :
  Calls Tryz.prog 152 #[.agg (sc f c a k),.int .i64 s] w fun e w'=>e=.returned (.tuple #[.int .i64 0,.int .i64 0])∧Below w.heap.size w w':=by
 unfold sc;have hw:IntKind.i64.wrap ((f:Int)+c)=((f+c:Nat):Int):=by push_cast;exact IntWalk.i64_in _ (by omega)
 by_cases h1:s<f
 ·go_enter Tryz.func152,Tryz.ntmps152
  go_wp2
  go_ret2;exact ⟨rfl,(Below.refl _ _).alloc (Nat.le_refl _) _⟩
 ·have h2:((f+c:Nat):Int)≤s:=by omega
  generalize f+c=fc at *;have d1:decide (s<(f:Int))=false:=by simp;omega
  have d2:decide ((fc:Int)≤s)=true:=by simp;omega
  go_enter Tryz.func152,Tryz.ntmps152
  go_wp2
  go_ret2;exact ⟨rfl,(Below.refl _ _).alloc (Nat.le_refl _) _⟩
theorem of_any (f c a k J:Nat) (hk:k=4∨k=2) (hf:f≤300) (hc:c≤30) (hJ:J<c) (ha:a≤3) (w:World) :
  Calls Tryz.prog 152 #[.agg (sc f c a k),.int .i64 (f+J:Nat)] w fun e w'=>e=.returned (.tuple #[.int .i64 (bs a k J:Nat),.int .i64 (bt k J:Nat)])∧Below w.heap.size w w':=by
 unfold sc;have hw:IntKind.i64.wrap ((f:Int)+c)=((f+c:Nat):Int):=by push_cast;exact IntWalk.i64_in _ (by omega)
 have d1:decide (((f+J:Nat):Int)<(f:Int))=false:=by simp;omega
 have d2:decide (((f+c:Nat):Int)≤((f+J:Nat):Int))=false:=by simp;omega
 have hwj:IntKind.i64.wrap (((f+J:Nat):Int)-f)=J:=by push_cast;rw [show (f:Int)+J-f=J by omega];exact IntWalk.i64_in _ (by omega)
 have hsym1:¬(((f+J:Nat):Int)<f):=by omega
 have hsym2:¬(((f+c:Nat):Int)≤((f+J:Nat):Int)):=by omega
 generalize f+c=fc at *;generalize f+J=fj at *
 go_enter Tryz.func152,Tryz.ntmps152
 go_wp2_with fail
 have hB0:(w.alloc (.cells #[.int .i64 f,.int .i64 c,.int .i64 a,.int .i64 k] 190)).heap[w.heap.size]?=some (.cells #[.int .i64 f,.int .i64 c,.int .i64 a,.int .i64 k] 190 (0,0)):=heap_alloc_new _ _;have bb:Below w.heap.size w (w.alloc (.cells #[.int .i64 f,.int .i64 c,.int .i64 a,.int .i64 k] 190)):=(Below.refl _ _).alloc (Nat.le_refl _) _;have hsz:(w.alloc (.cells #[.int .i64 f,.int .i64 c,.int .i64 a,.int .i64 k] 190)).heap.size=w.heap.size+1:=by simp
 generalize w.alloc (.cells #[.int .i64 f,.int .i64 c,.int .i64 a,.int .i64 k] 190)=w1 at *;have hlw:w.heap.size<w1.heap.size:=by omega
 have BB:=hid bb;have HB0:=hid hB0;clear hsz bb hB0;generalize hBw:w.heap.size=B at *;have HBW:=hid hBw;clear hBw
 go_loopw [4,26] (fun v i wr=>∃j,j≤J∧v=.int .i64 (bs a k j)∧i=.int .i64 j∧Below w1.heap.size w1 wr) (fun _ i _=>J-(intOf i).toNat)
 case atStart=>exact ⟨0,Nat.zero_le _,rfl,rfl,Below.refl _ _⟩
 case round=>
  obtain ⟨j,hj,rfl,rfl,hbx⟩:=hrel;have hblk:wr.heap[B]?=some (.cells #[.int .i64 f,.int .i64 c,.int .i64 a,.int .i64 k] 190 (0,0)):=(hbx.block B hlw).trans HB0.out;obtain ⟨cb0,cb1,cb2,cb3⟩:=sc_cells hblk;have hmo:=bs_small (a:=a) hk ha j (by omega)
  have hbt:=bt_le (k:=k) (i:=j) hk (by omega)
  have CB:=hid (fun w=>bits_any f c a k j hk (by omega) w)
  unfold sc at CB
  by_cases hlt:j<J
  ·have hup:bs a k (j+1)=bs a k j+2^bt k j:=rfl;obtain ⟨P,hP1,hP2,hP3,hP4⟩:=pow_lay _ hbt;rw [hP1] at hup;have hw1:IntKind.i64.wrap P=P:=IntWalk.i64_in _ (by omega)
   have hw2:IntKind.i64.wrap ((bs a k j:Int)+P)=bs a k j+P:=IntWalk.i64_in _ (by omega)
   have HX:=hid hbx;clear hbx
   go_wp2_with fail
   refine (CB.out _).mono ?_;rintro r w2 ⟨rfl,b2⟩;have HX2:=hid (HX.out.trans (b2.mono HX.out.size));clear b2 HX
   go_wp2_with fail
   refine ⟨⟨j+1,by omega,?_,by go_num,HX2.out⟩,?_⟩
   ·rw [hup];congr 1; 
   ·simp [intOf];omega
  ·obtain rfl:j=J:=by omega
   have HX:=hid hbx;have hl2:B<wr.heap.size:=by have:=hbx.size;omega
   have HBL2:=hid hblk;have hc2:=sc_cells hblk;clear hbx hblk
   go_wp2_with fail
   refine (CB.out _).mono ?_;rintro r w3 ⟨rfl,b3⟩;have HB3:=hid ((BB.out.trans (HX.out.mono (Nat.le_of_lt hlw))).trans (b3.mono (by have:=HX.out.size;have:=BB.out.size;omega)))
   clear b3 hc2
   go_wp2
   go_ret2;exact ⟨rfl,by rw [HBW.out];exact HB3.out⟩
theorem ret_sc3 (tmps:Array Value) (w:World) (R:Nat) (hp:tmps.getD 0 undef=.pointer (some ⟨R,0,none⟩)) (hg:w.heap[R]?=some (.cells (sc 257 28 3 4) 190 (0,0))) :
  (results Tryz.f151 tmps).run Tryz.prog w=.ok (.agg (sc 257 28 3 4)) w:=
 results_cell_row rfl tmps w R 190 (sc 257 28 3 4) (0,0) _ hp hg Tryz.underlying190 rfl (by kernel_rfl)
theorem ret_sc1 (tmps:Array Value) (w:World) (R:Nat) (hp:tmps.getD 0 undef=.pointer (some ⟨R,0,none⟩)) (hg:w.heap[R]?=some (.cells (sc 0 30 1 2) 190 (0,0))) :
  (results Tryz.f153 tmps).run Tryz.prog w=.ok (.agg (sc 0 30 1 2)) w:=
 results_cell_row rfl tmps w R 190 (sc 0 30 1 2) (0,0) _ hp hg Tryz.underlying190 rfl (by kernel_rfl)
theorem ofLengths_any (w:World) :
  Calls Tryz.prog 151 #[] w fun e w'=>e=.returned (.agg (sc 257 28 3 4))∧Below w.heap.size w w':=by
 go_enter Tryz.func151,Tryz.ntmps151
 go_wp2
 refine bodyPost_ret (v:=.agg (sc 257 28 3 4)) (ret_sc3 _ _ _ rfl (heap_alloc_new _ _)) rfl ?_;exact ⟨rfl,(Below.refl _ _).alloc (Nat.le_refl _) _⟩
theorem ofDistances_any (w:World) :
  Calls Tryz.prog 153 #[] w fun e w'=>e=.returned (.agg (sc 0 30 1 2))∧Below w.heap.size w w':=by
 go_enter Tryz.func153,Tryz.ntmps153
 go_wp2
 refine bodyPost_ret (v:=.agg (sc 0 30 1 2)) (ret_sc1 _ _ _ rfl (heap_alloc_new _ _)) rfl ?_;exact ⟨rfl,(Below.refl _ _).alloc (Nat.le_refl _) _⟩
end Go.Proofs.YthbjllabgpaaaaaGreat.Sym
namespace Go.Proofs.YthbjllabgpaaaaaGreat.Sym
open Go.Lib (hid)
set_option maxHeartbeats 8000000
open Go.ChangeShapes Go.WideShapes Go.ChangeAt Go.RowKit
set_option linter.unusedVariables false
def trip (x:Nat×Nat×Nat):Value:=.tuple #[.int .i64 x.1,.int .i64 x.2.1,.int .i64 x.2.2]
def pairN (x:Nat×Nat):Value:=.tuple #[.int .i64 x.1,.int .i64 x.2]
theorem scale_len (n:Int) (h:n≠258) (hn:n≤9223372036854775807) (w:World) :
  Calls Tryz.prog 165 #[.agg (sc 257 28 3 4),.int .i64 n] w fun e w'=>e=.returned (trip (lenS n))∧Below w.heap.size w w':=by
 by_cases h1:n<3
 ·refine (symbol_low 257 28 3 4 n (by omega) w).mono ?_
  rintro r w' ⟨rfl,hb⟩;refine ⟨?_,hb⟩;unfold lenS;rw [if_neg (by omega)];rfl
 ·by_cases h2:n<258
  ·obtain ⟨i,hi,g1,g2⟩:=find_bs 3 4 n.toNat (by omega) 28 (by rw [bs_l];omega)
   have hli:=li_is n.toNat i (by omega) hi g1 g2
   have hup:∀j,j<i→(bs 3 4 (j+1):Int)≤n:=fun j hj=>by
    have:=bs_le (a:=3) (k:=4) (i:=j+1) (j:=i) hj;omega
   refine (symbol_any 257 28 3 4 i n (257+i:Nat) (n-bs 3 4 i) (bt 4 i) (.inl rfl) (by omega) (by omega) (by omega) hn (by omega) (by omega) hup (fun _=>⟨by omega,rfl,rfl,rfl⟩) (fun h=>by omega) w).mono ?_
   rintro r w' ⟨rfl,hb⟩;refine ⟨?_,hb⟩;unfold lenS trip;rw [if_pos ⟨by omega,by omega⟩,hli,(LB_eq ⟨i,hi⟩).1,(LB_eq ⟨i,hi⟩).2]
   rw [show n-(bs 3 4 i:Int)=((n.toNat-bs 3 4 i:Nat):Int) by omega]
  ·have hup:∀j,j<28→(bs 3 4 (j+1):Int)≤n:=fun j hj=>by
    have:=bs_le (a:=3) (k:=4) (i:=j+1) (j:=28) hj
    rw [bs_l] at this;omega
   refine (symbol_any 257 28 3 4 28 n 0 0 0 (.inl rfl) (by omega) (by omega) (by omega) hn (by omega) (by omega) hup (fun h=>by omega) (fun h=>⟨rfl,rfl,rfl⟩) w).mono ?_
   rintro r w' ⟨rfl,hb⟩;refine ⟨?_,hb⟩;unfold lenS;rw [if_neg (by omega)];rfl
theorem scale_dist (n:Int) (hn:n≤9223372036854775807) (w:World) :
  Calls Tryz.prog 165 #[.agg (sc 0 30 1 2),.int .i64 n] w fun e w'=>e=.returned (trip (distS n))∧Below w.heap.size w w':=by
 by_cases h1:n<1
 ·refine (symbol_low 0 30 1 2 n (by omega) w).mono ?_
  rintro r w' ⟨rfl,hb⟩;refine ⟨?_,hb⟩;unfold distS;rw [if_neg (by omega)];rfl
 ·by_cases h2:n<32769
  ·obtain ⟨i,hi,g1,g2⟩:=find_bs 1 2 n.toNat (by omega) 30 (by rw [bs_d];omega)
   have hli:=di_is n.toNat i hi g1 g2
   have hup:∀j,j<i→(bs 1 2 (j+1):Int)≤n:=fun j hj=>by
    have:=bs_le (a:=1) (k:=2) (i:=j+1) (j:=i) hj;omega
   refine (symbol_any 0 30 1 2 i n (0+i:Nat) (n-bs 1 2 i) (bt 2 i) (.inr rfl) (by omega) (by omega) (by omega) hn (by omega) (by omega) hup (fun _=>⟨by omega,rfl,rfl,rfl⟩) (fun h=>by omega) w).mono ?_
   rintro r w' ⟨rfl,hb⟩;refine ⟨?_,hb⟩;unfold distS trip;rw [if_pos ⟨by omega,by omega⟩,hli,(DB_eq ⟨i,hi⟩).1,(DB_eq ⟨i,hi⟩).2,Nat.zero_add]
   rw [show n-(bs 1 2 i:Int)=((n.toNat-bs 1 2 i:Nat):Int) by omega]
  ·have hup:∀j,j<30→(bs 1 2 (j+1):Int)≤n:=fun j hj=>by
    have:=bs_le (a:=1) (k:=2) (i:=j+1) (j:=30) hj
    rw [bs_d] at this;omega
   refine (symbol_any 0 30 1 2 30 n 0 0 0 (.inr rfl) (by omega) (by omega) (by omega) hn (by omega) (by omega) hup (fun h=>by omega) (fun h=>⟨rfl,rfl,rfl⟩) w).mono ?_
   rintro r w' ⟨rfl,hb⟩;refine ⟨?_,hb⟩;unfold distS;rw [if_neg (by omega)];rfl
theorem scale_lenO (s:Int) (h:s≠285) (w:World) :
  Calls Tryz.prog 152 #[.agg (sc 257 28 3 4),.int .i64 s] w fun e w'=>e=.returned (pairN (lenO s))∧Below w.heap.size w w':=by
 by_cases h1:s<257∨285≤s
 ·refine (of_bad 257 28 3 4 s (by omega) (by omega) (by omega) w).mono ?_
  rintro r w' ⟨rfl,hb⟩;refine ⟨?_,hb⟩;unfold lenO;rw [if_neg (by omega)];rfl
 ·obtain ⟨J,rfl⟩:∃J:Nat,s=(257+J:Nat):=⟨s.toNat-257,by omega⟩
  refine (of_any 257 28 3 4 J (.inl rfl) (by omega) (by omega) (by omega) (by omega) w).mono ?_
  rintro r w' ⟨rfl,hb⟩;refine ⟨?_,hb⟩;unfold lenO pairN;rw [if_pos ⟨by omega,by omega⟩,show (((257+J:Nat):Int).toNat-257)=J by omega,(LB_eq ⟨J,by omega⟩).1,(LB_eq ⟨J,by omega⟩).2]
theorem scale_distO (s:Int) (w:World) :
  Calls Tryz.prog 152 #[.agg (sc 0 30 1 2),.int .i64 s] w fun e w'=>e=.returned (pairN (distO s))∧Below w.heap.size w w':=by
 by_cases h1:s<0∨30≤s
 ·refine (of_bad 0 30 1 2 s (by omega) (by omega) (by omega) w).mono ?_
  rintro r w' ⟨rfl,hb⟩;refine ⟨?_,hb⟩;unfold distO;rw [if_neg (by omega)];rfl
 ·obtain ⟨J,rfl⟩:∃J:Nat,s=(0+J:Nat):=⟨s.toNat,by omega⟩
  refine (of_any 0 30 1 2 J (.inr rfl) (by omega) (by omega) (by omega) (by omega) w).mono ?_
  rintro r w' ⟨rfl,hb⟩;refine ⟨?_,hb⟩;unfold distO pairN;rw [if_pos ⟨by omega,by omega⟩,show (((0+J:Nat):Int).toNat)=J by omega,(DB_eq ⟨J,by omega⟩).1,(DB_eq ⟨J,by omega⟩).2]
theorem lenS_258:lenS 258=(285,0,0):=by decide +kernel
theorem lenO_285:lenO 285=(258,0):=by decide +kernel
theorem length_any (n:Int) (hn:n≤9223372036854775807) (w:World) :
  Calls Tryz.prog 143 #[.int .i64 n] w fun e w'=>e=.returned (trip (lenS n))∧Below w.heap.size w w':=by
 by_cases h:n=258
 ·subst h;rw [lenS_258]
  go_enter Tryz.func143,Tryz.ntmps143
  go_wp2
  go_ret3
  exact ⟨rfl,Below.refl _ _⟩
 ·have CS:=hid (fun w=>scale_len n h hn w)
  have h2:(n==258)=false:=by simpa using h
  generalize lenS n=x at *;obtain ⟨x1,x2,x3⟩:=x;unfold trip at *
  go_enter Tryz.func143,Tryz.ntmps143
  go_wp2_with fail
  refine (ofLengths_any _).mono ?_;rintro r w1 ⟨rfl,b1⟩
  go_wp2_with fail
  refine (CS.out _).mono ?_;rintro r w2 ⟨rfl,b2⟩;have HB:=hid (b1.trans (b2.mono b1.size));clear b1 b2
  go_wp2_with fail
  go_ret3
  exact ⟨rfl,HB.out⟩
theorem distance_any (n:Int) (hn:n≤9223372036854775807) (w:World) :
  Calls Tryz.prog 144 #[.int .i64 n] w fun e w'=>e=.returned (trip (distS n))∧Below w.heap.size w w':=by
 have CS:=hid (fun w=>scale_dist n hn w)
 generalize distS n=x at *;obtain ⟨x1,x2,x3⟩:=x;unfold trip at *
 go_enter Tryz.func144,Tryz.ntmps144
 go_wp2_with fail
 refine (ofDistances_any _).mono ?_;rintro r w1 ⟨rfl,b1⟩
 go_wp2_with fail
 refine (CS.out _).mono ?_;rintro r w2 ⟨rfl,b2⟩;have HB:=hid (b1.trans (b2.mono b1.size));clear b1 b2
 go_wp2_with fail
 go_ret3
 exact ⟨rfl,HB.out⟩
theorem lengthOf_any (s:Int) (w:World) :
  Calls Tryz.prog 125 #[.int .i64 s] w fun e w'=>e=.returned (pairN (lenO s))∧Below w.heap.size w w':=by
 by_cases h:s=285
 ·subst h;rw [lenO_285]
  go_enter Tryz.func125,Tryz.ntmps125
  go_wp2
  go_ret2;exact ⟨rfl,Below.refl _ _⟩
 ·have CS:=hid (fun w=>scale_lenO s h w)
  have h2:(s==285)=false:=by simpa using h
  generalize lenO s=x at *;obtain ⟨x1,x2⟩:=x;unfold pairN at *
  go_enter Tryz.func125,Tryz.ntmps125
  go_wp2_with fail
  refine (ofLengths_any _).mono ?_;rintro r w1 ⟨rfl,b1⟩
  go_wp2_with fail
  refine (CS.out _).mono ?_;rintro r w2 ⟨rfl,b2⟩;have HB:=hid (b1.trans (b2.mono b1.size));clear b1 b2
  go_wp2_with fail
  go_ret2;exact ⟨rfl,HB.out⟩
theorem distanceOf_any (s:Int) (w:World) :
  Calls Tryz.prog 126 #[.int .i64 s] w fun e w'=>e=.returned (pairN (distO s))∧Below w.heap.size w w':=by
 have CS:=hid (fun w=>scale_distO s w)
 generalize distO s=x at *;obtain ⟨x1,x2⟩:=x;unfold pairN at *
 go_enter Tryz.func126,Tryz.ntmps126
 go_wp2_with fail
 refine (ofDistances_any _).mono ?_;rintro r w1 ⟨rfl,b1⟩
 go_wp2_with fail
 refine (CS.out _).mono ?_;rintro r w2 ⟨rfl,b2⟩;have HB:=hid (b1.trans (b2.mono b1.size));clear b1 b2
 go_wp2_with fail
 go_ret2;exact ⟨rfl,HB.out⟩
end Go.Proofs.YthbjllabgpaaaaaGreat.Sym
namespace Go.Proofs.YthbjllabgpaaaaaGreat.Sym
open Go.Lib (hid)
set_option maxHeartbeats 8000000
open Go.ChangeShapes Go.WideShapes Go.ChangeAt Go.RowKit
open Go.Proofs.YthbjllabgpaaaaaGreat.Huf (IsInts)
set_option linter.unusedVariables false
def ints (l:List Nat):List Int:=l.map fun (x:Nat)=>(x:Int)
theorem ints_length (l:List Nat):(ints l).length=l.length:=by simp [ints]
theorem ints_get (l:List Nat) (i:Nat) (h:i<l.length):(ints l)[i]'(by rw [ints_length];exact h)=((l.getD i 0:Nat):Int):=by
 simp [ints,List.getD_eq_getElem?_getD,h]
theorem isInts_lit (w:World) (T:TypeId) (L:List Int):IsInts (w.alloc (.cells ((L.map fun x=>Value.int .i64 x).toArray) T)) (some ⟨w.heap.size,0,none⟩) L:=by
 intro h0;refine ⟨w.heap.size,0,rfl,by simp,fun i hi=>?_⟩
 rw [Nat.zero_add,cell_of_row _ _ i _ _ _ (heap_alloc_new _ _)];simp [hi]
theorem isInts_lit2 (w:World) (T:TypeId) (L:List Int) (g:Nat) (hg:w.heap.size=g):IsInts (w.alloc (.cells ((L.map fun x=>Value.int .i64 x).toArray) T)) (some ⟨g,0,none⟩) L:=by
 subst hg;exact isInts_lit w T L
theorem ints_at {w:World} {a:Option Addr} {l:List Nat} {n:Nat} (h:IsInts w a (ints l)) (hn:l.length=n) (h0:0<n):∃g off,a=some ⟨g,off,none⟩∧g<w.heap.size∧∀i,i<n→w.cell? ⟨g,off+i,none⟩=some (.int .i64 (l.getD i 0:Nat)):=by
 obtain ⟨g,off,e,hg,hc⟩:=h (by rw [ints_length];omega)
 exact ⟨g,off,e,hg,fun i hi=>by rw [hc i (by rw [ints_length];omega),ints_get l i (by omega)]⟩
theorem refLengths_any (w:World) :
  Calls Tryz.prog 86 #[] w fun e w'=>∃a b,e=.returned (.tuple #[.slice (some ⟨a,0,none⟩) 29 29,.slice (some ⟨b,0,none⟩) 29 29])∧IsInts w' (some ⟨a,0,none⟩) (ints LBt)∧IsInts w' (some ⟨b,0,none⟩) (ints LXt)∧Below w.heap.size w w':=by
 go_enter Tryz.func86,Tryz.ntmps86
 go_wp2
 go_ret2;have b1:=(Below.refl w.heap.size w).alloc (Nat.le_refl _) (.cells ((ints LBt).map fun x=>Value.int .i64 x).toArray 3)
 refine ⟨_,_,rfl,?_,?_,?_⟩
 ·exact (isInts_lit w 3 (ints LBt)).below (Below.refl _ _ |>.alloc (Nat.le_refl _) _) (Nat.le_refl _)
 ·exact isInts_lit2 _ 3 (ints LXt) _ (by simp)
 ·exact b1.alloc (by simp) _
theorem refDistances_any (w:World) :
  Calls Tryz.prog 87 #[] w fun e w'=>∃a b,e=.returned (.tuple #[.slice (some ⟨a,0,none⟩) 30 30,.slice (some ⟨b,0,none⟩) 30 30])∧IsInts w' (some ⟨a,0,none⟩) (ints DBt)∧IsInts w' (some ⟨b,0,none⟩) (ints DXt)∧Below w.heap.size w w':=by
 go_enter Tryz.func87,Tryz.ntmps87
 go_wp2
 go_ret2;have b1:=(Below.refl w.heap.size w).alloc (Nat.le_refl _) (.cells ((ints DBt).map fun x=>Value.int .i64 x).toArray 3)
 refine ⟨_,_,rfl,?_,?_,?_⟩
 ·exact (isInts_lit w 3 (ints DBt)).below (Below.refl _ _ |>.alloc (Nat.le_refl _) _) (Nat.le_refl _)
 ·exact isInts_lit2 _ 3 (ints DXt) _ (by simp)
 ·exact b1.alloc (by simp) _
theorem refOf_any (a b:Option Addr) (n c1 c2 f:Nat) (l m:List Nat) (s:Int) (w:World) (hl:l.length=n) (hm:m.length=n) (h1:IsInts w a (ints l)) (h2:IsInts w b (ints m)) (hn:n≤1000) (hs:s≤9223372036854775807) :
  Calls Tryz.prog 89 #[.slice a n c1,.slice b n c2,.int .i64 s,.int .i64 f] w fun e w'=>
   e=.returned (pairN (if (f:Int)≤s∧s<f+n then (l.getD (s.toNat-f) 0,m.getD (s.toNat-f) 0) else (0,0)))∧∃q,w'=w.drewN q:=by
 by_cases h:s<f
 ·rw [if_neg (by omega)]
  unfold pairN
  go_enter Tryz.func89,Tryz.ntmps89
  go_wp2
  go_ret2;exact ⟨rfl,0,rfl⟩
 ·obtain ⟨i,rfl⟩:∃i:Nat,s=((f+i:Nat):Int):=⟨s.toNat-f,by omega⟩
  have hw:IntKind.i64.wrap (((f+i:Nat):Int)-f)=i:=by push_cast;rw [show (f:Int)+i-f=i by omega];exact IntWalk.i64_in _ (by omega)
  rw [show ((f+i:Nat):Int).toNat-f=i by omega]
  by_cases hi:i<n
  ·rw [if_pos (by omega)]
   obtain ⟨g1,o1,rfl,_,q1⟩:=ints_at h1 hl (by omega)
   obtain ⟨g2,o2,rfl,_,q2⟩:=ints_at h2 hm (by omega)
   have e1:=q1 i hi;have e2:=q2 i hi;have d1:decide (((f+i:Nat):Int)<(f:Int))=false:=by simp;omega
   have d2:decide ((n:Int)≤(i:Int))=false:=by simp;omega
   generalize l.getD i 0=x at *;generalize m.getD i 0=y at *;generalize f+i=fi at *;unfold pairN;clear h1 h2 q1 q2
   go_enter Tryz.func89,Tryz.ntmps89
   go_wp2_with fail
   go_quiet (fail)
   go_wp2_with fail
   go_ret2;exact ⟨rfl,_,rfl⟩
  ·rw [if_neg (by omega)]
   have d1:decide (((f+i:Nat):Int)<(f:Int))=false:=by simp;omega
   have d2:decide ((n:Int)≤(i:Int))=true:=by simp;omega
   generalize f+i=fi at *;unfold pairN
   go_enter Tryz.func89,Tryz.ntmps89
   go_wp2_with fail
   go_ret2;exact ⟨rfl,0,rfl⟩
end Go.Proofs.YthbjllabgpaaaaaGreat.Sym
namespace Go.Proofs.YthbjllabgpaaaaaGreat.Sym
open Go.Lib (hid)
set_option maxHeartbeats 8000000
open Go.ChangeShapes Go.WideShapes Go.ChangeAt Go.RowKit
open Go.Proofs.YthbjllabgpaaaaaGreat.Huf (IsInts cellsN cellsN_length cellsN_append info_int info_parts cellsN_one)
open Go.Proofs.YthbjllabgpaaaaaGreat.Bit (Near From wpList_append_near grow_alloc below_row ownsRow_block)
set_option linter.unusedVariables false
set_option maxRecDepth 100000
def fxF (s:Nat):Nat:=if s≤143 then 8 else if s≤255 then 9 else if s≤279 then 7 else 8
def fxL:List Nat:=(List.range 288).map fxF
def fxD:List Nat:=List.replicate 30 5
def fxLk (k:Nat):List Nat:=(List.range k).map fxF
theorem fxLk_succ (k:Nat):fxLk (k+1)=fxLk k++[fxF k]:=by simp [fxLk,List.range_succ]
theorem fxLk_length (k:Nat):(fxLk k).length=k:=by simp [fxLk]
theorem fxD_succ (k:Nat):List.replicate (k+1) 5=List.replicate k 5++[5]:=by rw [List.replicate_succ']
theorem row_ints {w:World} {v:Value} {n:Nat} {l:List Nat} (h:w.ownsRow 0 3 1 v n (cellsN l)) (hn:l.length=n) (h0:0<n):∃g cap,v=.slice (some ⟨g,0,none⟩) n cap∧IsInts w (some ⟨g,0,none⟩) (ints l):=by
 rcases h.2 with ⟨rfl,h1⟩ | ⟨g,cap,cur,rfl,_,hg,_⟩
 ·omega
 ·refine ⟨g,cap,rfl,fun _=>⟨g,0,rfl,(Array.getElem?_eq_some_iff.1 hg).1,fun i hi=>?_⟩⟩
  rw [ints_length] at hi;rw [Nat.zero_add,h.cellAt i (by omega),ints_get l i hi]
  simp [cellsN,List.getD_eq_getElem?_getD,hi]
theorem ints_below {w w':World} {a:Option Addr} {L:List Int} {n:Nat} (h:IsInts w a L) (k:Below n w w') (hn:w.heap.size≤n):IsInts w' a L:=h.below k hn
theorem app_next {B k:Nat} {w0 wr w1:World} {v v':Value} {l:List Nat} {x:Nat} {T:TypeId} {cs:Array Value} (hl:l.length=k) (hB:B≤w0.heap.size) (bl:Below B w0 wr) (f:From B v)
  (ho:w1.ownsRow 0 3 1 v' (k+1) (cellsN l++[.int .i64 (x:Nat)])) (hg:(wr.alloc (.cells cs T)).grownBy w1 v.ownBlock) (hn:Near (wr.alloc (.cells cs T)) v v') :
  w1.ownsRow 0 3 1 v' (k+1) (cellsN (l++[x]))∧Below B w0 w1∧From B v':=by
 refine ⟨?_,below_row bl hB (grow_alloc hg) f,f.near (Bit.Near.alloc hn) ?_⟩
 ·rw [cellsN_append];exact ho
 ·have:=bl.size;omega
theorem fixed_any (w:World) :
  Calls Tryz.prog 114 #[] w fun e w'=>∃a ca b cb,e=.returned (.tuple #[.slice (some ⟨a,0,none⟩) 288 ca,.slice (some ⟨b,0,none⟩) 30 cb])∧IsInts w' (some ⟨a,0,none⟩) (ints fxL)∧IsInts w' (some ⟨b,0,none⟩) (ints fxD)∧Below w.heap.size w w':=by
 obtain ⟨t0,hi,hz0,hz1,hz2⟩:=info_parts info_int;have hB:=Nat.le_refl w.heap.size
 go_enter Tryz.func114,Tryz.ntmps114
 go_wp2_with fail
 go_loopw [0,3] (fun v i wr=>∃k:Nat,k≤288∧i=.int .i64 k∧wr.ownsRow 0 3 1 v k (cellsN (fxLk k))∧Below w.heap.size w wr∧From w.heap.size v) (fun _ i _=>288-(intOf i).toNat)
 case atStart=>exact ⟨0,by omega,rfl,World.ownsRow_nil _ _ _ _,Below.refl _ _,From.nil _⟩
 case round=>
  obtain ⟨k,hk,rfl,h1,bl1,f1⟩:=hrel;have H1:=hid h1;have BF:=hid (And.intro bl1 f1);clear h1 bl1 f1
  by_cases hlt:k<288
  ·have hlt':(k:Int)<288:=by omega
   have HK:=hid (show k+1≤288∧288-(k+1)<288-k by omega)
   by_cases c1:k≤143
   ·have hx:fxF k=8:=by unfold fxF;(repeat' split) <;> omega
    have HX:=hid hx;have c1':(k:Int)≤143:=by omega
    clear hx hlt hk
    go_wp2_with (at_builtin;refine wpList_append_near _ rfl _ _ 92 rfl 3 t0 (.int .i64 0) 1 8 Tryz.underlying92 hi hz0 hz1 hz2 rfl (by decide) u0 k (cellsN (fxLk k)) rfl (H1.out.alloc _) ⟨wr.heap.size,0,none⟩ 1 1 [.int .i64 ((8:Nat):Int)] rfl rfl (cell_one_new _ _ _) (by intro u hu;simp at hu;subst hu;rfl) (by unfold maxLen;omega) (by omega) ?_;intro v' w1 ho hg hn)
    have HH:=hid (app_next (fxLk_length k) hB BF.out.1 BF.out.2 ho hg hn);clear ho hg hn H1 BF
    go_wp2
    refine ⟨⟨k+1,HK.out.1,by go_num,by rw [fxLk_succ,HX.out];exact HH.out.1,HH.out.2.1,HH.out.2.2⟩,?_⟩
    have:=HK.out.2
    simp [intOf];omega
   by_cases c2:k≤255
   ·have hx:fxF k=9:=by unfold fxF;(repeat' split) <;> omega
    have HX:=hid hx;have c1':¬((k:Int)≤143):=by omega
    have c2':(k:Int)≤255:=by omega
    clear hx hlt hk
    go_wp2_with (at_builtin;refine wpList_append_near _ rfl _ _ 92 rfl 3 t0 (.int .i64 0) 1 8 Tryz.underlying92 hi hz0 hz1 hz2 rfl (by decide) u0 k (cellsN (fxLk k)) rfl (H1.out.alloc _) ⟨wr.heap.size,0,none⟩ 1 1 [.int .i64 ((9:Nat):Int)] rfl rfl (cell_one_new _ _ _) (by intro u hu;simp at hu;subst hu;rfl) (by unfold maxLen;omega) (by omega) ?_;intro v' w1 ho hg hn)
    have HH:=hid (app_next (fxLk_length k) hB BF.out.1 BF.out.2 ho hg hn);clear ho hg hn H1 BF
    go_wp2
    refine ⟨⟨k+1,HK.out.1,by go_num,by rw [fxLk_succ,HX.out];exact HH.out.1,HH.out.2.1,HH.out.2.2⟩,?_⟩
    have:=HK.out.2
    simp [intOf];omega
   by_cases c3:k≤279
   ·have hx:fxF k=7:=by unfold fxF;(repeat' split) <;> omega
    have HX:=hid hx;have c1':¬((k:Int)≤143):=by omega
    have c2':¬((k:Int)≤255):=by omega
    have c3':(k:Int)≤279:=by omega
    clear hx hlt hk
    go_wp2_with (at_builtin;refine wpList_append_near _ rfl _ _ 92 rfl 3 t0 (.int .i64 0) 1 8 Tryz.underlying92 hi hz0 hz1 hz2 rfl (by decide) u0 k (cellsN (fxLk k)) rfl (H1.out.alloc _) ⟨wr.heap.size,0,none⟩ 1 1 [.int .i64 ((7:Nat):Int)] rfl rfl (cell_one_new _ _ _) (by intro u hu;simp at hu;subst hu;rfl) (by unfold maxLen;omega) (by omega) ?_;intro v' w1 ho hg hn)
    have HH:=hid (app_next (fxLk_length k) hB BF.out.1 BF.out.2 ho hg hn);clear ho hg hn H1 BF
    go_wp2
    refine ⟨⟨k+1,HK.out.1,by go_num,by rw [fxLk_succ,HX.out];exact HH.out.1,HH.out.2.1,HH.out.2.2⟩,?_⟩
    have:=HK.out.2
    simp [intOf];omega
   have hx:fxF k=8:=by unfold fxF;(repeat' split) <;> omega
   have HX:=hid hx;have c1':¬((k:Int)≤143):=by omega
   have c2':¬((k:Int)≤255):=by omega
   have c3':¬((k:Int)≤279):=by omega
   clear hx hlt hk
   go_wp2_with (at_builtin;refine wpList_append_near _ rfl _ _ 92 rfl 3 t0 (.int .i64 0) 1 8 Tryz.underlying92 hi hz0 hz1 hz2 rfl (by decide) u0 k (cellsN (fxLk k)) rfl (H1.out.alloc _) ⟨wr.heap.size,0,none⟩ 1 1 [.int .i64 ((8:Nat):Int)] rfl rfl (cell_one_new _ _ _) (by intro u hu;simp at hu;subst hu;rfl) (by unfold maxLen;omega) (by omega) ?_;intro v' w1 ho hg hn)
   have HH:=hid (app_next (fxLk_length k) hB BF.out.1 BF.out.2 ho hg hn);clear ho hg hn H1 BF
   go_wp2
   refine ⟨⟨k+1,HK.out.1,by go_num,by rw [fxLk_succ,HX.out];exact HH.out.1,HH.out.2.1,HH.out.2.2⟩,?_⟩
   have:=HK.out.2
   simp [intOf];omega
  ·obtain rfl:k=288:=by omega
   rw [show ((288:Nat):Int)=288 from rfl]
   obtain ⟨ga,ca,rfl,hIA⟩:=row_ints H1.out (fxLk_length 288) (by decide)
   have HIA:=hid hIA;have HBL:=hid BF.out.1;have hB2:=Nat.le_refl wr.heap.size;clear hIA H1 BF hk hlt;generalize hwr:wr=wz at *;clear hwr
   go_wp2_with fail
   go_loopw [1,28] (fun v i wr=>∃k:Nat,k≤30∧i=.int .i64 k∧wr.ownsRow 0 3 1 v k (cellsN (List.replicate k 5))∧Below wz.heap.size wz wr∧From wz.heap.size v) (fun _ i _=>30-(intOf i).toNat)
   case atStart=>exact ⟨0,by omega,rfl,World.ownsRow_nil _ _ _ _,Below.refl _ _,From.nil _⟩
   case round=>
    obtain ⟨k,hk,rfl,h1,bl1,f1⟩:=hrel;have H1:=hid h1;have BF:=hid (And.intro bl1 f1);clear h1 bl1 f1
    by_cases hlt:k<30
    ·have hlt':(k:Int)<30:=by omega
     have HK:=hid (show k+1≤30∧30-(k+1)<30-k by omega)
     clear hlt hk
     go_wp2_with (at_builtin;refine wpList_append_near _ rfl _ _ 92 rfl 3 t0 (.int .i64 0) 1 8 Tryz.underlying92 hi hz0 hz1 hz2 rfl (by decide) u1 k (cellsN (List.replicate k 5)) rfl (H1.out.alloc _) ⟨wr.heap.size,0,none⟩ 1 1 [.int .i64 ((5:Nat):Int)] rfl rfl (cell_one_new _ _ _) (by intro u hu;simp at hu;subst hu;rfl) (by unfold maxLen;omega) (by omega) ?_;intro v' w1 ho hg hn)
     have HH:=hid (app_next (List.length_replicate) hB2 BF.out.1 BF.out.2 ho hg hn);clear ho hg hn H1 BF
     go_wp2
     refine ⟨⟨k+1,HK.out.1,by go_num,by rw [fxD_succ];exact HH.out.1,HH.out.2.1,HH.out.2.2⟩,?_⟩
     have:=HK.out.2
     simp [intOf];omega
    ·obtain rfl:k=30:=by omega
     rw [show ((30:Nat):Int)=30 from rfl]
     obtain ⟨gb,cb,rfl,hIB⟩:=row_ints H1.out (List.length_replicate) (by decide)
     have HIB:=hid hIB;have HIA2:=hid (HIA.out.below BF.out.1 (Nat.le_refl _));have HB2:=hid (HBL.out.trans (BF.out.1.mono HBL.out.size));clear hIB H1 BF hk hlt HIA HBL
     go_wp2_with fail
     go_ret2;exact ⟨_,_,_,_,rfl,HIA2.out,HIB.out,HB2.out⟩
theorem refFixed_any (w:World) :
  Calls Tryz.prog 54 #[] w fun e w'=>∃a ca b cb,e=.returned (.tuple #[.slice (some ⟨a,0,none⟩) 288 ca,.slice (some ⟨b,0,none⟩) 30 cb])∧IsInts w' (some ⟨a,0,none⟩) (ints fxL)∧IsInts w' (some ⟨b,0,none⟩) (ints fxD)∧Below w.heap.size w w':=by
 obtain ⟨t0,hi,hz0,hz1,hz2⟩:=info_parts info_int;have hB:=Nat.le_refl w.heap.size
 go_enter Tryz.func54,Tryz.ntmps54
 go_wp2_with fail
 go_loopw [2,4] (fun v i wr=>∃k:Nat,k≤288∧i=.int .i64 k∧wr.ownsRow 0 3 1 v k (cellsN (fxLk k))∧Below w.heap.size w wr∧From w.heap.size v) (fun _ i _=>288-(intOf i).toNat)
 case atStart=>exact ⟨0,by omega,rfl,World.ownsRow_nil _ _ _ _,Below.refl _ _,From.nil _⟩
 case round=>
  obtain ⟨k,hk,rfl,h1,bl1,f1⟩:=hrel;have H1:=hid h1;have BF:=hid (And.intro bl1 f1);clear h1 bl1 f1
  by_cases hlt:k<288
  ·have hlt':(k:Int)<288:=by omega
   have HK:=hid (show k+1≤288∧288-(k+1)<288-k by omega)
   by_cases c1:k≤143
   ·have hx:fxF k=8:=by unfold fxF;(repeat' split) <;> omega
    have HX:=hid hx;have e1:decide ((144:Int)≤(k:Int))=false:=by simp;omega
    have e2:decide ((k:Int)≤255)=true:=by simp;omega
    have e3:decide ((256:Int)≤(k:Int))=false:=by simp;omega
    have e4:decide ((k:Int)≤279)=true:=by simp;omega
    clear hx hlt hk
    go_wp2_with (at_builtin;refine wpList_append_near _ rfl _ _ 92 rfl 3 t0 (.int .i64 0) 1 8 Tryz.underlying92 hi hz0 hz1 hz2 rfl (by decide) u2 k (cellsN (fxLk k)) rfl (H1.out.alloc _) ⟨wr.heap.size,0,none⟩ 1 1 [.int .i64 ((8:Nat):Int)] rfl rfl (cell_one_new _ _ _) (by intro u hu;simp at hu;subst hu;rfl) (by unfold maxLen;omega) (by omega) ?_;intro v' w1 ho hg hn)
    have HH:=hid (app_next (fxLk_length k) hB BF.out.1 BF.out.2 ho hg hn);clear ho hg hn H1 BF
    go_wp2
    refine ⟨⟨k+1,HK.out.1,by go_num,by rw [fxLk_succ,HX.out];exact HH.out.1,HH.out.2.1,HH.out.2.2⟩,?_⟩
    have:=HK.out.2
    simp [intOf];omega
   by_cases c2:k≤255
   ·have hx:fxF k=9:=by unfold fxF;(repeat' split) <;> omega
    have HX:=hid hx;have e1:decide ((144:Int)≤(k:Int))=true:=by simp;omega
    have e2:decide ((k:Int)≤255)=true:=by simp;omega
    have e3:decide ((256:Int)≤(k:Int))=false:=by simp;omega
    have e4:decide ((k:Int)≤279)=true:=by simp;omega
    clear hx hlt hk
    go_wp2_with (at_builtin;refine wpList_append_near _ rfl _ _ 92 rfl 3 t0 (.int .i64 0) 1 8 Tryz.underlying92 hi hz0 hz1 hz2 rfl (by decide) u2 k (cellsN (fxLk k)) rfl (H1.out.alloc _) ⟨wr.heap.size,0,none⟩ 1 1 [.int .i64 ((9:Nat):Int)] rfl rfl (cell_one_new _ _ _) (by intro u hu;simp at hu;subst hu;rfl) (by unfold maxLen;omega) (by omega) ?_;intro v' w1 ho hg hn)
    have HH:=hid (app_next (fxLk_length k) hB BF.out.1 BF.out.2 ho hg hn);clear ho hg hn H1 BF
    go_wp2
    refine ⟨⟨k+1,HK.out.1,by go_num,by rw [fxLk_succ,HX.out];exact HH.out.1,HH.out.2.1,HH.out.2.2⟩,?_⟩
    have:=HK.out.2
    simp [intOf];omega
   by_cases c3:k≤279
   ·have hx:fxF k=7:=by unfold fxF;(repeat' split) <;> omega
    have HX:=hid hx;have e1:decide ((144:Int)≤(k:Int))=true:=by simp;omega
    have e2:decide ((k:Int)≤255)=false:=by simp;omega
    have e3:decide ((256:Int)≤(k:Int))=true:=by simp;omega
    have e4:decide ((k:Int)≤279)=true:=by simp;omega
    clear hx hlt hk
    go_wp2_with (at_builtin;refine wpList_append_near _ rfl _ _ 92 rfl 3 t0 (.int .i64 0) 1 8 Tryz.underlying92 hi hz0 hz1 hz2 rfl (by decide) u2 k (cellsN (fxLk k)) rfl (H1.out.alloc _) ⟨wr.heap.size,0,none⟩ 1 1 [.int .i64 ((7:Nat):Int)] rfl rfl (cell_one_new _ _ _) (by intro u hu;simp at hu;subst hu;rfl) (by unfold maxLen;omega) (by omega) ?_;intro v' w1 ho hg hn)
    have HH:=hid (app_next (fxLk_length k) hB BF.out.1 BF.out.2 ho hg hn);clear ho hg hn H1 BF
    go_wp2
    refine ⟨⟨k+1,HK.out.1,by go_num,by rw [fxLk_succ,HX.out];exact HH.out.1,HH.out.2.1,HH.out.2.2⟩,?_⟩
    have:=HK.out.2
    simp [intOf];omega
   have hx:fxF k=8:=by unfold fxF;(repeat' split) <;> omega
   have HX:=hid hx;have e1:decide ((144:Int)≤(k:Int))=true:=by simp;omega
   have e2:decide ((k:Int)≤255)=false:=by simp;omega
   have e3:decide ((256:Int)≤(k:Int))=true:=by simp;omega
   have e4:decide ((k:Int)≤279)=false:=by simp;omega
   clear hx hlt hk
   go_wp2_with (at_builtin;refine wpList_append_near _ rfl _ _ 92 rfl 3 t0 (.int .i64 0) 1 8 Tryz.underlying92 hi hz0 hz1 hz2 rfl (by decide) u2 k (cellsN (fxLk k)) rfl (H1.out.alloc _) ⟨wr.heap.size,0,none⟩ 1 1 [.int .i64 ((8:Nat):Int)] rfl rfl (cell_one_new _ _ _) (by intro u hu;simp at hu;subst hu;rfl) (by unfold maxLen;omega) (by omega) ?_;intro v' w1 ho hg hn)
   have HH:=hid (app_next (fxLk_length k) hB BF.out.1 BF.out.2 ho hg hn);clear ho hg hn H1 BF
   go_wp2
   refine ⟨⟨k+1,HK.out.1,by go_num,by rw [fxLk_succ,HX.out];exact HH.out.1,HH.out.2.1,HH.out.2.2⟩,?_⟩
   have:=HK.out.2
   simp [intOf];omega
  ·obtain rfl:k=288:=by omega
   rw [show ((288:Nat):Int)=288 from rfl]
   obtain ⟨ga,ca,rfl,hIA⟩:=row_ints H1.out (fxLk_length 288) (by decide)
   have HIA:=hid hIA;have HBL:=hid BF.out.1;have hB2:=Nat.le_refl wr.heap.size;clear hIA H1 BF hk hlt;generalize hwr:wr=wz at *;clear hwr
   go_wp2_with fail
   go_loopw [3,6] (fun v i wr=>∃k:Nat,k≤30∧i=.int .i64 k∧wr.ownsRow 0 3 1 v k (cellsN (List.replicate k 5))∧Below wz.heap.size wz wr∧From wz.heap.size v) (fun _ i _=>30-(intOf i).toNat)
   case atStart=>exact ⟨0,by omega,rfl,World.ownsRow_nil _ _ _ _,Below.refl _ _,From.nil _⟩
   case round=>
    obtain ⟨k,hk,rfl,h1,bl1,f1⟩:=hrel;have H1:=hid h1;have BF:=hid (And.intro bl1 f1);clear h1 bl1 f1
    by_cases hlt:k<30
    ·have hlt':(k:Int)<30:=by omega
     have HK:=hid (show k+1≤30∧30-(k+1)<30-k by omega)
     clear hlt hk
     go_wp2_with (at_builtin;refine wpList_append_near _ rfl _ _ 92 rfl 3 t0 (.int .i64 0) 1 8 Tryz.underlying92 hi hz0 hz1 hz2 rfl (by decide) u3 k (cellsN (List.replicate k 5)) rfl (H1.out.alloc _) ⟨wr.heap.size,0,none⟩ 1 1 [.int .i64 ((5:Nat):Int)] rfl rfl (cell_one_new _ _ _) (by intro u hu;simp at hu;subst hu;rfl) (by unfold maxLen;omega) (by omega) ?_;intro v' w1 ho hg hn)
     have HH:=hid (app_next (List.length_replicate) hB2 BF.out.1 BF.out.2 ho hg hn);clear ho hg hn H1 BF
     go_wp2
     refine ⟨⟨k+1,HK.out.1,by go_num,by rw [fxD_succ];exact HH.out.1,HH.out.2.1,HH.out.2.2⟩,?_⟩
     have:=HK.out.2
     simp [intOf];omega
    ·obtain rfl:k=30:=by omega
     rw [show ((30:Nat):Int)=30 from rfl]
     obtain ⟨gb,cb,rfl,hIB⟩:=row_ints H1.out (List.length_replicate) (by decide)
     have HIB:=hid hIB;have HIA2:=hid (HIA.out.below BF.out.1 (Nat.le_refl _));have HB2:=hid (HBL.out.trans (BF.out.1.mono HBL.out.size));clear hIB H1 BF hk hlt HIA HBL
     go_wp2_with fail
     go_ret2;exact ⟨_,_,_,_,rfl,HIA2.out,HIB.out,HB2.out⟩
end Go.Proofs.YthbjllabgpaaaaaGreat.Sym
namespace Go.Proofs.YthbjllabgpaaaaaGreat.Sym
open Go.Lib (hid)
set_option maxHeartbeats 8000000
open Go.ChangeShapes Go.WideShapes Go.ChangeAt Go.RowKit
open Go.Proofs.YthbjllabgpaaaaaGreat.Huf (IsInts info_int info_parts)
open Go.Proofs.YthbjllabgpaaaaaGreat.Lz (Tok okT tokC IsToks TokAt valid_any refValid_any okT_byte okT_piece)
set_option linter.unusedVariables false
set_option maxRecDepth 100000
def litN (t:Tok):Nat:=if t.L=0 then t.B.toNat else 257+li t.L.toNat
def litsOf (l:List Tok):List Nat:=(l.filter okT).map litN
def dstsOf (l:List Tok):List Nat:=((l.filter okT).filter fun t=>t.L != 0).map fun t=>di t.D.toNat
theorem litsOf_snoc (l:List Tok) (t:Tok):litsOf (l++[t])=litsOf l++(if okT t then [litN t] else []):=by
 unfold litsOf;rw [List.filter_append,List.map_append]
 congr 1
 by_cases h:okT t <;> simp [h]
theorem dstsOf_snoc (l:List Tok) (t:Tok):dstsOf (l++[t])=dstsOf l++(if okT t&&t.L != 0 then [di t.D.toNat] else []):=by
 unfold dstsOf;rw [List.filter_append,List.filter_append,List.map_append]
 congr 1
 by_cases h:okT t
 ·by_cases h2:t.L=0 <;> simp [h,h2]
 ·simp [h]
theorem litN_lt {t:Tok} (h:okT t=true):litN t<286:=by
 unfold litN
 by_cases h0:t.L=0
 ·rw [if_pos h0];have:=okT_byte h h0;omega
 ·rw [if_neg h0];obtain ⟨_,h1,h2,_⟩:=okT_piece h h0
  have:=(li_spec t.L.toNat (by omega) (by omega)).1
  omega
theorem di_lt {t:Tok} (h:okT t=true) (h0:t.L≠0):di t.D.toNat<30:=by
 obtain ⟨_,_,_,h1,h2⟩:=okT_piece h h0;exact (di_spec t.D.toNat (by omega) (by omega)).1
theorem count_snoc (l:List Nat) (x s:Nat):(l++[x]).count s=l.count s+if s=x then 1 else 0:=by
 rw [List.count_append,List.count_singleton]
 congr 1
 by_cases h:s=x
 ·subst h;simp
 ·simp [h,Ne.symm h]
def rowN (n:Nat) (f:Nat→Nat):Array Value:=((List.range n).map fun j=>Value.int .i64 (f j:Nat)).toArray
theorem rowN_get (n:Nat) (f:Nat→Nat) (j:Nat) (hj:j<n):(rowN n f)[j]?=some (.int .i64 (f j:Nat)):=by unfold rowN;simp [hj]
theorem rowN_set (n:Nat) (f:Nat→Nat) (j:Nat) (v:Nat):(rowN n f).setIfInBounds j (.int .i64 (v:Nat))=rowN n fun i=>if i=j then v else f i:=by
 unfold rowN
 apply Array.ext_getElem?
 intro i
 by_cases hi:i<n
 ·by_cases hij:i=j
  ·subst hij;simp [hi]
  ·simp [hi,hij,Ne.symm hij]
 ·simp [hi]
theorem rowN_congr {n:Nat} {f g:Nat→Nat} (h:∀j,j<n→f j=g j):rowN n f=rowN n g:=by
 unfold rowN
 congr 1
 apply List.map_congr_left
 intro j hj;rw [h j (List.mem_range.1 hj)]
def AtN (w:World) (b n:Nat) (f:Nat→Nat):Prop:=w.heap[b]?=some (.cells (rowN n f) 3 (0,0))
theorem AtN.cell {w:World} {b n:Nat} {f:Nat→Nat} (h:AtN w b n f) (j:Nat) (hj:j<n):w.cell? ⟨b,j,none⟩=some (.int .i64 (f j:Nat)):=by
 rw [cell_of_row w b j _ _ _ h,rowN_get n f j hj]
theorem AtN.frozen {w:World} {b n:Nat} {f:Nat→Nat} (h:AtN w b n f) (j:Nat):w.frozen? ⟨b,j,none⟩=false:=frozen_of_row w b j _ _ h
theorem AtN.lt {w:World} {b n:Nat} {f:Nat→Nat} (h:AtN w b n f):b<w.heap.size:=(Array.getElem?_eq_some_iff.1 h).1
theorem AtN.set {w:World} {b n:Nat} {f:Nat→Nat} (h:AtN w b n f) (j v:Nat):AtN (w.setCell ⟨b,j,none⟩ (.int .i64 (v:Nat))) b n fun i=>if i=j then v else f i:=by
 unfold AtN;rw [heap_setCell_same w b j _ _ _ h,←rowN_set]
theorem AtN.other {w:World} {b c j n:Nat} {v:Value} {f:Nat→Nat} (h:AtN w b n f) (hc:b≠c):AtN (w.setCell ⟨c,j,none⟩ v) b n f:=by
 unfold AtN;rw [heap_setCell_other w ⟨c,j,none⟩ b v (fun e=>hc e)]
 exact h
theorem AtN.below {w w':World} {b n:Nat} {f:Nat→Nat} (h:AtN w b n f) (k:Below w.heap.size w w'):AtN w' b n f:=by unfold AtN;rw [k.block b h.lt];exact h
theorem AtN.congr {w:World} {b n:Nat} {f g:Nat→Nat} (h:AtN w b n f) (e:∀j,j<n→f j=g j):AtN w b n g:=by unfold AtN;rw [←rowN_congr e];exact h
theorem AtN.isInts {w:World} {b n:Nat} {f:Nat→Nat} (h:AtN w b n f):IsInts w (some ⟨b,0,none⟩) (ints ((List.range n).map f)):=by
 intro h0;refine ⟨b,0,rfl,h.lt,fun i hi=>?_⟩
 have hi':i<n:=by rw [ints_length,List.length_map,List.length_range] at hi;exact hi
 rw [Nat.zero_add,h.cell i hi'];simp [ints]
theorem madeN (n:Nat):madeCells #[.int .i64 0] n=rowN n fun _=>0:=by
 unfold madeCells rowN
 apply Array.ext_getElem?
 intro i
 by_cases h:i<n
 ·simp [h,Nat.mod_one]
 ·simp [h]
theorem make_ints (n:Nat) (hn:n≤1000000) (w:World):(Instr.makeSlice 92 (.int .i64 n) (.int .i64 n)).run Tryz.prog w=.ok (.slice (some ⟨w.heap.size,0,none⟩) n n) (w.alloc (.cells (rowN n fun _=>0) 3)):=by
 obtain ⟨i0,hi,hz0,hz1,hz2⟩:=info_parts info_int
 have:=run_make (P:=Tryz.prog) w 92 3 i0 (.int .i64 0) Tryz.underlying92 hi hz0 .i64 .i64 n n (by omega) (by omega) (by rw [hz2];omega) (by omega)
 rw [hz1] at this
 simpa [Value.cells,madeN] using this
def litC (l:List Tok) (s:Nat):Nat:=(litsOf l++[256]).count s
def dstC (l:List Tok) (s:Nat):Nat:=(dstsOf l).count s
theorem litC_eq (l:List Tok) (s:Nat):litC l s=(litsOf l).count s+if s=256 then 1 else 0:=count_snoc _ _ _
theorem take_next (l:List Tok) (k:Nat) (h:k<l.length):l.take (k+1)=l.take k++[l[k]]:=List.take_succ_eq_append_getElem h
theorem lits_le (l:List Tok) (s:Nat):(litsOf l).count s≤l.length:=
 Nat.le_trans List.count_le_length (by unfold litsOf;rw [List.length_map];exact List.length_filter_le _ _)
theorem dsts_le (l:List Tok) (s:Nat):(dstsOf l).count s≤l.length:=
 Nat.le_trans List.count_le_length (by unfold dstsOf;rw [List.length_map];exact Nat.le_trans (List.length_filter_le _ _) (List.length_filter_le _ _))
theorem next_bad {l:List Tok} {k:Nat} (h:k<l.length) (hv:okT l[k]=false):litsOf (l.take (k+1))=litsOf (l.take k)∧dstsOf (l.take (k+1))=dstsOf (l.take k):=by
 rw [take_next l k h,litsOf_snoc,dstsOf_snoc,hv]
 simp
theorem next_byte {l:List Tok} {k:Nat} (h:k<l.length) (hv:okT l[k]=true) (h0:l[k].L=0) (s:Nat) :
  (litsOf (l.take (k+1))).count s=(litsOf (l.take k)).count s+(if s=l[k].B.toNat then 1 else 0)∧dstsOf (l.take (k+1))=dstsOf (l.take k):=by
 rw [take_next l k h,litsOf_snoc,dstsOf_snoc,hv,h0,if_pos rfl,count_snoc];simp [litN,h0]
theorem next_piece {l:List Tok} {k:Nat} (h:k<l.length) (hv:okT l[k]=true) (h0:l[k].L≠0) (s:Nat) :
  (litsOf (l.take (k+1))).count s=(litsOf (l.take k)).count s+(if s=257+li l[k].L.toNat then 1 else 0)∧(dstsOf (l.take (k+1))).count s=(dstsOf (l.take k)).count s+(if s=di l[k].D.toNat then 1 else 0):=by
 have e:litN l[k]=257+li l[k].L.toNat:=by unfold litN;rw [if_neg h0]
 rw [take_next l k h,litsOf_snoc,dstsOf_snoc,hv,if_pos rfl,count_snoc,e];refine ⟨rfl,?_⟩;rw [show (true&&l[k].L != 0)=true by simp [h0],if_pos rfl,count_snoc]
theorem tok_block {w:World} {P:Nat} {b l d:Int} {T:TypeId} (h:w.heap[P]?=some (.cells #[.int .i64 b,.int .i64 l,.int .i64 d] T (0,0))) :
  w.cell? ⟨P,0,none⟩=some (.int .i64 b)∧w.cell? ⟨P,1,none⟩=some (.int .i64 l)∧w.cell? ⟨P,2,none⟩=some (.int .i64 d):=by
 refine ⟨?_,?_,?_⟩
 ·rw [cell_of_row _ _ 0 _ _ _ h];rfl
 ·rw [cell_of_row _ _ 1 _ _ _ h];rfl
 ·rw [cell_of_row _ _ 2 _ _ _ h];rfl
theorem len_sym {t:Tok} (hv:okT t=true) (h0:t.L≠0):lenS t.L=(257+li t.L.toNat,t.L.toNat-LB (li t.L.toNat),LX (li t.L.toNat)):=by
 obtain ⟨_,h1,h2,_⟩:=okT_piece hv h0;unfold lenS;rw [if_pos ⟨h1,h2⟩]
theorem dist_sym {t:Tok} (hv:okT t=true) (h0:t.L≠0):distS t.D=(di t.D.toNat,t.D.toNat-DB (di t.D.toNat),DX (di t.D.toNat)):=by
 obtain ⟨_,_,_,h1,h2⟩:=okT_piece hv h0;unfold distS;rw [if_pos ⟨h1,h2⟩]
theorem two_rows (w:World) (n m:Nat) (F G:Nat→Nat):AtN ((w.alloc (.cells (rowN n F) 3)).alloc (.cells (rowN m G) 3)).drew w.heap.size n F ∧
  AtN ((w.alloc (.cells (rowN n F) 3)).alloc (.cells (rowN m G) 3)).drew (w.heap.size+1) m G∧Below w.heap.size w ((w.alloc (.cells (rowN n F) 3)).alloc (.cells (rowN m G) 3)).drew:=by
 refine ⟨?_,?_,?_⟩
 ·unfold AtN;show ((w.alloc (.cells (rowN n F) 3)).alloc (.cells (rowN m G) 3)).heap[w.heap.size]?=_;rw [Below.heap_alloc _ _ _ (by simp)];exact heap_alloc_new _ _
 ·have:=heap_alloc_new (w.alloc (.cells (rowN n F) 3)) (.cells (rowN m G) 3)
  rw [show (w.alloc (.cells (rowN n F) 3)).heap.size=w.heap.size+1 by simp] at this
  exact this
 ·have:=((Below.refl w.heap.size w).alloc (Nat.le_refl _) (.cells (rowN n F) 3)).alloc (by simp) (.cells (rowN m G) 3)
  exact ⟨this.os,this.tape,this.output,this.size,this.block⟩
theorem two_tok (wr:World) (t:Tok):((wr.alloc (.cells #[.int .i64 t.B,.int .i64 t.L,.int .i64 t.D] 136)).alloc (.cells (tokC t) 136)).heap[wr.heap.size]?=some (.cells #[.int .i64 t.B,.int .i64 t.L,.int .i64 t.D] 136 (0,0)) ∧
  Below wr.heap.size wr ((wr.alloc (.cells #[.int .i64 t.B,.int .i64 t.L,.int .i64 t.D] 136)).alloc (.cells (tokC t) 136)) ∧
  wr.heap.size<((wr.alloc (.cells #[.int .i64 t.B,.int .i64 t.L,.int .i64 t.D] 136)).alloc (.cells (tokC t) 136)).heap.size:=by
 refine ⟨?_,((Below.refl _ _).alloc (Nat.le_refl _) _).alloc (by simp) _,by simp;omega⟩
 rw [Below.heap_alloc _ _ _ (by simp)];exact heap_alloc_new _ _
theorem count_any (a:Option Addr) (l:List Tok) (n cap:Nat) (w:World) (hn:l.length=n) (h:IsToks w a l) (hl:n≤1000000) :
  Calls Tryz.prog 121 #[.slice a n cap] w fun e w'=>∃g1 g2,e=.returned (.tuple #[.slice (some ⟨g1,0,none⟩) 286 286,.slice (some ⟨g2,0,none⟩) 30 30])∧AtN w' g1 286 (litC l)∧AtN w' g2 30 (dstC l)∧Below w.heap.size w w':=by
 have H:=hid h;clear h;have m1:∀w,(Instr.makeSlice 92 (.int .i64 286) (.int .i64 286)).run Tryz.prog w=.ok (.slice (some ⟨w.heap.size,0,none⟩) 286 286) (w.alloc (.cells (rowN 286 fun _=>0) 3)):=make_ints 286 (by decide)
 have m2:∀w,(Instr.makeSlice 92 (.int .i64 30) (.int .i64 30)).run Tryz.prog w=.ok (.slice (some ⟨w.heap.size,0,none⟩) 30 30) (w.alloc (.cells (rowN 30 fun _=>0) 3)):=make_ints 30 (by decide)
 obtain ⟨B,hB⟩:∃B,w.heap.size=B:=⟨_,rfl⟩;have HBW:=hid hB;clear hB
 go_enter Tryz.func121,Tryz.ntmps121
 go_wp2_with fail
 go_region
 rotate_left
 obtain ⟨A2,A1,BB0⟩:=two_rows w 30 286 (fun _=>0) (fun _=>0)
 have hne:w.heap.size+1≠w.heap.size:=by omega
 rw [HBW.out] at BB0;have BB:=hid BB0;have hge1:B≤w.heap.size+1:=by rw [←HBW.out];omega
 have hge2:B≤w.heap.size:=by rw [←HBW.out];exact Nat.le_refl _
 clear BB0;generalize ((w.alloc (.cells (rowN 30 fun _=>0) 3)).alloc (.cells (rowN 286 fun _=>0) 3)).drew=w1 at *
 generalize w.heap.size+1=g1 at A1 hne hge1 ⊢;generalize w.heap.size=g2 at A2 hne hge2 ⊢
 rotate_left
 obtain ⟨A1,A2,BB0⟩:=two_rows w 286 30 (fun _=>0) (fun _=>0)
 have hne:w.heap.size≠w.heap.size+1:=by omega
 rw [HBW.out] at BB0;have BB:=hid BB0;have hge1:B≤w.heap.size:=by rw [←HBW.out];exact Nat.le_refl _
 have hge2:B≤w.heap.size+1:=by rw [←HBW.out];omega
 clear BB0;generalize ((w.alloc (.cells (rowN 286 fun _=>0) 3)).alloc (.cells (rowN 30 fun _=>0) 3)).drew=w1 at *
 generalize w.heap.size+1=g2 at A2 hne hge2 ⊢;generalize w.heap.size=g1 at A1 hne hge1 ⊢
 all_goals (
  have HA:=hid (And.intro A1 A2);clear A1 A2 m1 m2
  go_wp2_with fail
  go_loopw [16] (fun i wr=>∃k:Nat,k≤n∧i=.int .i64 k∧AtN wr g1 286 (fun s=>(litsOf (l.take k)).count s)∧AtN wr g2 30 (fun s=>(dstsOf (l.take k)).count s)∧Below B w wr) (fun i _=>n-(intOf i).toNat)
  case atStart=>exact ⟨0,Nat.zero_le _,rfl,HA.out.1,HA.out.2,BB.out⟩
  case round=>
   obtain ⟨k,hk,rfl,h1,h2,hb⟩:=hrel;clear HA
   by_cases hlt:k<n
   ·obtain ⟨b,off,rfl,hbb,hc⟩:=H.out (by omega)
    obtain ⟨q1,q2,q3⟩:=hc k (by omega)
    have hbB:b<B:=by rw [←HBW.out];exact hbb
    have c1:=(hb.cell (p:=⟨b,off+k*3,none⟩) hbB).trans q1;have c2:=(hb.cell (p:=⟨b,off+k*3+1,none⟩) hbB).trans q2;have c3:=(hb.cell (p:=⟨b,off+k*3+2,none⟩) hbB).trans q3;have hkl:k<l.length:=by omega
    have NB:=hid (fun hv=>next_bad (l:=l) (k:=k) hkl hv)
    have NT:=hid (fun hv h0 s=>next_byte (l:=l) (k:=k) hkl hv h0 s)
    have NP:=hid (fun hv h0 s=>next_piece (l:=l) (k:=k) hkl hv h0 s)
    clear q1 q2 q3 hc hbb;generalize htk:l[k]=t at *;have H1:=hid h1;have H2:=hid h2;have HB:=hid hb;clear h1 h2 hb htk
    go_wp2_with fail
    refine (valid_any t _).mono ?_;rintro r w' ⟨rfl,rfl⟩;obtain ⟨hP,b2,hz⟩:=two_tok wr t;generalize ((wr.alloc (.cells #[.int .i64 t.B,.int .i64 t.L,.int .i64 t.D] 136)).alloc (.cells (tokC t) 136))=w2 at *;generalize hPp:wr.heap.size=P at *;obtain ⟨d0,d1,d2⟩:=tok_block hP;have hb2:Below B w w2:=HB.out.trans (b2.mono (by rw [←hPp];have:=HB.out.size;rw [HBW.out] at this;exact this))
    have n1:AtN w2 g1 286 (fun s=>(litsOf (l.take k)).count s):=H1.out.below (by rw [hPp];exact b2)
    have n2:AtN w2 g2 30 (fun s=>(dstsOf (l.take k)).count s):=H2.out.below (by rw [hPp];exact b2)
    have HB2:=hid hb2;have HP:=hid hP;have hPg1:P≠g1:=by have:=H1.out.lt;omega
    clear b2 hPp hb2 H1 H2 HB c1 c2 c3 hP
    cases hv:okT t with
    | false=>
     obtain ⟨e1,e2⟩:=NB.out hv;have N12:=hid (And.intro n1 n2);have E12:=hid (And.intro e1 e2);clear n1 n2 e1 e2 hv
     go_wp2_with fail
     refine ⟨⟨k+1,by omega,by go_num,by rw [E12.out.1];exact N12.out.1,by rw [E12.out.2];exact N12.out.2,HB2.out⟩,?_⟩
     simp [intOf];omega
    | true=>
     by_cases h0:t.L=0
     ·obtain ⟨hd,hB0,hB1⟩:=okT_byte hv h0;have NT2:=hid (NT.out hv h0);obtain ⟨bN,hbN⟩:∃bN:Nat,t.B=bN:=⟨t.B.toNat,by omega⟩
      have hbt:t.B.toNat=bN:=by omega
      rw [hbt] at NT2;rw [hbN] at d0;rw [h0] at d1;have hbN2:bN<286:=by omega
      have hbN3:(bN:Int)<286:=by omega
      have c5:=n1.cell bN hbN2;have f5:=n1.frozen bN;have hle:=lits_le (l.take k) bN;have hle2:(l.take k).length≤1000000:=by rw [List.length_take];omega
      have s1:=n1.set bN ((litsOf (l.take k)).count bN+1);have s2:=n2.other (j:=bN) (v:=.int .i64 (((litsOf (l.take k)).count bN+1:Nat):Int)) (Ne.symm hne);have S12:=hid (And.intro s1 s2);rw [Int.natCast_add,Int.natCast_one] at S12;have hx1:(List.count bN (litsOf (List.take k l)):Int)≤1000000:=by omega
      generalize hX:List.count bN (litsOf (List.take k l))=X at *;have HX:=hid hX;have HV:=hid hv;clear s1 s2 n1 n2 hle hle2 hd hB0 hB1 hbN hbt hv NP NB NT hX
      go_wp2_with fail
      refine ⟨⟨k+1,by omega,by go_num,S12.out.1.congr fun s hs=>?_,S12.out.2.congr fun s hs=>by rw [(NT2.out 0).2],HB2.out.setCell hge1 _⟩,?_⟩
      ·rw [(NT2.out s).1]
       by_cases hsb:s=bN
       ·subst hsb;rw [if_pos rfl,if_pos rfl,HX.out]
       ·rw [if_neg hsb,if_neg hsb,Nat.add_zero]
      ·simp [intOf];omega
     ·have NP2:=hid (NP.out hv h0);have hLlt:=(okT_piece hv h0);have hl1:257+li t.L.toNat<286:=by have:=litN_lt hv;unfold litN at this;rw [if_neg h0] at this;exact this
      have hl2:=di_lt hv h0;have CL:=hid (fun w=>length_any t.L (by omega) w)
      have CD:=hid (fun w=>distance_any t.D (by omega) w)
      rw [len_sym hv h0] at CL;rw [dist_sym hv h0] at CD;unfold trip at CL CD;have hL0:(t.L==0)=false:=by simpa using h0
      generalize 257+li t.L.toNat=sL at *;generalize di t.D.toNat=sD at *;generalize t.L.toNat-LB (li t.L.toNat)=eL at *;generalize LX (li t.L.toNat)=bL at *;generalize t.D.toNat-DB sD=eD at *;generalize DX sD=bD at *;have hx1:=lits_le (l.take k) sL;have hx2:=dsts_le (l.take k) sD;have hle2:(l.take k).length≤1000000:=by rw [List.length_take];omega
      have hx3:(List.count sL (litsOf (List.take k l)):Int)≤1000000:=by omega
      have hx4:(List.count sD (dstsOf (List.take k l)):Int)≤1000000:=by omega
      have N12:=hid (And.intro n1 n2);have HBN:Hid (B≤w2.heap.size):=hid (by have:=HB2.out.size;rw [HBW.out] at this;exact this)
      clear hx1 hx2 hle2 hLlt n1 n2 NP NB NT d0 d2
      go_wp2_with fail
      refine (CL.out _).mono ?_;rintro r w3 ⟨rfl,b3⟩;have n1:=N12.out.1.below b3;have n2:=N12.out.2.below b3;obtain ⟨d0,d1,d2⟩:=tok_block ((b3.block P hz).trans HP.out);have hb3:Below B w w3:=HB2.out.trans (b3.mono HBN.out);have c5:=n1.cell sL hl1;have f5:=n1.frozen sL;have hl1':(sL:Int)<286:=by omega
      have s1:=n1.set sL ((litsOf (l.take k)).count sL+1);have s2:=n2.other (j:=sL) (v:=.int .i64 (((litsOf (l.take k)).count sL+1:Nat):Int)) (Ne.symm hne);rw [Int.natCast_add,Int.natCast_one] at s1 s2;have hb4:=hb3.setCell (p:=⟨g1,sL,none⟩) hge1 (.int .i64 ((List.count sL (litsOf (List.take k l)):Int)+1))
      have d2':(w3.setCell ⟨g1,sL,none⟩ (.int .i64 ((List.count sL (litsOf (List.take k l)):Int)+1))).cell? ⟨P,2,none⟩=some (.int .i64 t.D):=by
       rw [World.cell?_of_block (w:=w3) (heap_setCell_other w3 ⟨g1,sL,none⟩ P _ (fun e=>hPg1 e))]
       exact d2
      generalize hW4:w3.setCell ⟨g1,sL,none⟩ (.int .i64 ((List.count sL (litsOf (List.take k l)):Int)+1))=w4 at *;have S12:=hid (And.intro s1 s2);have HB4:=hid hb4;clear s1 s2 hb4 b3 hb3 n1 n2 d0 d1 d2 CL;generalize hX:List.count sL (litsOf (List.take k l))=X at *;have HX:=hid hX;clear hX
      go_wp2_with fail
      refine (CD.out _).mono ?_;rintro r w5 ⟨rfl,b5⟩;have n1:=S12.out.1.below b5;have n2:=S12.out.2.below b5;have hb5:Below B w w5:=HB4.out.trans (b5.mono (by have:=HB4.out.size;rw [HBW.out] at this;exact this))
      have c6:=n2.cell sD hl2;have f6:=n2.frozen sD;have hl2':(sD:Int)<30:=by omega
      have s2:=n2.set sD ((dstsOf (l.take k)).count sD+1);have s1:=n1.other (j:=sD) (v:=.int .i64 (((dstsOf (l.take k)).count sD+1:Nat):Int)) hne;have S12:=hid (And.intro s1 s2);rw [Int.natCast_add,Int.natCast_one] at S12;have HB6:=hid (hb5.setCell (p:=⟨g2,sD,none⟩) hge2 (.int .i64 ((List.count sD (dstsOf (List.take k l)):Int)+1)));clear s1 s2 hb5 b5 n1 n2 CD c5 f5 d2' hW4;generalize hY:List.count sD (dstsOf (List.take k l))=Y at *;have HY:=hid hY;clear hY
      go_wp2_with fail
      refine ⟨⟨k+1,by omega,by go_num,S12.out.1.congr fun s hs=>?_,S12.out.2.congr fun s hs=>?_,HB6.out⟩,?_⟩
      ·rw [(NP2.out s).1]
       by_cases hsb:s=sL
       ·subst hsb;rw [if_pos rfl,if_pos rfl,HX.out]
       ·rw [if_neg hsb,if_neg hsb,Nat.add_zero]
      ·rw [(NP2.out s).2]
       by_cases hsb:s=sD
       ·subst hsb;rw [if_pos rfl,if_pos rfl,HY.out]
       ·rw [if_neg hsb,if_neg hsb,Nat.add_zero]
      ·simp [intOf];omega
   ·obtain rfl:k=n:=by omega
    have htk:l.take k=l:=List.take_of_length_le (by omega)
    rw [htk] at h1 h2;have c5:=h1.cell 256 (by decide)
    have f5:=h1.frozen 256;have hle:=lits_le l 256;have hx1:(List.count 256 (litsOf l):Int)≤1000000:=by omega
    have s1:=h1.set 256 ((litsOf l).count 256+1);have s2:=h2.other (j:=256) (v:=.int .i64 (((litsOf l).count 256+1:Nat):Int)) (Ne.symm hne);have S12:=hid (And.intro s1 s2);rw [Int.natCast_add,Int.natCast_one] at S12;have HB6:=hid (hb.setCell (p:=⟨g1,256,none⟩) hge1 (.int .i64 ((List.count 256 (litsOf l):Int)+1)));generalize hX:List.count 256 (litsOf l)=X at *;have HX:=hid hX;clear hX s1 s2 h1 h2 hb hle htk
    go_wp2_with fail
    go_ret2;refine ⟨g1,g2,rfl,S12.out.1.congr fun s hs=>?_,S12.out.2,by rw [HBW.out];exact HB6.out⟩
    rw [litC_eq]
    by_cases hsb:s=256
    ·subst hsb;rw [if_pos rfl,if_pos rfl,HX.out]
    ·rw [if_neg hsb,if_neg hsb,Nat.add_zero])
end Go.Proofs.YthbjllabgpaaaaaGreat.Sym
namespace Go.Proofs.YthbjllabgpaaaaaGreat.Sym
open Go.Lib (hid)
set_option maxHeartbeats 8000000
open Go.ChangeShapes Go.WideShapes Go.ChangeAt Go.RowKit
open Go.Proofs.YthbjllabgpaaaaaGreat.Huf (IsInts info_int info_parts)
open Go.Proofs.YthbjllabgpaaaaaGreat.Lz (Tok okT tokC IsToks TokAt valid_any refValid_any okT_byte okT_piece)
set_option linter.unusedVariables false
set_option maxRecDepth 100000

end Go.Proofs.YthbjllabgpaaaaaGreat.Sym
namespace Go.Proofs.YthbjllabgpaaaaaGreat.Sym
open Go.Lib (hid)
set_option maxHeartbeats 8000000
open Go.ChangeShapes Go.WideShapes Go.ChangeAt Go.RowKit
open Go.Proofs.YthbjllabgpaaaaaGreat.Huf (IsInts fine nats nats_length codes_good codes_bad rowC rowC_get codeV fine_parts)
open Go.Proofs.YthbjllabgpaaaaaGreat.Lz (Tok okT tokC IsToks TokAt okT_byte okT_piece)
open Go.Proofs.YthbjllabgpaaaaaGreat.Bit (WrAt WrRaw But Near wbits_any wcode_any codeBits bitsOf cnt)
set_option linter.unusedVariables false
set_option maxRecDepth 100000
theorem rowK {w w':World} {base n size:Nat} {e:TypeId} {v:Value} {xs:List Value} (h:w.ownsRow base e size v n xs) (hk:∀j,v.ownBlock=some j→w'.heap[j]?=w.heap[j]?):w'.ownsRow base e size v n xs:=by
 refine ⟨h.1,?_⟩;rcases h.2 with h0 | ⟨g,cap,cur,rfl,h1,h2,h3⟩
 ·exact .inl h0
 ·exact .inr ⟨g,cap,cur,rfl,h1,by rw [hk g rfl];exact h2,h3⟩
def CodesAt (w:World) (b n:Nat) (N:List Nat):Prop:=w.ownsRow 0 151 2 (.slice (some ⟨b,0,none⟩) n n) n (rowC n (codeV N) (fun i=>N.getD i 0))
theorem CodesAt.cells {w:World} {b n:Nat} {N:List Nat} (h:CodesAt w b n N) (i:Nat) (hi:i<n):w.cell? ⟨b,i*2,none⟩=some (.int .i64 (codeV N i:Nat))∧w.cell? ⟨b,i*2+1,none⟩=some (.int .i64 (N.getD i 0:Nat)):=by
 obtain ⟨h1,h2⟩:=rowC_get n (codeV N) (fun i=>N.getD i 0) i hi
 exact ⟨(h.cellAt (i*2) (by omega)).trans h1,(h.cellAt (i*2+1) (by omega)).trans h2⟩
theorem CodesAt.lt {w:World} {b n:Nat} {N:List Nat} (h:CodesAt w b n N):b<w.heap.size:=(World.ownsRow.lt h b rfl).2
theorem CodesAt.below {w w':World} {b n:Nat} {N:List Nat} (h:CodesAt w b n N) (k:Below w.heap.size w w'):CodesAt w' b n N:=
 rowK h fun j hj=>k.block j (World.ownsRow.lt h j hj).2
theorem CodesAt.but {w w':World} {b n g:Nat} {v:Value} {bs:List UInt8} {f:Int} {N:List Nat} (h:CodesAt w g n N) (hw:WrRaw w b v bs f) (k:But b v w w'):CodesAt w' g n N:=
 rowK h fun j hj=>by
  cases hj
  refine k.block g h.lt (fun e=>?_) (fun e=>?_)
  ·obtain ⟨_,h2⟩:=h;rcases h2 with ⟨e1,_⟩ | ⟨g',cap,cur,e1,_,h3,_⟩
   ·cases e1
   ·cases e1
    have:=hw.blk
    rw [←e,h3] at this;simp at this
  ·obtain ⟨_,h2⟩:=h;rcases h2 with ⟨e1,_⟩ | ⟨g',cap,cur,e1,_,h3,_⟩
   ·cases e1
   ·cases e1
    rcases hw.own.2 with ⟨e2,_⟩ | ⟨g2,cap2,cur2,e2,_,h4,_⟩
    ·rw [e2] at e;cases e
    ·rw [e2] at e
     cases e
     rw [h3] at h4;simp at h4
theorem wr_below {w w':World} {b:Nat} {v:Value} {l:List Bool} (h:WrAt w b v l) (k:Below w.heap.size w w'):WrAt w' b v l:=WrRaw.below h k
theorem put_any (fid:FuncId) (b:Nat) (v:Value) (l:List Bool) (c n s e k:Nat) (N:List Nat) (x:Int) (w:World) (hw:WrAt w b v l) (hc:CodesAt w c n N) (hs:s<n) (hk:k≤32)
  (hE:Enters Tryz.prog fid) (hf:∀w,Calls Tryz.prog fid #[.int .i64 x] w fun r w'=>r=.returned (trip (s,e,k))∧Below w.heap.size w w') (hm:l.length≤1000000000) :
  Calls Tryz.prog 155 #[.pointer (some ⟨b,0,none⟩),.slice (some ⟨c,0,none⟩) n n,.func (.func fid) #[] #[],.int .i64 x] w fun r w'=>r=.returned (.tuple #[]) ∧
   ∃v',WrAt w' b v' (l++codeBits (codeV N s) (N.getD s 0)++bitsOf k e)∧But b v w w'∧Near w v v':=by
 have HF:=hid hf;have HW:=hid hw;have HC:=hid hc;clear hf hw hc;obtain ⟨cx,hcx⟩:∃cx,codeV N s=cx:=⟨_,rfl⟩;obtain ⟨cy,hcy⟩:∃cy,N.getD s 0=cy:=⟨_,rfl⟩
 have HCC:Hid (∀w',Below w.heap.size w w'→w'.cell? ⟨c,s*2,none⟩=some (.int .i64 cx)∧w'.cell? ⟨c,s*2+1,none⟩=some (.int .i64 cy)):=hid fun w' hb=>by
  rw [←hcx,←hcy];exact (HC.out.below hb).cells s hs
 rw [hcx,hcy];clear hcx hcy HC;have hE2:∀w,(callFunc fid #[.int .i64 x]).run Tryz.prog w=.ok (.enter fid #[.int .i64 x]) w:=fun w=>hE _ w
 clear hE;unfold trip at HF
 go_enter Tryz.func155,Tryz.ntmps155
 go_wp2_with fail
 refine (HF.out w).mono ?_;rintro r w1 ⟨rfl,b1⟩;have HB1:Hid (But b v w w1):=hid (But.below b1);have HW1:=hid (wr_below HW.out b1);obtain ⟨c0,c1⟩:=HCC.out w1 b1;have hs':(s:Int)<n:=by omega
 clear b1 HCC HF HW
 go_wp2_with fail
 refine (wcode_any b v l cx cy w1 HW1.out (by omega)).mono ?_
 rintro r w2 ⟨rfl,v2,h2,b2,n2⟩;have HB2:=hid (HB1.out.trans (Near.refl _ _) b2);have HW2:=hid h2
 have HN2:Hid (Near w v v2):=hid fun k hk=>by
  rcases n2 k hk with h | h
  ·exact .inl h
  ·exact .inr (Nat.le_trans HB1.out.size h)
 clear h2 b2 n2 HB1 HW1 c0 c1
 go_wp2_with fail
 refine (wbits_any b v2 _ k e w2 HW2.out (by rw [List.length_append,Bit.codeBits_length];have:=Bit.cnt_le cy;omega)).mono ?_
 rintro r w3 ⟨rfl,v3,h3,b3,n3⟩;have HB3:=hid (HB2.out.trans HN2.out b3);have HN3:=hid (HN2.out.trans n3 HB2.out.size);have hck:cnt (k:Int)=k:=Bit.cnt_nat k hk;rw [hck] at h3;have HW3:=hid h3;clear h3 b3 n3 HB2 HN2 HW2 hck
 go_wp2_with fail
 go_end0;exact ⟨rfl,v3,HW3.out,HB3.out,HN3.out⟩
theorem covering_bad (a1 a2:Option Addr) (n c1 m c2:Nat) (L:List Int) (w:World) (hn:L.length=n) (h:IsInts w a1 L) (hl:n≤1000000) (hf:fine L=false) :
  Calls Tryz.prog 154 #[.slice a1 n c1,.slice a2 m c2] w fun r w'=>r=.returned (.tuple #[.slice none 0 0,.int .i64 50])∧Below w.heap.size w w':=by
 have C1:=hid (codes_bad a1 n c1 L w hn h hl hf);clear h hf
 go_enter Tryz.func154,Tryz.ntmps154
 go_wp2_with fail
 refine C1.out.mono ?_;rintro r w1 ⟨rfl,b1⟩;have HB:=hid b1;clear b1
 go_wp2_with fail
 go_ret2;exact ⟨rfl,HB.out⟩
def covB (N:List Nat) (f:Nat→Nat):Nat→Bool
 | 0=>true
 | m+1=>covB N f m&&(decide (f m=0)||decide (N.getD m 0≠0))
theorem covB_iff (N:List Nat) (f:Nat→Nat):∀m,covB N f m=true↔∀s,s<m→f s≠0→N.getD s 0≠0
 | 0=>by simp [covB]
 | m+1=>by
  unfold covB;rw [Bool.and_eq_true,covB_iff N f m]
  constructor
  ·rintro ⟨h1,h2⟩ s hs h0
   by_cases e:s=m
   ·subst e;simp only [Bool.or_eq_true,decide_eq_true_eq] at h2;exact h2.resolve_left h0
   ·exact h1 s (by omega) h0
  ·intro h;refine ⟨fun s hs h0=>h s (by omega) h0,?_⟩
   simp only [Bool.or_eq_true,decide_eq_true_eq]
   by_cases h0:f m=0
   ·exact .inl h0
   ·exact .inr (h m (by omega) h0)
theorem covB_false {N:List Nat} {f:Nat→Nat} {m s:Nat} (hs:s<m) (h0:f s≠0) (h1:N.getD s 0=0):covB N f m=false:=by
 cases h:covB N f m with
 | false=>rfl
 | true=>exact absurd h1 ((covB_iff N f m).1 h s hs h0)
theorem covering_good (a1:Option Addr) (g n c1 m:Nat) (f:Nat→Nat) (L:List Int) (w:World) (hn:L.length=n) (h:IsInts w a1 L) (hf:fine L=true) (hg:AtN w g m f) (hm:m≤1000) :
  Calls Tryz.prog 154 #[.slice a1 n c1,.slice (some ⟨g,0,none⟩) m m] w fun r w'=>
   (covB (nats L) f m=true∧∃b,r=.returned (.tuple #[.slice (some ⟨b,0,none⟩) n n,.int .i64 0])∧CodesAt w' b n (nats L)∧Below w.heap.size w w') ∨
   (covB (nats L) f m=false∧r=.returned (.tuple #[.slice none 0 0,.int .i64 50])∧Below w.heap.size w w'):=by
 obtain ⟨f1,f2,f3⟩:=fine_parts hf;have C1:=hid (codes_good a1 n c1 L w hn h hf);have hNl:(nats L).length=n:=by rw [nats_length];exact hn
 have HG:=hid hg;have hn320:n≤320:=by omega
 clear h hf f2 f3 f1 hg;generalize nats L=N at *
 go_enter Tryz.func154,Tryz.ntmps154
 go_wp2_with fail
 refine C1.out.mono ?_;rintro r w1 ⟨b,rfl,b1,o1⟩;have HB:=hid b1;have HG1:=hid (HG.out.below b1)
 have HC:Hid (CodesAt w1 b n N):=hid (by
  refine ⟨o1.1,?_⟩;rcases o1.2 with h0 | ⟨g',cap,cur,h1,_,h3⟩
  ·exact .inl h0
  ·exact .inr ⟨g',cap,cur,h1,Nat.zero_le _,h3⟩)
 clear b1 o1 C1 HG
 go_wp2_with fail
 go_loopw [20] (fun i wr=>∃k:Nat,k≤m∧i=.int .i64 k∧covB N f k=true∧wr=w1) (fun i _=>m-(intOf i).toNat)
 case atStart=>exact ⟨0,Nat.zero_le _,rfl,rfl,rfl⟩
 case round=>
  obtain ⟨k,hk,rfl,hcov,rfl⟩:=hrel
  by_cases hlt:k<m
  ·have hlt':(k:Int)<m:=by omega
   have ck:=HG1.out.cell k hlt;have HCV:=hid hcov;clear hcov
   by_cases h0:f k=0
   ·have d0:decide ((0:Int)<(f k:Nat))=false:=by simp;omega
    have HN:=hid (show covB N f (k+1)=true by unfold covB;rw [HCV.out,decide_eq_true h0];rfl)
    generalize f k=x at *
    go_wp2_with fail
    refine ⟨⟨k+1,by omega,by go_num,HN.out,by first | trivial | rfl⟩,?_⟩
    simp [intOf];omega
   ·have d0:decide ((0:Int)<(f k:Nat))=true:=by simp;omega
    have p0:0<f k:=by omega
    by_cases hkn:k<n
    ·have d1:decide ((n:Int)≤(k:Int))=false:=by simp;omega
     have p1:¬(n≤k):=by omega
     obtain ⟨e0,e1⟩:=HC.out.cells k hkn
     by_cases hz:N.getD k 0=0
     ·have HF:=hid (covB_false (N:=N) (f:=f) hlt h0 hz);rw [hz] at e1;have d2:(((0:Nat):Int)==0)=true:=rfl;generalize f k=x at *
      go_wp2_with fail
      go_ret2;exact .inr ⟨HF.out,rfl,HB.out⟩
     ·have HN:=hid (show covB N f (k+1)=true by unfold covB;rw [HCV.out,decide_eq_true hz];simp)
      have d2:(((N.getD k 0:Nat):Int)==0)=false:=by generalize N.getD k 0=y at *;simpa using hz
      generalize f k=x at *;generalize N.getD k 0=y at *
      go_wp2_with fail
      refine ⟨⟨k+1,by omega,by go_num,HN.out,by first | trivial | rfl⟩,?_⟩
      simp [intOf];omega
    ·have d1:decide ((n:Int)≤(k:Int))=true:=by simp;omega
     have p1:n≤k:=by omega
     have HF:=hid (covB_false (N:=N) (f:=f) hlt h0 (by rw [List.getD_eq_getElem?_getD,List.getElem?_eq_none (by omega)];rfl))
     generalize f k=x at *
     go_wp2_with fail
     go_ret2;exact .inr ⟨HF.out,rfl,HB.out⟩
  ·obtain rfl:k=m:=by omega
   have HCV:=hid hcov;clear hcov
   go_wp2_with fail
   go_ret2;exact .inl ⟨HCV.out,b,rfl,HC.out,HB.out⟩
end Go.Proofs.YthbjllabgpaaaaaGreat.Sym
namespace Go.Proofs.YthbjllabgpaaaaaGreat.Sym
open Go.Lib (hid)
set_option maxHeartbeats 8000000
open Go.ChangeShapes Go.WideShapes Go.ChangeAt Go.RowKit
open Go.Proofs.YthbjllabgpaaaaaGreat.Huf (IsInts fine nats nats_length codeV fine_parts)
open Go.Proofs.YthbjllabgpaaaaaGreat.Lz (Tok okT tokC IsToks TokAt okT_byte okT_piece valid_any)
open Go.Proofs.YthbjllabgpaaaaaGreat.Bit (WrAt WrRaw But Near wbits_any wcode_any codeBits codeBits_length bitsOf bitsOf_length cnt cnt_le)
set_option linter.unusedVariables false
set_option maxRecDepth 100000
def cd (N:List Nat) (i:Nat):List Bool:=codeBits (codeV N i:Nat) (N.getD i 0:Nat)
def tokW (N M:List Nat) (t:Tok):List Bool:=
 if t.L=0 then cd N t.B.toNat
 else (cd N (257+li t.L.toNat)++bitsOf (LX (li t.L.toNat)) (t.L.toNat-LB (li t.L.toNat):Nat))++(cd M (di t.D.toNat)++bitsOf (DX (di t.D.toNat)) (t.D.toNat-DB (di t.D.toNat):Nat))
def toksW (N M:List Nat) (l:List Tok):List Bool:=l.flatMap (tokW N M)
def wrBits (N M:List Nat) (l:List Tok):List Bool:=toksW N M l++cd N 256
theorem cd_length (N:List Nat) (i:Nat):(cd N i).length≤32:=by unfold cd;rw [codeBits_length];exact cnt_le _
theorem tokW_length (N M:List Nat) (t:Tok):(tokW N M t).length≤90:=by
 unfold tokW;have h1:=cd_length N t.B.toNat;have h2:=cd_length N (257+li t.L.toNat);have h3:=cd_length M (di t.D.toNat);have h4:=LX_le (li t.L.toNat);have h5:=DX_le (di t.D.toNat)
 split
 ·omega
 ·rw [List.length_append,List.length_append,List.length_append,bitsOf_length,bitsOf_length];omega
theorem toksW_length (N M:List Nat) (l:List Tok):(toksW N M l).length≤90*l.length:=by
 unfold toksW
 induction l with
 | nil=>simp
 | cons t l ih=>rw [List.flatMap_cons,List.length_append,List.length_cons];have:=tokW_length N M t;omega
theorem toksW_snoc (N M:List Nat) (l:List Tok) (t:Tok):toksW N M (l++[t])=toksW N M l++tokW N M t:=by simp [toksW]
def cvB (L:List Int) (f:Nat→Nat) (m:Nat):Bool:=fine L&&covB (nats L) f m
def wrE (L M:List Int) (l:List Tok):Int:=if l.all okT=true then (if cvB L (litC l) 286=true∧cvB M (dstC l) 30=true then 0 else 50) else 1
theorem covering_any (a1:Option Addr) (g n c1 m:Nat) (f:Nat→Nat) (L:List Int) (w:World) (hn:L.length=n) (h:IsInts w a1 L) (hl:n≤1000000) (hg:AtN w g m f) (hm:m≤1000) :
  Calls Tryz.prog 154 #[.slice a1 n c1,.slice (some ⟨g,0,none⟩) m m] w fun r w'=>
   (cvB L f m=true∧∃b,r=.returned (.tuple #[.slice (some ⟨b,0,none⟩) n n,.int .i64 0])∧CodesAt w' b n (nats L)∧Below w.heap.size w w') ∨
   (cvB L f m=false∧r=.returned (.tuple #[.slice none 0 0,.int .i64 50])∧Below w.heap.size w w'):=by
 unfold cvB
 cases hf:fine L with
 | false=>
  refine (covering_bad a1 (some ⟨g,0,none⟩) n c1 m m L w hn h hl hf).mono ?_;rintro r w' ⟨rfl,hb⟩;exact .inr ⟨rfl,rfl,hb⟩
 | true=>
  refine (covering_good a1 g n c1 m f L w hn h hf hg hm).mono ?_;rintro r w' (⟨h1,h2⟩ | ⟨h1,h2⟩)
  ·exact .inl ⟨by rw [h1];rfl,h2⟩
  ·exact .inr ⟨by rw [h1];rfl,h2⟩
theorem all_take_succ {l:List Tok} {k:Nat} (h:k<l.length) (h1:(l.take k).all okT=true) (h2:okT l[k]=true):(l.take (k+1)).all okT=true:=by
 rw [take_next l k h,List.all_append,h1];simp [h2]
theorem all_false {l:List Tok} {k:Nat} (h:k<l.length) (h2:okT l[k]=false):¬(l.all okT=true):=by
 intro h3
 have:=(List.all_eq_true.1 h3) l[k] (List.getElem_mem h)
 rw [h2] at this;cases this
theorem has_code {N:List Nat} {f:Nat→Nat} {m n s:Nat} (hN:N.length=n) (h:covB N f m=true) (hs:s<m) (h0:f s≠0):s<n:=by
 have:=(covB_iff N f m).1 h s hs h0
 rcases Nat.lt_or_ge s n with h1 | h1
 ·exact h1
 ·exact absurd (by rw [List.getD_eq_getElem?_getD,List.getElem?_eq_none (by omega)];rfl) this
theorem lit_needs {l:List Tok} {t:Tok} (ht:t∈l) (hv:okT t=true):litC l (litN t)≠0:=by
 unfold litC
 have:litN t∈litsOf l++[256]:=List.mem_append.2 (.inl (List.mem_map.2 ⟨t,List.mem_filter.2 ⟨ht,hv⟩,rfl⟩))
 have:=List.count_pos_iff.2 this
 omega
theorem dst_needs {l:List Tok} {t:Tok} (ht:t∈l) (hv:okT t=true) (h0:t.L≠0):dstC l (di t.D.toNat)≠0:=by
 unfold dstC
 have:di t.D.toNat∈dstsOf l:=List.mem_map.2 ⟨t,List.mem_filter.2 ⟨List.mem_filter.2 ⟨ht,hv⟩,by simpa using h0⟩,rfl⟩
 have:=List.count_pos_iff.2 this
 omega
theorem end_needs (l:List Tok):litC l 256≠0:=by
 unfold litC
 have:256∈litsOf l++[256]:=List.mem_append.2 (.inr (by simp))
 have:=List.count_pos_iff.2 this
 omega
theorem write_any (b:Nat) (v:Value) (l0:List Bool) (a1 a2 a3:Option Addr) (n c1 m c2 q c3:Nat) (L M:List Int) (l:List Tok) (w:World)
  (hw:WrAt w b v l0) (hL:L.length=n) (hM:M.length=m) (hl:l.length=q) (iL:IsInts w a1 L) (iM:IsInts w a2 M) (iT:IsToks w a3 l)
  (ap:0<q→∀x,a3=some x→x.block≠b∧v.ownBlock≠some x.block) (hn:n≤1000000) (hm:m≤1000000) (hq:q≤1000000) (h0:l0.length≤800000000) :
  Calls Tryz.prog 128 #[.pointer (some ⟨b,0,none⟩),.slice a1 n c1,.slice a2 m c2,.slice a3 q c3] w fun r w'=>
   r=.returned (.int .i64 (wrE L M l))∧∃v',WrAt w' b v' (l0++if wrE L M l=0 then wrBits (nats L) (nats M) l else [])∧But b v w w'∧Near w v v':=by
 have HW:=hid hw;have IL:=hid iL;have IM:=hid iM;have IT:=hid iT;have AP:=hid ap;clear hw iL iM iT ap;obtain ⟨E,hE⟩:∃E,wrE L M l=E:=⟨_,rfl⟩;rw [hE];have HE:=hid hE;clear hE
 have NONE:Hid (∀w',Below w.heap.size w w'→∃v',WrAt w' b v' l0∧But b v w w'∧Near w v v'):=hid fun w' h2=>
  ⟨v,wr_below HW.out h2,But.below h2,Near.refl _ _⟩
 go_enter Tryz.func128,Tryz.ntmps128
 go_wp2_with fail
 go_loopw [20] (fun i wr=>∃k:Nat,k≤q∧i=.int .i64 k∧(l.take k).all okT=true∧Below w.heap.size w wr) (fun i _=>q-(intOf i).toNat)
 case atStart=>exact ⟨0,Nat.zero_le _,rfl,rfl,Below.refl _ _⟩
 case round=>
  obtain ⟨k,hk,rfl,hall,hb⟩:=hrel
  by_cases hlt:k<q
  ·obtain ⟨bb,off,rfl,hbb,hc⟩:=IT.out (by omega)
   obtain ⟨q1,q2,q3⟩:=hc k (by omega)
   have c1:=(hb.cell (p:=⟨bb,off+k*3,none⟩) hbb).trans q1;have c2:=(hb.cell (p:=⟨bb,off+k*3+1,none⟩) hbb).trans q2;have c3:=(hb.cell (p:=⟨bb,off+k*3+2,none⟩) hbb).trans q3;have hkl:k<l.length:=by omega
   have AN:=hid (fun (h:okT l[k]=true)=>all_take_succ hkl hall h)
   have AF:=hid (fun (h:okT l[k]=false)=>all_false hkl h)
   clear hc hbb q1 q2 q3 hall;generalize l[k]=t at *;have HB:=hid hb;clear hb
   go_wp2_with fail
   refine (valid_any t _).mono ?_;rintro r w' ⟨rfl,rfl⟩;obtain ⟨_,b2,_⟩:=two_tok wr t;generalize ((wr.alloc (.cells #[.int .i64 t.B,.int .i64 t.L,.int .i64 t.D] 136)).alloc (.cells (tokC t) 136))=w2 at *;have HB2:=hid (HB.out.trans (b2.mono HB.out.size));clear b2 HB c1 c2 c3
   cases hv:okT t with
   | false=>
    have e1:E=1:=by rw [←HE.out];unfold wrE;rw [if_neg (AF.out hv)]
    subst e1;clear hv
    go_wp2_with fail
    go_ret;exact ⟨rfl,NONE.out _ HB2.out⟩
   | true=>
    have HA:=hid (AN.out hv);clear hv
    go_wp2_with fail
    refine ⟨⟨k+1,by omega,by go_num,HA.out,HB2.out⟩,?_⟩
    simp [intOf];omega
  ·obtain rfl:k=q:=by omega
   rw [List.take_of_length_le (by omega)] at hall
   have HALL:=hid hall;have HB:=hid hb;clear hall hb;have CC:=hid (count_any a3 l k c3 wr hl (IT.out.below HB.out (Nat.le_refl _)) (by omega))
   go_wp2_with fail
   refine CC.out.mono ?_;rintro r w2 ⟨g1,g2,rfl,n1,n2,b2⟩;have HB2:=hid (HB.out.trans (b2.mono HB.out.size));have HG1:=hid n1;have HG2:=hid n2;clear b2 n1 n2 CC HB;have C1:=hid (covering_any a1 g1 n c1 286 (litC l) L w2 hL (IL.out.below HB2.out (Nat.le_refl _)) hn HG1.out (by omega))
   go_wp2_with fail
   refine C1.out.mono ?_;rintro r w3 (⟨cv1,x1,rfl,hc1,b3⟩ | ⟨cv1,rfl,b3⟩)
   ·have HB3:=hid (HB2.out.trans (b3.mono HB2.out.size));have HG2':=hid (HG2.out.below b3);have HC1:=hid hc1;have CV1:=hid cv1;clear hc1 b3 C1 HG1 HG2 HB2 cv1;have C2:=hid (covering_any a2 g2 m c2 30 (dstC l) M w3 hM (IM.out.below HB3.out (Nat.le_refl _)) hm HG2'.out (by omega))
    go_wp2_with fail
    refine C2.out.mono ?_;rintro r w4 (⟨cv2,x2,rfl,hc2,b4⟩ | ⟨cv2,rfl,b4⟩)
    ·have HB4:=hid (HB3.out.trans (b4.mono HB3.out.size));have HC1':=hid (HC1.out.below b4);have HC2:=hid hc2;have CV2:=hid cv2;have e0:E=0:=by rw [←HE.out];unfold wrE;rw [if_pos HALL.out,if_pos ⟨CV1.out,cv2⟩]
     subst e0;have HW4:=hid (wr_below HW.out HB4.out);clear hc2 b4 C2 HG2' HB3 HC1 cv2 IL IM;have cov1:covB (nats L) (litC l) 286=true:=by have h:=CV1.out;unfold cvB at h;rw [Bool.and_eq_true] at h;exact h.2
     have cov2:covB (nats M) (dstC l) 30=true:=by have h:=CV2.out;unfold cvB at h;rw [Bool.and_eq_true] at h;exact h.2
     have hNl:(nats L).length=n:=by rw [nats_length];exact hL
     have hMl:(nats M).length=m:=by rw [nats_length];exact hM
     generalize hNL:nats L=N at *;generalize hMK:nats M=K at *;have HNK:=hid (And.intro hNL hMK);clear hNL hMK;have COV:=hid (And.intro cov1 cov2);clear cov1 cov2 CV1 CV2 HE
     go_wp2_with fail
     go_loopw [53] (fun i wr=>∃(j:Nat) (u:Value),j≤k∧i=.int .i64 j∧WrAt wr b u (l0++toksW N K (l.take j))∧But b v w4 wr∧Near w4 v u) (fun i _=>k-(intOf i).toNat)
     case atStart=>exact ⟨0,v,Nat.zero_le _,rfl,by simpa [toksW] using HW4.out,But.refl _ _ _,Near.refl _ _⟩
     case round=>
      obtain ⟨j,u,hj,rfl,hw,hbut,hnear⟩:=hrel;have hc1:=HC1'.out.but HW4.out hbut;have hc2:=HC2.out.but HW4.out hbut;have hlen:=toksW_length N K (l.take j);have hlen2:(l.take j).length≤1000000:=by rw [List.length_take];omega
      have hbits:(l0++toksW N K (l.take j)).length≤900000000:=by rw [List.length_append];omega
      clear hlen hlen2
      by_cases hlt:j<k
      ·have hlt':(j:Int)<k:=by omega
       have hjl:j<l.length:=by omega
       obtain ⟨bb,off,rfl,hbb,hc⟩:=IT.out (by omega)
       obtain ⟨q1,q2,q3⟩:=hc j (by omega)
       obtain ⟨ne1,ne2⟩:=AP.out (by omega) _ rfl
       have hblk:wr.heap[bb]?=w.heap[bb]?:=(hbut.block bb (Nat.lt_of_lt_of_le hbb HB4.out.size) ne1 (fun e=>ne2 e.symm)).trans (HB4.out.block bb hbb)
       have c1:wr.cell? ⟨bb,off+j*3,none⟩=_:=(World.cell?_of_block (w:=w) (w':=wr) (a:=⟨bb,off+j*3,none⟩) hblk).trans q1;have c2:wr.cell? ⟨bb,off+j*3+1,none⟩=_:=(World.cell?_of_block (w:=w) (w':=wr) (a:=⟨bb,off+j*3+1,none⟩) hblk).trans q2;have c3:wr.cell? ⟨bb,off+j*3+2,none⟩=_:=(World.cell?_of_block (w:=w) (w':=wr) (a:=⟨bb,off+j*3+2,none⟩) hblk).trans q3;have hv:okT l[j]=true:=(List.all_eq_true.1 HALL.out) l[j] (List.getElem_mem hjl);have hmem:l[j]∈l:=List.getElem_mem hjl;have TK:=hid (show toksW N K (l.take (j+1))=toksW N K (l.take j)++tokW N K l[j] by rw [take_next l j hjl,toksW_snoc])
       clear hc q1 q2 q3 hblk;generalize l[j]=t at *;have LN:=hid (has_code hNl COV.out.1 (litN_lt hv) (lit_needs hmem hv))
       by_cases hz:t.L=0
       ·obtain ⟨hD0,hB0,hB1⟩:=okT_byte hv hz;obtain ⟨bN,hbN⟩:∃bN:Nat,t.B=bN:=⟨t.B.toNat,by omega⟩
        have hlit:litN t=bN:=by unfold litN;rw [if_pos hz];omega
        have hs:=LN.out;rw [hlit] at hs;have htw:tokW N K t=cd N bN:=by unfold tokW;rw [if_pos hz,hbN];rfl
        have hs':(bN:Int)<n:=by omega
        rw [hbN] at c1;have hL1:(t.L==0)=true:=by simpa using hz
        have hX:=heap_alloc_new wr (.cells #[.int .i64 bN,.int .i64 t.L,.int .i64 t.D] 136);have bX:Below wr.heap.size wr (wr.alloc (.cells #[.int .i64 bN,.int .i64 t.L,.int .i64 t.D] 136)):=(Below.refl _ _).alloc (Nat.le_refl _) _;generalize hW5:wr.alloc (.cells #[.int .i64 bN,.int .i64 t.L,.int .i64 t.D] 136)=w5 at *;obtain ⟨d0,d1,d2⟩:=tok_block hX;obtain ⟨e0,e1⟩:=(hc1.below bX).cells bN hs;have hbut5:=hbut.trans hnear (But.below (b:=b) (v:=u) bX);have hw5:=wr_below hw bX;have n5:w4.heap.size≤w5.heap.size:=hbut5.size;have H5:=hid (And.intro hw5 (And.intro hbut5 hnear));have HTW:=hid htw;have CODE:=hid (fun bt ln=>wcode_any b u (l0++toksW N K (l.take j)) bt ln w5 hw5 (by omega))
        have HCD:=hid (show cd N bN=codeBits (codeV N bN:Nat) (N.getD bN 0:Nat) from rfl)
        generalize codeV N bN=cx at *;generalize N.getD bN 0=cy at *;clear hw hbut hnear hc1 hc2 hX bX hw5 hbut5 htw hbits hlit hs hv hmem hbN hB0 hB1 HW4 hz hD0;generalize hP:wr.heap.size=P at *
        go_wp2_with fail
        refine (CODE.out _ _).mono ?_;rintro r w6 ⟨rfl,u6,h6,b6,m6⟩;have HW6:Hid (WrAt w6 b u6 (l0++toksW N K (l.take (j+1)))):=hid (by rw [TK.out,HTW.out,HCD.out,←List.append_assoc];exact h6)
        have HB6:=hid (H5.out.2.1.trans H5.out.2.2 b6);have HN6:=hid (H5.out.2.2.trans m6 n5);clear h6 b6 m6 H5 d0 d1 d2 e0 e1 CODE
        go_wp2_with fail
        refine ⟨⟨j+1,u6,by omega,by go_num,HW6.out,HB6.out,HN6.out⟩,?_⟩
        simp [intOf];omega
       ·have hpc:=okT_piece hv hz;have hlit:litN t=257+li t.L.toNat:=by unfold litN;rw [if_neg hz]
        have hs1:=LN.out;rw [hlit] at hs1;have hs2:=has_code hMl COV.out.2 (di_lt hv hz) (dst_needs hmem hv hz)
        have htw:tokW N K t=(cd N (257+li t.L.toNat)++bitsOf (LX (li t.L.toNat)) (t.L.toNat-LB (li t.L.toNat):Nat))++(cd K (di t.D.toNat)++bitsOf (DX (di t.D.toNat)) (t.D.toNat-DB (di t.D.toNat):Nat)):=by
         unfold tokW;rw [if_neg hz]
        have CL:=hid (fun w=>length_any t.L (by omega) w)
        have CD:=hid (fun w=>distance_any t.D (by omega) w)
        rw [len_sym hv hz] at CL;rw [dist_sym hv hz] at CD;have hx1:LX (li t.L.toNat)≤32:=by have:=LX_le (li t.L.toNat);omega
        have hx2:DX (di t.D.toNat)≤32:=by have:=DX_le (di t.D.toNat);omega
        generalize 257+li t.L.toNat=sL at *;generalize di t.D.toNat=sD at *;generalize t.L.toNat-LB (li t.L.toNat)=eL at *;generalize LX (li t.L.toNat)=bL at *;generalize t.D.toNat-DB sD=eD at *;generalize DX sD=bD at *;have hX:=heap_alloc_new wr (.cells #[.int .i64 t.B,.int .i64 t.L,.int .i64 t.D] 136);have bX:Below wr.heap.size wr (wr.alloc (.cells #[.int .i64 t.B,.int .i64 t.L,.int .i64 t.D] 136)):=(Below.refl _ _).alloc (Nat.le_refl _) _;generalize hW5:wr.alloc (.cells #[.int .i64 t.B,.int .i64 t.L,.int .i64 t.D] 136)=w5 at *;obtain ⟨d0,d1,d2⟩:=tok_block hX;have hPw:wr.heap.size<w5.heap.size:=by rw [←hW5];simp
        have hPb:wr.heap.size≠b:=by have:=WrRaw.lt hw;omega
        have hPv:some wr.heap.size≠u.ownBlock:=fun e=>by have:=(hw.own.lt _ e.symm).2;omega
        have hcc1:=hc1.below bX;have hcc2:=hc2.below bX;have hbut5:=hbut.trans hnear (But.below (b:=b) (v:=u) bX);have hw5:=wr_below hw bX;have n5:w4.heap.size≤w5.heap.size:=hbut5.size;have H5:=hid (And.intro hw5 (And.intro hbut5 hnear));have HX5:=hid hX;have HCC:=hid (And.intro hcc1 hcc2);have HTW:=hid htw;have hL0:(t.L==0)=false:=by simpa using hz
        have P1:=hid (put_any 143 b u (l0++toksW N K (l.take j)) x1 n sL eL bL N t.L w5 hw5 hcc1 hs1 hx1 (enters_of Tryz.func143 (by kernel_rfl) rfl) (fun w=>CL.out w) (by omega))
        clear hw hbut hnear hc1 hc2 hX bX hw5 hbut5 hcc1 hcc2 htw hlit hv hmem hpc HW4 CL;generalize hP:wr.heap.size=P at *
        go_wp2_with fail
        refine P1.out.mono ?_;rintro r w6 ⟨rfl,u6,h6,b6,m6⟩;have hblk6:=(b6.block P hPw hPb hPv).trans HX5.out;obtain ⟨d0,d1,d2⟩:=tok_block hblk6;have hcc2:=HCC.out.2.but H5.out.1 b6
        have hcd:(l0++toksW N K (l.take j)++codeBits (codeV N sL:Nat) (N.getD sL 0:Nat)++bitsOf bL eL).length≤1000000000:=by
         rw [List.length_append,List.length_append,codeBits_length,bitsOf_length]
         have:=cnt_le (N.getD sL 0:Nat)
         omega
        have P2:=hid (put_any 144 b u6 _ x2 m sD eD bD K t.D w6 h6 hcc2 hs2 hx2 (enters_of Tryz.func144 (by kernel_rfl) rfl) (fun w=>CD.out w) hcd)
        have HB6:=hid (H5.out.2.1.trans H5.out.2.2 b6);have HN6:=hid (H5.out.2.2.trans m6 n5);have n6:w4.heap.size≤w6.heap.size:=HB6.out.size;clear hcd hcc2 b6 m6 P1 h6 hblk6 H5 HCC HX5 hbits
        go_wp2_with fail
        refine P2.out.mono ?_;rintro r w7 ⟨rfl,u7,h7,b7,m7⟩
        have HW7:Hid (WrAt w7 b u7 (l0++toksW N K (l.take (j+1)))):=hid (by
         rw [TK.out,HTW.out];simp only [List.append_assoc] at h7 ⊢;exact h7)
        have HB7:=hid (HB6.out.trans HN6.out b7);have HN7:=hid (HN6.out.trans m7 n6);clear h7 b7 m7 P2 d0 d1 d2
        go_wp2_with fail
        refine ⟨⟨j+1,u7,by omega,by go_num,HW7.out,HB7.out,HN7.out⟩,?_⟩
        simp [intOf];omega
      ·obtain rfl:j=k:=by omega
       rw [List.take_of_length_le (by omega)] at hw hbits
       have hs:=has_code hNl COV.out.1 (by decide) (end_needs l)
       have hs':(256:Int)<n:=by omega
       obtain ⟨e0,e1⟩:=hc1.cells 256 hs;have CODE:=hid (fun bt ln=>wcode_any b u (l0++toksW N K l) bt ln wr hw (by omega))
       have H5:=hid (And.intro hbut hnear);have HCD:=hid (show cd N 256=codeBits (codeV N 256:Nat) (N.getD 256 0:Nat) from rfl)
       generalize codeV N 256=cx at *;generalize N.getD 256 0=cy at *;clear hw hbut hnear hc1 hc2 hbits HW4
       go_wp2_with fail
       refine (CODE.out _ _).mono ?_;rintro r w6 ⟨rfl,u6,h6,b6,m6⟩;have HW6:Hid (WrAt w6 b u6 (l0++wrBits N K l)):=hid (by unfold wrBits;rw [HCD.out,←List.append_assoc];exact h6)
       have HB6:=hid ((But.below HB4.out).trans (Near.refl _ _) (H5.out.1.trans H5.out.2 b6))
       have HN6:Hid (Near w v u6):=hid fun i hi=>by
        rcases H5.out.2.trans m6 H5.out.1.size i hi with h | h
        ·exact .inl h
        ·exact .inr (Nat.le_trans HB4.out.size h)
       clear h6 b6 m6 H5 e0 e1 CODE
       go_wp2_with fail
       go_ret;exact ⟨rfl,u6,by rw [HNK.out.1,HNK.out.2];exact HW6.out,HB6.out,HN6.out⟩
    ·have e1:E=50:=by rw [←HE.out];unfold wrE;rw [if_pos HALL.out,if_neg (by rw [cv2];simp)]
     subst e1;have HB4:=hid (HB3.out.trans (b4.mono HB3.out.size));clear b4 C2 cv2
     go_wp2_with fail
     go_ret;exact ⟨rfl,NONE.out _ HB4.out⟩
   ·have e1:E=50:=by rw [←HE.out];unfold wrE;rw [if_pos HALL.out,if_neg (by rw [cv1];simp)]
    subst e1;have HB3:=hid (HB2.out.trans (b3.mono HB2.out.size));clear b3 C1 cv1
    go_wp2_with fail
    go_ret;exact ⟨rfl,NONE.out _ HB3.out⟩
end Go.Proofs.YthbjllabgpaaaaaGreat.Sym
namespace Go.Proofs.YthbjllabgpaaaaaGreat.Sym
open Go.Lib (hid)
set_option maxHeartbeats 8000000
open Go.Proofs.YthbjllabgpaaaaaGreat.Huf (nxG codeV used top fst symsOf)
open Go.Proofs.YthbjllabgpaaaaaGreat.Bit (rV rI rOk errI num tat num_lt)
open Go.Proofs.YthbjllabgpaaaaaGreat.Lz (Tok okT)
set_option linter.unusedVariables false
set_option maxRecDepth 100000
def numG (o:Nat×Nat) (T:List Bool) (i:Nat):Nat×Int×Nat×Bool:=
 if o.1=0 then (0,3,i,false) else (o.1+rV T i false o.2,errI (!rOk T i false o.2),rI T i false o.2,!rOk T i false o.2)
def tokG (M:List Nat) (T:List Bool) (i s:Nat):Tok×Int×Nat×Bool:=
 if s<256 then (⟨s,0,0⟩,0,i,false)
 else
  let a:=numG (lenO s) T i
  if a.2.1≠0 then (⟨0,0,0⟩,a.2.1,a.2.2.1,a.2.2.2)
  else
   let x:=nxG M T a.2.2.1 false 15 0 0
   if x.2.1≠0 then (⟨0,0,0⟩,x.2.1,x.2.2.1,x.2.2.2)
   else
    let d:=numG (distO x.1) T x.2.2.1
    if d.2.1≠0 then (⟨0,0,0⟩,d.2.1,d.2.2.1,d.2.2.2)
    else (⟨0,a.1,d.1⟩,0,d.2.2.1,d.2.2.2)
def readG (N M:List Nat) (T:List Bool) (most:Int):Nat→Nat→Nat→List Tok→List Tok×Int×Nat×Bool
 | 0,i,_,_=>([],2,i,true)
 | f+1,i,made,acc=>
  let x:=nxG N T i false 15 0 0
  if x.2.1≠0 then ([],x.2.1,x.2.2.1,x.2.2.2)
  else if x.1=256 then (acc,0,x.2.2.1,x.2.2.2)
  else
   let t:=tokG M T x.2.2.1 x.1
   if t.2.1≠0 then ([],t.2.1,t.2.2.1,t.2.2.2)
   else if most<(made+max t.1.L.toNat 1:Nat) then ([],4,t.2.2.1,t.2.2.2)
   else readG N M T most f t.2.2.1 (made+max t.1.L.toNat 1) (acc++[t.1])
theorem nx_ok (N:List Nat) (T:List Bool) (i:Nat):∀f k v,i+k≤T.length→(nxG N T i false f k v).2.1=0→(nxG N T i false f k v).2.2.2=false∧i+k+1≤(nxG N T i false f k v).2.2.1∧(nxG N T i false f k v).2.2.1≤T.length
 | 0,k,v,_,h=>by simp [nxG] at h
 | f+1,k,v,hk,h=>by
  unfold nxG at h ⊢
  by_cases h1:v*2^(15-k)<used N 15
  ·rw [if_pos h1] at h ⊢
   by_cases h2:false=true∨T.length≤i+k
   ·rw [if_pos h2] at h;simp at h
   ·rw [if_neg h2] at h ⊢;have h4:i+k<T.length:=by simp at h2;omega
    by_cases h3:2*v+(tat T (i+k)).toNat<top N (k+1)
    ·rw [if_pos h3];exact ⟨rfl,Nat.le_refl _,by show i+k+1≤_;omega⟩
    ·rw [if_neg h3] at h ⊢
     have:=nx_ok N T i f (k+1) _ (by omega) h
     exact ⟨this.1,by omega,this.2.2⟩
  ·rw [if_neg h1] at h;simp at h
theorem nx_le (N:List Nat) (T:List Bool) (i:Nat) (b:Bool):∀f k v,i+k≤T.length→(nxG N T i b f k v).2.2.1≤T.length
 | 0,k,v,h=>by simp [nxG];exact h
 | f+1,k,v,hk=>by
  unfold nxG
  split
  ·split
   ·exact hk
   ·rename_i h2;simp at h2
    split
    ·show i+k+1≤_;omega
    ·exact nx_le N T i b f (k+1) _ (by omega)
  ·exact hk
theorem num_ok {o:Nat×Nat} {T:List Bool} {i:Nat} (hi:i≤T.length):((numG o T i).2.1=0→(numG o T i).2.2.2=false∧i≤(numG o T i).2.2.1)∧(numG o T i).2.2.1≤T.length:=by
 unfold numG
 by_cases h:o.1=0
 ·rw [if_pos h];exact ⟨fun h=>by simp at h,hi⟩
 ·rw [if_neg h];refine ⟨fun h2=>?_,?_⟩
  ·cases hr:rOk T i false o.2 with
   | false=>rw [hr] at h2;simp [errI] at h2
   | true=>refine ⟨rfl,?_⟩;show i≤rI T i false o.2;unfold rI;rw [if_pos hr];omega
  ·exact Bit.rI_le hi
theorem num_val {o:Nat×Nat} {T:List Bool} {i:Nat}:(numG o T i).1≤o.1+2^o.2:=by
 unfold numG
 split
 ·exact Nat.zero_le _
 ·show o.1+rV T i false o.2≤_;unfold rV
  split
  ·have h1:=num_lt ((T.drop i).take o.2);have h2:(2:Nat)^((T.drop i).take o.2).length≤2^o.2:=Nat.pow_le_pow_right (by decide) (by rw [List.length_take];omega)
   omega
  ·have:=Nat.two_pow_pos o.2;omega
theorem lenO_small (s:Int):(lenO s).1≤258∧(lenO s).2≤5:=by
 unfold lenO
 split
 ·rename_i h;exact ⟨(LB_pos ⟨s.toNat-257,by omega⟩).2,LX_le (s.toNat-257)⟩
 ·exact ⟨Nat.zero_le _,Nat.zero_le _⟩
theorem distO_small (s:Int):(distO s).1≤24577∧(distO s).2≤13:=by
 unfold distO
 split
 ·rename_i h;exact ⟨(DB_pos ⟨s.toNat,by omega⟩).2,DX_le s.toNat⟩
 ·exact ⟨Nat.zero_le _,Nat.zero_le _⟩
theorem tok_ok (M:List Nat) (T:List Bool) (i s:Nat) (hi:i≤T.length) (h:(tokG M T i s).2.1=0):(tokG M T i s).2.2.2=false∧i≤(tokG M T i s).2.2.1∧(tokG M T i s).2.2.1≤T.length∧0≤(tokG M T i s).1.L∧(tokG M T i s).1.L≤300:=by
 unfold tokG at h ⊢
 by_cases h1:s<256
 ·rw [if_pos h1];exact ⟨rfl,Nat.le_refl _,hi,by show (0:Int)≤0;omega,by show (0:Int)≤300;omega⟩
 ·rw [if_neg h1] at h ⊢;have a1:=num_ok (o:=lenO s) hi;have a2:=num_val (o:=lenO s) (T:=T) (i:=i);have a3:=lenO_small s;have a4:(2:Nat)^(lenO s).2≤2^5:=Nat.pow_le_pow_right (by decide) a3.2
  simp only at h ⊢;generalize numG (lenO s) T i=a at *
  by_cases h2:a.2.1=0
  ·rw [if_neg (by simpa using h2)] at h ⊢
   have x1:=nx_ok M T a.2.2.1 15 0 0 (by omega)
   have x2:=nx_le M T a.2.2.1 false 15 0 0 (by omega)
   generalize nxG M T a.2.2.1 false 15 0 0=x at *
   by_cases h3:x.2.1=0
   ·rw [if_neg (by simpa using h3)] at h ⊢
    have d1:=num_ok (o:=distO x.1) x2;generalize numG (distO x.1) T x.2.2.1=d at *
    by_cases h4:d.2.1=0
    ·rw [if_neg (by simpa using h4)]
     have:=a1.1 h2
     have:=x1 h3
     have:=d1.1 h4
     refine ⟨this.1,by show i≤d.2.2.1;omega,d1.2,by show (0:Int)≤(a.1:Nat);omega,by show ((a.1:Nat):Int)≤300;omega⟩
    ·rw [if_pos (by simpa using h4)] at h;exact absurd h h4
   ·rw [if_pos (by simpa using h3)] at h;exact absurd h h3
  ·rw [if_pos (by simpa using h2)] at h;exact absurd h h2
theorem tokG_byte {M:List Nat} {T:List Bool} {i s:Nat} (h:s<256):tokG M T i s=(⟨s,0,0⟩,0,i,false):=by unfold tokG;rw [if_pos h]
theorem tokG_e1 {M:List Nat} {T:List Bool} {i s:Nat} (h:¬s<256) {av aj:Nat} {ae:Int} {ab:Bool} (ha:numG (lenO s) T i=(av,ae,aj,ab)) (h0:ae≠0):tokG M T i s=(⟨0,0,0⟩,ae,aj,ab):=by
 unfold tokG;rw [if_neg h];simp only [ha];rw [if_pos h0]
theorem tokG_e2 {M:List Nat} {T:List Bool} {i s:Nat} (h:¬s<256) {av aj xs xj:Nat} {xe:Int} {ab xb:Bool} (ha:numG (lenO s) T i=(av,0,aj,ab)) (hx:nxG M T aj false 15 0 0=(xs,xe,xj,xb)) (h0:xe≠0):tokG M T i s=(⟨0,0,0⟩,xe,xj,xb):=by
 unfold tokG;rw [if_neg h];simp only [ha];rw [if_neg (by simp)];simp only [hx];rw [if_pos h0]
theorem tokG_e3 {M:List Nat} {T:List Bool} {i s:Nat} (h:¬s<256) {av aj xs xj dv dj:Nat} {de:Int} {ab xb db:Bool} (ha:numG (lenO s) T i=(av,0,aj,ab)) (hx:nxG M T aj false 15 0 0=(xs,0,xj,xb)) (hd:numG (distO xs) T xj=(dv,de,dj,db)) (h0:de≠0):tokG M T i s=(⟨0,0,0⟩,de,dj,db):=by
 unfold tokG;rw [if_neg h];simp only [ha];rw [if_neg (by simp)];simp only [hx];rw [if_neg (by simp)];simp only [hd];rw [if_pos h0]
theorem tokG_ok {M:List Nat} {T:List Bool} {i s:Nat} (h:¬s<256) {av aj xs xj dv dj:Nat} {ab xb db:Bool} (ha:numG (lenO s) T i=(av,0,aj,ab)) (hx:nxG M T aj false 15 0 0=(xs,0,xj,xb)) (hd:numG (distO xs) T xj=(dv,0,dj,db)):tokG M T i s=(⟨0,av,dv⟩,0,dj,db):=by
 unfold tokG;rw [if_neg h];simp only [ha];rw [if_neg (by simp)];simp only [hx];rw [if_neg (by simp)];simp only [hd];rw [if_neg (by simp)]
theorem readG_e1 {N M:List Nat} {T:List Bool} {most:Int} {f i made:Nat} {acc:List Tok} {xs xj:Nat} {xe:Int} {xb:Bool} (hx:nxG N T i false 15 0 0=(xs,xe,xj,xb)) (h0:xe≠0):readG N M T most (f+1) i made acc=([],xe,xj,xb):=by
 unfold readG;simp only [hx];rw [if_pos h0]
theorem readG_end {N M:List Nat} {T:List Bool} {most:Int} {f i made:Nat} {acc:List Tok} {xj:Nat} {xb:Bool} (hx:nxG N T i false 15 0 0=(256,0,xj,xb)):readG N M T most (f+1) i made acc=(acc,0,xj,xb):=by
 unfold readG;simp only [hx];rw [if_neg (by simp),if_pos trivial]
theorem readG_e2 {N M:List Nat} {T:List Bool} {most:Int} {f i made:Nat} {acc:List Tok} {xs xj tj:Nat} {xb b:Bool} {t:Tok} {te:Int} (hx:nxG N T i false 15 0 0=(xs,0,xj,xb)) (h1:xs≠256) (ht:tokG M T xj xs=(t,te,tj,b)) (h0:te≠0) :
  readG N M T most (f+1) i made acc=([],te,tj,b):=by
 unfold readG;simp only [hx];rw [if_neg (by simp),if_neg h1];simp only [ht];rw [if_pos h0]
theorem readG_e3 {N M:List Nat} {T:List Bool} {most:Int} {f i made:Nat} {acc:List Tok} {xs xj tj:Nat} {xb b:Bool} {t:Tok} (hx:nxG N T i false 15 0 0=(xs,0,xj,xb)) (h1:xs≠256) (ht:tokG M T xj xs=(t,0,tj,b)) (h0:most<(made+max t.L.toNat 1:Nat)) :
  readG N M T most (f+1) i made acc=([],4,tj,b):=by
 unfold readG;simp only [hx];rw [if_neg (by simp),if_neg h1];simp only [ht];rw [if_neg (by simp),if_pos h0]
theorem readG_next {N M:List Nat} {T:List Bool} {most:Int} {f i made:Nat} {acc:List Tok} {xs xj tj:Nat} {xb b:Bool} {t:Tok} (hx:nxG N T i false 15 0 0=(xs,0,xj,xb)) (h1:xs≠256) (ht:tokG M T xj xs=(t,0,tj,b)) (h0:¬most<(made+max t.L.toNat 1:Nat)) :
  readG N M T most (f+1) i made acc=readG N M T most f tj (made+max t.L.toNat 1) (acc++[t]):=by
 conv=>lhs;unfold readG
 simp only [hx];rw [if_neg (by simp),if_neg h1];simp only [ht];rw [if_neg (by simp),if_neg h0]
theorem tok_le (M:List Nat) (T:List Bool) (i s:Nat) (hi:i≤T.length):(tokG M T i s).2.2.1≤T.length:=by
 unfold tokG
 by_cases h1:s<256
 ·rw [if_pos h1];exact hi
 ·rw [if_neg h1];have a1:=num_ok (o:=lenO s) hi;simp only;generalize numG (lenO s) T i=a at *
  split
  ·exact a1.2
  ·have x2:=nx_le M T a.2.2.1 false 15 0 0 (by omega)
   generalize nxG M T a.2.2.1 false 15 0 0=x at *
   split
   ·exact x2
   ·have d1:=num_ok (o:=distO x.1) x2
    split
    ·exact d1.2
    ·exact d1.2
end Go.Proofs.YthbjllabgpaaaaaGreat.Sym
namespace Go.Proofs.YthbjllabgpaaaaaGreat.Sym
open Go.Lib (hid)
set_option maxHeartbeats 8000000
open Go.ChangeShapes Go.WideShapes Go.ChangeAt Go.RowKit
open Go.Proofs.YthbjllabgpaaaaaGreat.Huf (nxG next_any DecAt fst used symsOf)
open Go.Proofs.YthbjllabgpaaaaaGreat.Bit (rV rI rOk errI RdAt tb tb_length rbits_any rerr_any rgrown_trans rgrown_set cnt_nat)
open Go.Proofs.YthbjllabgpaaaaaGreat.Lz (Tok okT tokC)
set_option linter.unusedVariables false
set_option maxRecDepth 100000
theorem rd_lt {w:World} {b:Nat} {t:ByteArray} {i:Nat} {e:Bool} (h:RdAt 107 w b t i e):b<w.heap.size:=(Array.getElem?_eq_some_iff.1 h).1
theorem rd_below {w w':World} {b:Nat} {t:ByteArray} {i:Nat} {e:Bool} (h:RdAt 107 w b t i e) (k:Below w.heap.size w w'):RdAt 107 w' b t i e:=by
 have hl:=rd_lt h;unfold RdAt at *;rw [k.block b hl];exact h
theorem grown_of {w w':World} (k:Below w.heap.size w w') (row:Option Nat):w.grownBy w' row:=⟨k.os,k.tape,k.output,k.size,fun i hi _=>k.block i hi⟩
theorem grown_set {w w':World} {row:Option Nat} (h:w.grownBy w' row) {P:Nat} (hP:w.heap.size≤P) (o:Nat) (v:Value):w.grownBy (w'.setCell ⟨P,o,none⟩ v) row:=
 ⟨h.os,h.tape,h.output,by simpa using h.size,fun i hi hr=>(heap_setCell_other w' ⟨P,o,none⟩ i v (fun e=>by have:P=i:=e.symm;omega)).trans (h.block i hi hr)⟩
theorem rd_set {w:World} {b P o:Nat} {t:ByteArray} {i:Nat} {e:Bool} {v:Value} (h:RdAt 107 w b t i e) (hP:P≠b):RdAt 107 (w.setCell ⟨P,o,none⟩ v) b t i e:=by
 unfold RdAt at *;rw [heap_setCell_other w ⟨P,o,none⟩ b v (fun e=>hP e.symm)]
 exact h
theorem store3 {w:World} {R:Nat} {x0 x1 x2:Value} {T:TypeId} (h:w.heap[R]?=some (.cells #[x0,x1,x2] T (0,0))) (a b c:Value) :
  (((w.setCell ⟨R,0,none⟩ a).setCell ⟨R,1,none⟩ b).setCell ⟨R,2,none⟩ c).heap[R]?=some (.cells #[a,b,c] T (0,0)):=by
 have h1:=heap_setCell_same w R 0 _ _ a h;have h2:=heap_setCell_same (w.setCell ⟨R,0,none⟩ a) R 1 _ _ b h1;have h3:=heap_setCell_same ((w.setCell ⟨R,0,none⟩ a).setCell ⟨R,1,none⟩ b) R 2 _ _ c h2;exact h3
theorem ret_cell_tmp {P:Program} {fn:Func} {p u:Tmp} {ty:TypeId} (h:fn.results=#[.cell p ty,.tmp u]) (tmps:Array Value) (w:World) (g:Nat) (t:TypeId) (cs:Array Value) (fr:Nat×Nat) (d:TypeDesc)
  (hp:tmps.getD p undef=.pointer (some ⟨g,0,none⟩)) (hg:w.heap[g]?=some (.cells cs t fr))
  (hu:P.underlying ty=some d) (hd:(match d with | .struct _ | .array _ _=>true | _=>false)=true) (hi:(P.info? ty).map (·.size)=some cs.size) :
  (results fn tmps).run P w=.ok (.tuple #[.agg cs,tmps.getD u undef]) w:=by
 rw [results_cell_tmp h,hp];simp [asAddr,run_loadVar_row w g t ty cs fr d hg hu hd hi,Result.andThen]
theorem number_any (fid:FuncId) (b:Nat) (t:ByteArray) (i s:Nat) (o:Nat×Nat) (w:World) (h:RdAt 107 w b t i false) (hi:i≤(tb t).length) (ht:t.size≤1000000) (h1:o.1≤100000) (h2:o.2≤32)
  (hE:Enters Tryz.prog fid) (hf:∀w,Calls Tryz.prog fid #[.int .i64 s] w fun r w'=>r=.returned (pairN o)∧Below w.heap.size w w') :
  Calls Tryz.prog 178 #[.pointer (some ⟨b,0,none⟩),.int .i64 s,.func (.func fid) #[] #[]] w fun r w'=>
   r=.returned (.tuple #[.int .i64 (numG o (tb t) i).1,.int .i64 (numG o (tb t) i).2.1])∧RdAt 107 w' b t (numG o (tb t) i).2.2.1 (numG o (tb t) i).2.2.2∧w.grownBy w' (some b):=by
 have hE2:∀w,(callFunc fid #[.int .i64 s]).run Tryz.prog w=.ok (.enter fid #[.int .i64 s]) w:=fun w=>hE _ w
 have HF:=hid hf;have H:=hid h;have HI:=hid hi;obtain ⟨o1,o2⟩:=o
 have hrv:rV (tb t) i false o2≤4294967296:=by
  unfold rV
  split
  ·have h3:=Bit.num_lt (((tb t).drop i).take o2);have h4:(2:Nat)^(((tb t).drop i).take o2).length≤2^32:=Nat.pow_le_pow_right (by decide) (by rw [List.length_take];omega)
   omega
  ·omega
 clear hE hf h hi;unfold pairN at HF;simp only at h1 h2 HF;have CR:=hid (fun w h=>rbits_any b t i false o2 w h HI.out (by omega))
 rw [cnt_nat o2 h2] at CR;unfold numG;simp only;generalize rV (tb t) i false o2=x at *;generalize rI (tb t) i false o2=j at *;generalize rOk (tb t) i false o2=ok at *
 by_cases h0:o1=0
 ·rw [if_pos h0];subst h0
  go_enter Tryz.func178,Tryz.ntmps178
  go_wp2_with fail
  refine (HF.out w).mono ?_;rintro r w1 ⟨rfl,b1⟩;have HR:=hid (rd_below H.out b1);have HG:=hid (grown_of b1 (some b));clear b1
  go_wp2_with fail
  go_ret2;exact ⟨rfl,HR.out,HG.out⟩
 ·rw [if_neg h0];have h0':((o1:Int)==0)=false:=by simpa using h0
  have hw:IntKind.i64.wrap ((o1:Int)+x)=((o1+x:Nat):Int):=by push_cast;exact IntWalk.i64_in _ (by omega)
  generalize o1+x=ox at *
  go_enter Tryz.func178,Tryz.ntmps178
  go_wp2_with fail
  refine (HF.out w).mono ?_;rintro r w1 ⟨rfl,b1⟩;have HR:=hid (rd_below H.out b1);have HG:=hid (grown_of b1 (some b));clear b1
  go_wp2_with fail
  refine (CR.out _ HR.out).mono ?_;rintro r w2 ⟨rfl,r2,g2⟩;have HR2:=hid r2;have HG2:=hid (rgrown_trans HG.out g2);clear r2 g2 HR HG CR
  go_wp2_with fail
  refine (rerr_any b t j (!ok) w2 HR2.out).mono ?_;rintro r w3 ⟨rfl,rfl⟩
  go_wp2_with fail
  go_ret2;exact ⟨rfl,HR2.out,HG2.out⟩
theorem ret_token (tmps:Array Value) (w:World) (R:Nat) (t:Tok) (e:Int) (hp:tmps.getD 6 undef=.pointer (some ⟨R,0,none⟩)) (he:tmps.getD 7 undef=.int .i64 e) (hg:w.heap[R]?=some (.cells (tokC t) 136 (0,0))) :
  (results Tryz.f161 tmps).run Tryz.prog w=.ok (.tuple #[.agg (tokC t),.int .i64 e]) w:=by
 rw [ret_cell_tmp rfl tmps w R 136 (tokC t) (0,0) _ hp hg Tryz.underlying136 rfl (by kernel_rfl),he]
theorem token_any (b:Nat) (t:ByteArray) (i s D:Nat) (S:Nat→Value) (M:List Nat) (w:World) (h:RdAt 107 w b t i false) (hd:DecAt w D S (fst M) (used M 15) (symsOf M M.length))
  (hi:i≤(tb t).length) (ht:t.size≤1000000) (hM:M.length≤320) (hU:used M 15≤32768) :
  Calls Tryz.prog 161 #[.pointer (some ⟨b,0,none⟩),.int .i64 s,.pointer (some ⟨D,0,none⟩)] w fun r w'=>
   r=.returned (.tuple #[.agg (tokC (tokG M (tb t) i s).1),.int .i64 (tokG M (tb t) i s).2.1])∧RdAt 107 w' b t (tokG M (tb t) i s).2.2.1 (tokG M (tb t) i s).2.2.2∧w.grownBy w' (some b):=by
 have H:=hid h;have HD:=hid hd;have HU:=hid hU;have hbw:=rd_lt h;clear h hd hU;obtain ⟨⟨rt,re,rj,rb⟩,hres⟩:∃res,tokG M (tb t) i s=res:=⟨_,rfl⟩;rw [hres];have HRES:=hid hres;clear hres;simp only
 by_cases h1:s<256
 ·have h1':(s:Int)<256:=by omega
  have e:=HRES.out;rw [tokG_byte h1] at e;simp only [Prod.mk.injEq] at e;obtain ⟨rfl,rfl,rfl,rfl⟩:=e;clear HRES
  go_enter Tryz.func161,Tryz.ntmps161
  go_wp2_with fail
  (try simp only [Exit.inBlock,Exit.then])
  have bX:Below w.heap.size w (w.alloc (.cells #[.int .i64 s,.int .i64 0,.int .i64 0] 136)):=(Below.refl _ _).alloc (Nat.le_refl _) _;refine bodyPost_ret (v:=.tuple #[.agg (tokC ⟨s,0,0⟩),.int .i64 0]) (ret_token _ _ w.heap.size ⟨s,0,0⟩ 0 rfl rfl (heap_alloc_new _ _)) rfl ?_;exact ⟨rfl,rd_below H.out bX,grown_of bX _⟩
 ·have h1':¬((s:Int)<256):=by omega
  have H1:=hid h1;have ls:=lenO_small s;have a1:=num_ok (o:=lenO s) hi;have CN:=hid (fun w h=>number_any 125 b t i s (lenO s) w h hi ht (by omega) (by omega) (enters_of Tryz.func125 (by kernel_rfl) rfl) (fun w=>lengthOf_any s w))
  generalize hga:numG (lenO s) (tb t) i=a at *;obtain ⟨av,ae,aj,ab⟩:=a;have HGA:=hid hga;simp only at a1 CN;have hX:=heap_alloc_new w (.cells #[.int .i64 0,.int .i64 0,.int .i64 0] 136);have bX:Below w.heap.size w (w.alloc (.cells #[.int .i64 0,.int .i64 0,.int .i64 0] 136)):=(Below.refl _ _).alloc (Nat.le_refl _) _;clear hga
  go_enter Tryz.func161,Tryz.ntmps161
  go_wp2_with fail
  have hPw:w.heap.size<(w.alloc (.cells #[.int .i64 0,.int .i64 0,.int .i64 0] 136)).heap.size:=by simp
  generalize (w.alloc (.cells #[.int .i64 0,.int .i64 0,.int .i64 0] 136))=w1 at *;have HR1:=hid (rd_below H.out bX);have HD1:=hid (HD.out.below bX (Nat.le_refl _));have HG1:=hid (grown_of bX (some b));have HP1:=hid hX;have hPb:w.heap.size≠b:=by omega
  clear bX hX;generalize hPp:w.heap.size=P at hPw HP1 hPb ⊢;have HPp:=hid hPp;clear hPp;refine (CN.out w1 HR1.out).mono ?_;rintro r w2 ⟨rfl,r2,g2⟩;have HR2:=hid r2;have HP2:=hid ((g2.block P hPw (by simp;exact hPb)).trans HP1.out)
  have HD2:=hid (HD1.out.grown g2 HR1.out (by decide) (by decide))
  have HG2:=hid (rgrown_trans HG1.out g2);have hPw2:P<w2.heap.size:=Nat.lt_of_lt_of_le hPw g2.size
  have STORE:Hid (∀(wk:World) (x0 x1 x2:Value) (j:Nat) (e:Bool),wk.heap[P]?=some (.cells #[.int .i64 0,.int .i64 0,.int .i64 0] 136 (0,0))→RdAt 107 wk b t j e→w.grownBy wk (some b) →
    (((wk.setCell ⟨P,0,none⟩ x0).setCell ⟨P,1,none⟩ x1).setCell ⟨P,2,none⟩ x2).heap[P]?=some (.cells #[x0,x1,x2] 136 (0,0)) ∧
    RdAt 107 (((wk.setCell ⟨P,0,none⟩ x0).setCell ⟨P,1,none⟩ x1).setCell ⟨P,2,none⟩ x2) b t j e∧w.grownBy (((wk.setCell ⟨P,0,none⟩ x0).setCell ⟨P,1,none⟩ x1).setCell ⟨P,2,none⟩ x2) (some b)):=hid fun wk x0 x1 x2 j e k1 k2 k3=>
   ⟨store3 k1 x0 x1 x2,rd_set (rd_set (rd_set k2 hPb) hPb) hPb,grown_set (grown_set (grown_set k3 (by rw [HPp.out];exact Nat.le_refl _) _ _) (by rw [HPp.out];exact Nat.le_refl _) _ _) (by rw [HPp.out];exact Nat.le_refl _) _ _⟩
  clear r2 g2 HR1 HD1 HG1 HP1 CN hPw
  by_cases hae:ae=0
  ·subst hae;obtain ⟨rfl,haj⟩:=a1.1 rfl;have haT:=a1.2;have CX:=hid (fun w h hd=>next_any D S M b t aj false w hd h haT ht hM HU.out)
   have x1:=nx_ok M (tb t) aj 15 0 0 (by omega)
   have x2:=nx_le M (tb t) aj false 15 0 0 (by omega)
   generalize hgx:nxG M (tb t) aj false 15 0 0=x at *;obtain ⟨xs,xe,xj,xb⟩:=x;have HGX:=hid hgx;simp only at x1 x2 CX;clear a1 haj haT hgx
   go_wp2_with fail
   refine (CX.out w2 HR2.out HD2.out).mono ?_;rintro r w3 ⟨rfl,r3,g3⟩;have HR3:=hid r3;have HP3:=hid ((g3.block P hPw2 (by simp;exact hPb)).trans HP2.out)
   have HG3:=hid (rgrown_trans HG2.out g3);have hPw3:P<w3.heap.size:=Nat.lt_of_lt_of_le hPw2 g3.size;clear r3 g3 HR2 HP2 HG2 HD2 CX
   by_cases hxe:xe=0
   ·subst hxe;obtain ⟨rfl,hxj⟩:=x1 rfl;have ds:=distO_small xs;have d1:=num_ok (o:=distO xs) x2;have CD:=hid (fun w h=>number_any 126 b t xj xs (distO xs) w h x2 ht (by omega) (by omega) (enters_of Tryz.func126 (by kernel_rfl) rfl) (fun w=>distanceOf_any xs w))
    generalize hgd:numG (distO xs) (tb t) xj=d at *;obtain ⟨dv,de,dj,db⟩:=d;have HGD:=hid hgd;simp only at d1 CD;clear hgd x1 x2 hxj ds
    go_wp2_with fail
    refine (CD.out w3 HR3.out).mono ?_;rintro r w4 ⟨rfl,r4,g4⟩;have HR4:=hid r4;have HP4:=hid ((g4.block P hPw3 (by simp;exact hPb)).trans HP3.out)
    have HG4:=hid (rgrown_trans HG3.out g4);clear r4 g4 HR3 HP3 HG3 CD;have f0:w4.frozen? ⟨P,0,none⟩=false:=frozen_of_row w4 P 0 _ _ HP4.out;have f1:w4.frozen? ⟨P,1,none⟩=false:=frozen_of_row w4 P 1 _ _ HP4.out;have f2:w4.frozen? ⟨P,2,none⟩=false:=frozen_of_row w4 P 2 _ _ HP4.out;obtain ⟨c0,c1,c2⟩:=tok_block HP4.out
    by_cases hde:de=0
    ·subst hde;have e:=HRES.out;rw [tokG_ok H1.out HGA.out HGX.out HGD.out] at e;simp only [Prod.mk.injEq] at e;obtain ⟨rfl,rfl,rfl,rfl⟩:=e;have K:=hid (STORE.out w4 (.int .i64 0) (.int .i64 av) (.int .i64 dv) dj db HP4.out HR4.out HG4.out);clear HRES d1 STORE
     go_wp2_with fail
     (try simp only [Exit.inBlock,Exit.then])
     refine bodyPost_ret (v:=.tuple #[.agg (tokC ⟨0,av,dv⟩),.int .i64 0]) (ret_token _ _ P ⟨0,av,dv⟩ 0 rfl rfl K.out.1) rfl ?_;exact ⟨rfl,K.out.2⟩
    ·have hde2:(de==0)=false:=by simpa using hde
     have e:=HRES.out;rw [tokG_e3 H1.out HGA.out HGX.out HGD.out hde] at e;simp only [Prod.mk.injEq] at e;obtain ⟨rfl,rfl,rfl,rfl⟩:=e;have K:=hid (STORE.out w4 (.int .i64 0) (.int .i64 0) (.int .i64 0) dj db HP4.out HR4.out HG4.out);clear HRES d1 STORE
     go_wp2_with fail
     (try simp only [Exit.inBlock,Exit.then])
     refine bodyPost_ret (v:=.tuple #[.agg (tokC ⟨0,0,0⟩),.int .i64 de]) (ret_token _ _ P ⟨0,0,0⟩ de rfl rfl K.out.1) rfl ?_;exact ⟨rfl,K.out.2⟩
   ·have hxe2:(xe==0)=false:=by simpa using hxe
    have f0:w3.frozen? ⟨P,0,none⟩=false:=frozen_of_row w3 P 0 _ _ HP3.out;have f1:w3.frozen? ⟨P,1,none⟩=false:=frozen_of_row w3 P 1 _ _ HP3.out;have f2:w3.frozen? ⟨P,2,none⟩=false:=frozen_of_row w3 P 2 _ _ HP3.out;obtain ⟨c0,c1,c2⟩:=tok_block HP3.out;have e:=HRES.out;rw [tokG_e2 H1.out HGA.out HGX.out hxe] at e;simp only [Prod.mk.injEq] at e;obtain ⟨rfl,rfl,rfl,rfl⟩:=e;have K:=hid (STORE.out w3 (.int .i64 0) (.int .i64 0) (.int .i64 0) xj xb HP3.out HR3.out HG3.out);clear HRES x1 STORE
    go_wp2_with fail
    (try simp only [Exit.inBlock,Exit.then])
    refine bodyPost_ret (v:=.tuple #[.agg (tokC ⟨0,0,0⟩),.int .i64 xe]) (ret_token _ _ P ⟨0,0,0⟩ xe rfl rfl K.out.1) rfl ?_;exact ⟨rfl,K.out.2⟩
  ·have hae2:(ae==0)=false:=by simpa using hae
   have f0:w2.frozen? ⟨P,0,none⟩=false:=frozen_of_row w2 P 0 _ _ HP2.out;have f1:w2.frozen? ⟨P,1,none⟩=false:=frozen_of_row w2 P 1 _ _ HP2.out;have f2:w2.frozen? ⟨P,2,none⟩=false:=frozen_of_row w2 P 2 _ _ HP2.out;obtain ⟨c0,c1,c2⟩:=tok_block HP2.out;have e:=HRES.out;rw [tokG_e1 H1.out HGA.out hae] at e;simp only [Prod.mk.injEq] at e;obtain ⟨rfl,rfl,rfl,rfl⟩:=e;have K:=hid (STORE.out w2 (.int .i64 0) (.int .i64 0) (.int .i64 0) aj ab HP2.out HR2.out HG2.out);clear HRES a1 STORE
   go_wp2_with fail
   (try simp only [Exit.inBlock,Exit.then])
   refine bodyPost_ret (v:=.tuple #[.agg (tokC ⟨0,0,0⟩),.int .i64 ae]) (ret_token _ _ P ⟨0,0,0⟩ ae rfl rfl K.out.1) rfl ?_;exact ⟨rfl,K.out.2⟩
end Go.Proofs.YthbjllabgpaaaaaGreat.Sym
namespace Go.Proofs.YthbjllabgpaaaaaGreat.Sym
open Go.Lib (hid)
set_option maxHeartbeats 8000000
open Go.ChangeShapes Go.WideShapes Go.ChangeAt Go.RowKit
open Go.Proofs.YthbjllabgpaaaaaGreat.Huf (IsInts fine nats nats_length fine_parts new_good new_bad nxG next_any DecAt fst used symsOf info_parts)
open Go.Proofs.YthbjllabgpaaaaaGreat.Bit (rV rI rOk errI RdAt tb tb_length rgrown_trans)
open Go.Proofs.YthbjllabgpaaaaaGreat.Lz (Tok okT tokC cellsT cellsT_length cellsT_append cellsT_one info_tok)
set_option linter.unusedVariables false
set_option maxRecDepth 100000
def rdG (L M:List Int) (T:List Bool) (i:Nat) (most:Int):List Tok×Int×Nat×Bool:=
 if fine L=true∧fine M=true then readG (nats L) (nats M) T most (T.length+1) i 0 [] else ([],50,i,false)
theorem tok_lit {w:World} {t:Tok} {T:TypeId}:∀j u,(cellsT [t])[j]?=some u→(w.alloc (.cells #[.int .i64 t.B,.int .i64 t.L,.int .i64 t.D] T)).cell? ((⟨w.heap.size,0,none⟩:Addr).add j)=some u:=by
 intro j u hj;rw [Go.WideShapes.add_plain,Nat.zero_add,cell_of_row _ _ j _ _ _ (heap_alloc_new _ _)]
 have:(cellsT [t])[j]?=#[Value.int .i64 t.B,.int .i64 t.L,.int .i64 t.D][j]?:=by
  simp [cellsT]
 rw [←this];exact hj
theorem row0 {w:World} {base size n:Nat} {e:TypeId} {v:Value} {xs:List Value} (h:w.ownsRow base e size v n xs):w.ownsRow 0 e size v n xs:=by
 refine ⟨h.1,?_⟩;rcases h.2 with h0 | ⟨g,cap,cur,h1,_,h3⟩
 ·exact .inl h0
 ·exact .inr ⟨g,cap,cur,h1,Nat.zero_le _,h3⟩
def posOf (w:World) (b:Nat):Nat:=(intOf ((w.cell? ⟨b,1,none⟩).getD undef)).toNat
theorem posOf_eq {w:World} {b i:Nat} {t:ByteArray} {e:Bool} (h:RdAt 107 w b t i e):posOf w b=i:=by
 unfold posOf;rw [h.cells.2.1];simp [intOf]
theorem read_any (b:Nat) (t:ByteArray) (i:Nat) (a1 a2:Option Addr) (n c1 m c2:Nat) (L M:List Int) (most:Int) (w:World) (h:RdAt 107 w b t i false) (hi:i≤(tb t).length) (ht:t.size≤1000000)
  (hL:L.length=n) (hM:M.length=m) (iL:IsInts w a1 L) (iM:IsInts w a2 M) (hn:n≤1000000) (hm:m≤1000000) :
  Calls Tryz.prog 136 #[.pointer (some ⟨b,0,none⟩),.slice a1 n c1,.slice a2 m c2,.int .i64 most] w fun r w'=>∃v,
   r=.returned (.tuple #[v,.int .i64 (rdG L M (tb t) i most).2.1])∧w'.ownsRow w.heap.size 136 3 v (rdG L M (tb t) i most).1.length (cellsT (rdG L M (tb t) i most).1) ∧
   RdAt 107 w' b t (rdG L M (tb t) i most).2.2.1 (rdG L M (tb t) i most).2.2.2∧w.grownBy w' (some b):=by
 have H:=hid h;have IL:=hid iL;have IM:=hid iM;have hbw:=rd_lt h;clear h iL iM;obtain ⟨i0,hi0,hz0,hz1,hz2⟩:=info_parts info_tok;obtain ⟨⟨rl,re,rj,rb⟩,hres⟩:∃res,rdG L M (tb t) i most=res:=⟨_,rfl⟩;rw [hres];have HRES:=hid hres;clear hres;simp only
 cases hf1:fine L with
 | false=>
  have e:=HRES.out;unfold rdG at e;rw [if_neg (by rw [hf1];simp)] at e
  simp only [Prod.mk.injEq] at e;obtain ⟨rfl,rfl,rfl,rfl⟩:=e;have CN:=hid (new_bad a1 n c1 L w hL IL.out hn hf1);clear HRES
  go_enter Tryz.func136,Tryz.ntmps136
  go_wp2_with fail
  refine CN.out.mono ?_;rintro r w1 ⟨rfl,b1⟩;have HB:=hid b1;clear b1 CN
  go_wp2_with fail
  go_ret2;exact ⟨_,rfl,World.ownsRow_nil _ _ _ _,rd_below H.out HB.out,grown_of HB.out _⟩
 | true=>
  have CN:=hid (new_good a1 n c1 L w hL IL.out hf1)
  cases hf2:fine M with
  | false=>
   have e:=HRES.out;unfold rdG at e;rw [if_neg (by rw [hf2];simp)] at e
   simp only [Prod.mk.injEq] at e;obtain ⟨rfl,rfl,rfl,rfl⟩:=e;clear HRES
   go_enter Tryz.func136,Tryz.ntmps136
   go_wp2_with fail
   refine CN.out.mono ?_;rintro r w1 ⟨D1,S1,rfl,b1,_,_⟩;have HB:=hid b1;have CN2:=hid (new_bad a2 m c2 M w1 hM (IM.out.below b1 (Nat.le_refl _)) hm hf2);clear b1 CN
   go_wp2_with fail
   refine CN2.out.mono ?_;rintro r w2 ⟨rfl,b2⟩;have HB2:=hid (HB.out.trans (b2.mono HB.out.size));clear b2 CN2 HB
   go_wp2_with fail
   go_ret2;exact ⟨_,rfl,World.ownsRow_nil _ _ _ _,rd_below H.out HB2.out,grown_of HB2.out _⟩
  | true=>
   have e:=HRES.out;unfold rdG at e;rw [if_pos ⟨hf1,hf2⟩] at e;obtain ⟨p1,_,u1⟩:=fine_parts hf1;obtain ⟨p2,_,u2⟩:=fine_parts hf2;have HE:=hid e;have U:=hid (And.intro u1 u2);have hNl:(nats L).length=n:=by rw [nats_length];exact hL
   have hMl:(nats M).length=m:=by rw [nats_length];exact hM
   have hn320:(nats L).length≤320:=by omega
   have hm320:(nats M).length≤320:=by omega
   have CN2:=hid (fun w1 h=>new_good a2 m c2 M w1 hM h hf2)
   clear e HRES hf1 hf2;generalize nats L=N at *;generalize nats M=K at *;have hNl':=hid hNl;have hMl':=hid hMl;have hTl:(tb t).length≤8000000:=by rw [tb_length];omega
   have HTL:=hid hTl;clear hTl u1 u2
   go_enter Tryz.func136,Tryz.ntmps136
   go_wp2_with fail
   refine CN.out.mono ?_;rintro r w1 ⟨D1,S1,rfl,b1,_,d1⟩;have HB:=hid b1;have HD1:Hid (DecAt w1 D1 S1 (fst N) (used N 15) (symsOf N N.length)):=hid (by rw [hNl'.out];exact d1)
   clear b1 CN d1
   go_wp2_with fail
   refine (CN2.out w1 (IM.out.below HB.out (Nat.le_refl _))).mono ?_;rintro r w2 ⟨D2,S2,rfl,b2,_,d2⟩;have HD2:Hid (DecAt w2 D2 S2 (fst K) (used K 15) (symsOf K K.length)):=hid (by rw [hMl'.out];exact d2)
   have HD1':=hid (HD1.out.below b2 (Nat.le_refl _));have HB2:=hid (HB.out.trans (b2.mono HB.out.size));have HR2:=hid (rd_below H.out HB2.out);clear b2 CN2 HB d2 HD1 IL IM
   go_wp2_with fail
   go_loopw [13,14] (fun v md wr=>∃(j made f:Nat) (acc:List Tok),md=.int .i64 made∧readG N K (tb t) most f j made acc=(rl,re,rj,rb)∧(tb t).length-j<f∧j≤(tb t).length∧acc.length≤j∧made≤300*j ∧
    RdAt 107 wr b t j false∧w2.grownBy wr (some b)∧wr.ownsRow w2.heap.size 136 3 v acc.length (cellsT acc)) (fun _ _ wr=>(tb t).length-posOf wr b)
   case atStart=>exact ⟨i,0,(tb t).length+1,[],rfl,HE.out,by omega,hi,Nat.zero_le _,Nat.zero_le _,HR2.out,World.grownBy.refl _ _,World.ownsRow_nil _ _ _ _⟩
   case round=>
    obtain ⟨j,made,f,acc,rfl,hrd,hf,hj,hacc,hmade,hr,hg,ho⟩:=hrel;obtain ⟨f,rfl⟩:∃f',f=f'+1:=⟨f-1,by omega⟩
    have hd1:=HD1'.out.grown hg HR2.out (by decide) (by decide)
    have hd2:=HD2.out.grown hg HR2.out (by decide) (by decide)
    have CX:=hid (next_any D1 S1 N b t j false wr hd1 hr hj ht (by omega) U.out.1)
    have x1:=nx_ok N (tb t) j 15 0 0 (by omega)
    have x2:=nx_le N (tb t) j false 15 0 0 (by omega)
    have hpj:=posOf_eq hr;have HPJ:=hid hpj;generalize hgx:nxG N (tb t) j false 15 0 0=x at *;obtain ⟨xs,xe,xj,xb⟩:=x;have HGX:=hid hgx;simp only at x1 x2 CX;have HRD:=hid hrd;have HR:=hid hr;have HG:=hid hg;have HO:=hid ho;have HD2':=hid hd2;have hmade2:made≤2400000000:=by have:=HTL.out;omega
    have hacc2:acc.length≤8000000:=by have:=HTL.out;omega
    have hws:w2.heap.size≤wr.heap.size:=hg.size;clear hrd hr hg ho hd1 hd2 hgx hpj
    obtain ⟨va,vc,rfl⟩:∃ad c,u13=.slice ad acc.length c:=by
     rcases HO.out.2 with ⟨h1,h2⟩ | ⟨g,cap,cur,h1,_⟩
     ·exact ⟨none,0,by rw [h1,h2]⟩
     ·exact ⟨_,cap,h1⟩
    go_wp2_with fail
    refine CX.out.mono ?_;rintro r w3 ⟨rfl,r3,g3⟩;have HR3:=hid r3;have HG3:=hid (rgrown_trans HG.out g3)
    have hbne:∀k,(Value.slice va acc.length vc).ownBlock=some k→k≠b:=by
     intro k hk e;subst e;have h1:=HR2.out;have h2:=(HO.out.lt k hk).1;have h3:=rd_lt HR2.out;omega
    have HO3:=hid (rowK HO.out fun k hk=>g3.block k (HO.out.lt k hk).2 (by simp;exact hbne k hk))
    have HD3:=hid (HD2'.out.grown g3 HR.out (by decide) (by decide))
    have h23:w2.heap.size≤w3.heap.size:=Nat.le_trans hws g3.size;clear r3 g3 CX hbne HR HG HO HD2'
    by_cases hxe:xe=0
    ·subst hxe;obtain ⟨rfl,hxj⟩:=x1 rfl
     by_cases hend:xs=256
     ·subst hend;have e:=HRD.out;rw [readG_end HGX.out] at e;simp only [Prod.mk.injEq] at e;obtain ⟨rfl,rfl,rfl,rfl⟩:=e
      have hfin:Hid (w3.ownsRow w.heap.size 136 3 (.slice va acc.length vc) acc.length (cellsT acc)∧w.grownBy w3 (some b)):=hid ⟨by
       refine ⟨HO3.out.1,?_⟩;rcases HO3.out.2 with h0 | ⟨g,cap,cur,h1,h2,h3⟩
       ·exact .inl h0
       ·exact .inr ⟨g,cap,cur,h1,Nat.le_trans HB2.out.size h2,h3⟩,rgrown_trans (grown_of HB2.out _) HG3.out⟩
      clear HRD x1 hxj;rw [show ((256:Nat):Int)=256 from rfl]
      go_wp2_with fail
      go_ret2;exact ⟨_,rfl,hfin.out.1,HR3.out,hfin.out.2⟩
     ·have hend2:(xs:Int)≠256:=by omega
      have hend3:((xs:Int)==256)=false:=by simpa using hend2
      have CT:=hid (token_any b t xj xs D2 S2 K w3 HR3.out HD3.out x2 ht (by omega) U.out.2)
      have t1:=tok_ok K (tb t) xj xs x2;have t2:=tok_le K (tb t) xj xs x2;generalize hgt:tokG K (tb t) xj xs=tk at *;obtain ⟨tt,te,tj,tbad⟩:=tk;have HGT:=hid hgt;simp only at t1 t2 CT;have hxj':=hid hxj;clear hgt x1 hxj
      go_wp2_with fail
      refine CT.out.mono ?_;rintro r w4 ⟨rfl,r4,g4⟩
      have hbne:∀k,(Value.slice va acc.length vc).ownBlock=some k→k≠b:=by
       intro k hk e;subst e;have h2:=(HO3.out.lt k hk).1;have h3:=rd_lt HR2.out;omega
      have HG4:=hid (rgrown_trans HG3.out g4);have HO4:=hid (rowK HO3.out fun k hk=>g4.block k (HO3.out.lt k hk).2 (by simp;exact hbne k hk))
      have h24:w2.heap.size≤w4.heap.size:=Nat.le_trans h23 g4.size;have bX:Below w4.heap.size w4 (w4.alloc (.cells #[.int .i64 tt.B,.int .i64 tt.L,.int .i64 tt.D] 136)):=(Below.refl _ _).alloc (Nat.le_refl _) _;have hX:=heap_alloc_new w4 (.cells #[.int .i64 tt.B,.int .i64 tt.L,.int .i64 tt.D] 136);have HR5:=hid (rd_below r4 bX);have HO5:=hid (HO4.out.alloc (.cells #[.int .i64 tt.B,.int .i64 tt.L,.int .i64 tt.D] 136));have HG5:=hid (rgrown_trans HG4.out (grown_of bX (some b)));clear r4 g4 CT HO3 HG3 HR3 HD3 HO4;unfold tokC
      by_cases hte:te=0
      ·subst hte;obtain ⟨rfl,t3,t4,t5,t6⟩:=t1 rfl;obtain ⟨mx,hmx⟩:∃mx,max tt.L.toNat 1=mx:=⟨_,rfl⟩;have hm1:max tt.L 1=(mx:Int):=by omega
       have hm2:(if tt.L<1 then (1:Int) else tt.L)=(mx:Int):=by split <;> omega
       have hmx300:mx≤300:=by omega
       have hw1:IntKind.i64.wrap ((made:Int)+mx)=((made+mx:Nat):Int):=by push_cast;exact IntWalk.i64_in _ (by omega)
       by_cases hbig:most<((made+mx:Nat):Int)
       ·have hbig2:decide (most<((made+mx:Nat):Int))=true:=by simp;omega
        have e:=HRD.out;rw [readG_e3 HGX.out hend HGT.out (by rw [hmx];exact hbig)] at e
        simp only [Prod.mk.injEq] at e;obtain ⟨rfl,rfl,rfl,rfl⟩:=e;have hfin:=hid (rgrown_trans (grown_of HB2.out _) HG5.out);obtain ⟨c0,c1,c2⟩:=tok_block hX;clear HRD hX bX t1;generalize made+mx=mm at *
        go_wp2_with fail
        go_ret2;exact ⟨_,rfl,World.ownsRow_nil _ _ _ _,HR5.out,hfin.out⟩
       ·have hbig2:decide (most<((made+mx:Nat):Int))=false:=by simp;omega
        have e:=HRD.out;rw [readG_next HGX.out hend HGT.out (by rw [hmx];exact hbig),hmx] at e
        have HN:=hid e;have hmm:made+mx≤300*tj:=by have:=hxj'.out;omega
        obtain ⟨c0,c1,c2⟩:=tok_block hX;have LIT:=hid (fun (W:World)=>tok_lit (w:=W) (t:=tt) (T:=136))
        have hP4:w2.heap.size≤(w4.alloc (.cells #[.int .i64 tt.B,.int .i64 tt.L,.int .i64 tt.D] 136)).heap.size:=by simp;omega
        clear HRD e hmx t1;generalize made+mx=mm at *;generalize hW5:w4.alloc (.cells #[.int .i64 tt.B,.int .i64 tt.L,.int .i64 tt.D] 136)=w5 at *;clear hX bX;obtain ⟨al,hal⟩:∃al,acc.length=al:=⟨_,rfl⟩;have HAL:=hid hal;rw [hal] at HO5 hacc hacc2 ⊢;clear hal
        go_wp2_with (at_builtin;refine Lz.wpList_append_near _ rfl _ _ 97 rfl 136 i0 (.agg #[.int .i64 0,.int .i64 0,.int .i64 0]) 3 24 Tryz.underlying97 hi0 hz0 hz1 hz2 rfl (by decide) (.slice va al vc) al (cellsT acc) rfl (row0 (HO5.out.alloc _)) ⟨w5.heap.size,0,none⟩ 1 1 (cellsT [tt]) rfl rfl (LIT.out _) (cellsT_one _) (by unfold maxLen;omega) (by omega) ?_;intro v6 w6 o6 g6 n6)
        have hl:=HAL.out;have hbw2:=rd_lt HR2.out;have hown:∀k,(Value.slice va al vc).ownBlock=some k→w2.heap.size≤k:=fun k hk=>(HO5.out.lt k hk).1
        have r6:RdAt 107 w6 b t tj false:=by
         have h5:=rd_lt HR5.out;have r5:=rd_below HR5.out ((Below.refl _ _).alloc (Nat.le_refl _) (.cells #[.int .i64 tt.B,.int .i64 tt.L,.int .i64 tt.D] 136));have h6:=rd_lt r5;unfold RdAt at r5 ⊢;rw [g6.block b h6 (fun e=>by have:=hown b e.symm;omega)]
         exact r5
        have gg:w2.grownBy w6 (some b):=by
         have hs6:=g6.size;have hs5:(w5.alloc (.cells #[.int .i64 tt.B,.int .i64 tt.L,.int .i64 tt.D] 136)).heap.size=w5.heap.size+1:=by simp
         refine ⟨g6.os.trans HG5.out.os,g6.tape.trans HG5.out.tape,g6.output.trans HG5.out.output,by omega,fun k hk hkb=>?_⟩
         refine (g6.block k (by omega) (fun e=>by have:=hown k e.symm;omega)).trans ?_
         rw [Below.heap_alloc _ _ _ (by omega)]
         exact HG5.out.block k hk hkb
        have oo:w6.ownsRow w2.heap.size 136 3 v6 (acc++[tt]).length (cellsT (acc++[tt])):=by
         rw [cellsT_append,List.length_append,hl];refine ⟨o6.1,?_⟩;rcases o6.2 with h0 | ⟨g,cap,cur,h1,h2,h3⟩
         ·exact .inl h0
         ·refine .inr ⟨g,cap,cur,h1,?_,h3⟩;rcases n6 g (by rw [h1];rfl) with h | h
          ·exact hown g h
          ·simp at h;omega
        have hp6:=posOf_eq r6;have hpj:=HPJ.out;refine ⟨⟨tj,mm,f,acc++[tt],rfl,HN.out,by have:=hxj'.out;omega,t4,by rw [List.length_append,hl];have:=hxj'.out;simp;omega,hmm,r6,gg,oo⟩,?_⟩
        rw [hp6,hpj]
        have:=hxj'.out
        omega
      ·have hte2:(te==0)=false:=by simpa using hte
       have e:=HRD.out;rw [readG_e2 HGX.out hend HGT.out hte] at e;simp only [Prod.mk.injEq] at e;obtain ⟨rfl,rfl,rfl,rfl⟩:=e;have hfin:=hid (rgrown_trans (grown_of HB2.out _) HG5.out);clear HRD t1
       go_wp2_with fail
       go_ret2;exact ⟨_,rfl,World.ownsRow_nil _ _ _ _,HR5.out,hfin.out⟩
    ·have hxe2:(xe==0)=false:=by simpa using hxe
     have e:=HRD.out;rw [readG_e1 HGX.out hxe] at e;simp only [Prod.mk.injEq] at e;obtain ⟨rfl,rfl,rfl,rfl⟩:=e;have hfin:=hid (rgrown_trans (grown_of HB2.out _) HG3.out);clear HRD x1
     go_wp2_with fail
     go_ret2;exact ⟨_,rfl,World.ownsRow_nil _ _ _ _,HR3.out,hfin.out⟩
end Go.Proofs.YthbjllabgpaaaaaGreat.Sym
namespace Go.Proofs.YthbjllabgpaaaaaGreat.Sym
open Go.Lib (hid)
set_option maxHeartbeats 8000000
open Go.Proofs.YthbjllabgpaaaaaGreat.Huf (fine nats)
open Go.Proofs.YthbjllabgpaaaaaGreat.Lz (Tok okT)
open Go.Proofs.YthbjllabgpaaaaaGreat.Bit (pack tb)
set_option linter.unusedVariables false
set_option maxRecDepth 100000
theorem nats_ints (l:List Nat):nats (ints l)=l:=by
 unfold nats ints;rw [List.map_map]
 conv=>rhs;rw [←List.map_id l]
 apply List.map_congr_left
 intro x _
 simp
end Go.Proofs.YthbjllabgpaaaaaGreat.Sym
namespace Go.Proofs.YthbjllabgpaaaaaGreat.Sym
open Go.Lib (hid)
set_option maxHeartbeats 8000000
open Go.ChangeShapes Go.WideShapes Go.ChangeAt Go.RowKit
open Go.Proofs.YthbjllabgpaaaaaGreat.Huf (IsInts fine nats)
open Go.Proofs.YthbjllabgpaaaaaGreat.Lz (Tok okT tokC IsToks TokAt cellsT cellsT_get)
open Go.Proofs.YthbjllabgpaaaaaGreat.Bit (WrAt WrRaw But Near RdAt tb pack wstring_any rnew_any)
set_option linter.unusedVariables false
set_option maxRecDepth 100000
theorem below_but {B b:Nat} {v:Value} {w0 w w':World} (h:Below B w0 w) (hB:B≤w0.heap.size) (k:But b v w w') (hb:B≤b) (hv:∀i,v.ownBlock=some i→B≤i):Below B w0 w':=
 h.trans ⟨k.os,k.tape,k.output,k.size,fun i hi=>k.block i (by have:=h.size;omega) (by omega) (fun e=>by have:=hv i e.symm;omega)⟩
theorem ints_block {w w':World} {a:Option Addr} {L:List Int} (h:IsInts w a L) (hs:w.heap.size≤w'.heap.size) (k:∀g off,a=some ⟨g,off,none⟩→g<w.heap.size→w'.heap[g]?=w.heap[g]?):IsInts w' a L:=by
 intro h0;obtain ⟨g,off,e,hg,hc⟩:=h h0;refine ⟨g,off,e,Nat.lt_of_lt_of_le hg hs,fun i hi=>?_⟩
 rw [←hc i hi];exact World.cell?_of_block (w:=w) (w':=w') (a:=⟨g,off+i,none⟩) (k g off e hg)
theorem wr_new (w:World):WrAt (w.alloc (.cells #[.slice none 0 0,.int .i64 0] 85)) w.heap.size (.slice none 0 0) []:=⟨heap_alloc_new _ _,World.ownsRow_nil _ _ _ _⟩
end Go.Proofs.YthbjllabgpaaaaaGreat.Sym
namespace Go.Proofs.YthbjllabgpaaaaaGreat.Sym
open Go.Lib (hid)
set_option maxHeartbeats 8000000
open Go.ChangeShapes Go.WideShapes Go.ChangeAt Go.RowKit
open Go.Proofs.YthbjllabgpaaaaaGreat.Huf (IsInts)
set_option linter.unusedVariables false
set_option maxRecDepth 100000

end Go.Proofs.YthbjllabgpaaaaaGreat.Sym
namespace Go.Proofs.YthbjllabgpaaaaaGreat.Sym
open Go.Lib (hid)
set_option maxHeartbeats 8000000
open Go.ChangeShapes Go.WideShapes Go.ChangeAt Go.RowKit
open Go.Proofs.YthbjllabgpaaaaaGreat.Lz (Tok IsToks TokAt cellsT cellsT_length cellsT_get)
set_option linter.unusedVariables false
set_option maxRecDepth 100000

end Go.Proofs.YthbjllabgpaaaaaGreat.Sym
