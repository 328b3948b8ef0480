/-
  Several texts of layer 5 in one: the stable sort over rows, packages, and the contract of huffman.Lengths.
-/
import Derived.Sort.LotA
import Derived.Test.YthbjllabgpaaaaaGreatRows
import Derived.WalkKit
import Derived.ProofKit
import Derived.Below
import Derived.WalkSpells
import Derived.WalkLawsBesides
import Derived.Deep.QuietTactic
import Derived.BigQuiet
import Derived.BigGuardPart
import Derived.Outline
import Derived.IntWalk
import Derived.Lib.Hide
import Derived.Shelf.Abstract
import Derived.Shelf.GgSortFunc.SmallK
import Derived.Shelf.SlSortFuncK.RowK2
import Derived.Deep.DeepCutAuto
import Derived.Test.YthbjllabgpaaaaaGreatAllHuf
namespace Go.Proofs.YthbjllabgpaaaaaGreat.Srt
open Go.Lib (hid)
set_option maxHeartbeats 16000000
open Go.Sort
variable {α:Type} [Inhabited α]
set_option linter.unusedVariables false
def Up (key:α→Nat) (a b:Nat) (d:Array α):Prop:=∀i j,a≤i→i<j→j<b→key d[i]!≤key d[j]!
theorem Up.sub {key:α→Nat} {a b a' b':Nat} {d:Array α} (h:Up key a b d) (ha:a≤a') (hb:b'≤b):Up key a' b' d:=
 fun i j h1 h2 h3=>h i j (by omega) h2 (by omega)
theorem Up.le {key:α→Nat} {a b:Nat} {d:Array α} (h:Up key a b d) {i j:Nat} (h1:a≤i) (h2:i≤j) (h3:j<b):key d[i]!≤key d[j]!:=by
 rcases Nat.lt_or_ge i j with h4 | h4
 ·exact h i j h1 h4 h3
 ·obtain rfl:i=j:=by omega
  exact Nat.le_refl _
theorem Up.same {key:α→Nat} {a b:Nat} {d d':Array α} (h:Up key a b d) (he:∀i,a≤i→i<b→d'[i]! =d[i]!):Up key a b d':=by
 intro i j h1 h2 h3;rw [he i h1 (by omega),he j (by omega) h3]
 exact h i j h1 h2 h3
theorem Up.one (key:α→Nat) (a b:Nat) (d:Array α) (h:b≤a+1):Up key a b d:=fun i j h1 h2 h3=>by omega
def SwrOf (a b n:Nat) (d d':Array α):Prop:=
 d'.size=d.size∧∀x,d'[x]! =if a≤x∧x<a+n then d[x+(b-a)]! else if b≤x∧x<b+n then d[x-(b-a)]! else d[x]!
theorem SwrOf.start (a b:Nat) (d:Array α):SwrOf a b 0 d d:=⟨rfl,fun x=>by rw [if_neg (by omega),if_neg (by omega)]⟩
theorem SwrOf.step {a b n:Nat} {d dk:Array α} (h:SwrOf a b n d dk) (hab:a+n<b) (hb:b+n<d.size):SwrOf a b (n+1) d (swp dk (a+n) (b+n)):=by
 obtain ⟨hs,hx⟩:=h;refine ⟨by rw [size_swp];exact hs,fun x=>?_⟩
 rw [swp_get dk (by omega) (by omega),hx (a+n),hx (b+n),hx x]
 repeat' split
 all_goals first | rfl | (exfalso;omega) | (congr 1;omega)
def RotOf (a m b:Nat) (d d':Array α):Prop:=
 d'.size=d.size∧∀x,d'[x]! =if a≤x∧x<b then (if x<a+(b-m) then d[x+(m-a)]! else d[x-(b-m)]!) else d[x]!
theorem RotOf.left (a b:Nat) (d:Array α):RotOf a a b d d:=⟨rfl,fun x=>by
 by_cases h:a≤x∧x<b
 ·rw [if_pos h,if_pos (by omega),Nat.sub_self,Nat.add_zero]
 ·rw [if_neg h]⟩
theorem RotOf.right (a b:Nat) (d:Array α):RotOf a b b d d:=⟨rfl,fun x=>by
 by_cases h:a≤x∧x<b
 ·rw [if_pos h,if_neg (by omega),Nat.sub_self,Nat.sub_zero]
 ·rw [if_neg h]⟩
def Turns (m i j:Nat) (dc d':Array α):Prop:=RotOf (m-i) m (m+j) dc d'
theorem Turns.more {m i j:Nat} {dc d1 d':Array α} (h:Turns m i j dc d') (hij:j<i) (him:i≤m) (hs:SwrOf (m-i) m j dc d1):Turns m (i-j) j d1 d':=by
 obtain ⟨s1,h1⟩:=h;obtain ⟨s2,h2⟩:=hs;refine ⟨by omega,fun x=>?_⟩
 rw [h1 x,h2 (x+(m-(m-(i-j)))),h2 (x-(m+j-m)),h2 x]
 repeat' split
 all_goals first | rfl | (exfalso;omega) | (congr 1;omega)
theorem Turns.less {m i j:Nat} {dc d1 d':Array α} (h:Turns m i j dc d') (hij:i<j) (him:i≤m) (hs:SwrOf (m-i) (m+j-i) i dc d1):Turns m i (j-i) d1 d':=by
 obtain ⟨s1,h1⟩:=h;obtain ⟨s2,h2⟩:=hs;refine ⟨by omega,fun x=>?_⟩
 rw [h1 x,h2 (x+(m-(m-i))),h2 (x-(m+(j-i)-m)),h2 x]
 repeat' split
 all_goals first | rfl | (exfalso;omega) | (congr 1;omega)
theorem ext_bang {a b:Array α} (hs:a.size=b.size) (h:∀t:Nat,a[t]! =b[t]!):a=b:=
 Array.ext hs fun t h1 h2=>by have:=h t;rwa [getElem!_pos a t h1,getElem!_pos b t h2] at this
theorem Turns.last {m i:Nat} {dc d1 d':Array α} (h:Turns m i i dc d') (him:i≤m) (hs:SwrOf (m-i) m i dc d1):d1=d':=by
 obtain ⟨s1,h1⟩:=h;obtain ⟨s2,h2⟩:=hs;refine ext_bang (by omega) fun x=>?_
 rw [h1 x,h2 x]
 repeat' split
 all_goals first | rfl | (exfalso;omega) | (congr 1;omega)
def rotA (a m b:Nat) (d:Array α):Array α:=(Array.range d.size).map fun x=>if a≤x∧x<b then (if x<a+(b-m) then d[x+(m-a)]! else d[x-(b-m)]!) else d[x]!
theorem rotA_of (a m b:Nat) (d:Array α) (hb:b≤d.size):RotOf a m b d (rotA a m b d):=by
 refine ⟨by simp [rotA],fun x=>?_⟩
 by_cases hx:x<d.size
 ·unfold rotA;rw [getElem!_pos _ x (by simpa using hx)]
  simp
 ·have e:(rotA a m b d)[x]! =d[x]!:=by
   rw [getElem!_neg _ x (by simp [rotA];omega),getElem!_neg d x hx]
  rw [e,if_neg (by omega)]
theorem RotOf.right1 {a k:Nat} {d dk:Array α} (h:RotOf a (a+1) (k+1) d dk) (hak:a≤k) (hk:k+1<d.size):RotOf a (a+1) (k+2) d (swp dk k (k+1)):=by
 obtain ⟨hs,hx⟩:=h;refine ⟨by rw [size_swp];exact hs,fun x=>?_⟩
 rw [swp_get dk (by omega) (by omega),hx k,hx (k+1),hx x]
 repeat' split
 all_goals first | rfl | (exfalso;omega) | (congr 1;omega)
theorem RotOf.left1 {k m:Nat} {d dk:Array α} (h:RotOf k m (m+1) d dk) (hk:0<k) (hkm:k≤m) (hm:m<d.size):RotOf (k-1) m (m+1) d (swp dk k (k-1)):=by
 obtain ⟨hs,hx⟩:=h;refine ⟨by rw [size_swp];exact hs,fun x=>?_⟩
 rw [swp_get dk (by omega) (by omega),hx k,hx (k-1),hx x]
 repeat' split
 all_goals first | rfl | (exfalso;omega) | (congr 1;omega)
theorem up_right {key:α→Nat} {a b i:Nat} {d d':Array α} (h:Up key (a+1) b d) (hr:RotOf a (a+1) i d d') (hi:a+1≤i) (hib:i≤b)
  (h1:i=a+1∨key d[i-1]!≤key d[a]!) (h2:i=b∨key d[a]!≤key d[i]!):Up key a b d':=by
 intro x y hx hxy hy;rw [hr.2 x,hr.2 y]
 have lo:∀z,a+1≤z→z<i→key d[z]!≤key d[a]!:=fun z z1 z2=>by
  rcases h1 with e | e
  ·omega
  ·exact Nat.le_trans (h.le z1 (show z≤i-1 by omega) (by omega)) e
 have hi2:∀z,i≤z→z<b→key d[a]!≤key d[z]!:=fun z z1 z2=>by
  rcases h2 with e | e
  ·omega
  ·exact Nat.le_trans e (h.le hi z1 z2)
 by_cases a1:y<i
 ·rw [if_pos (by omega),if_pos (by omega)]
  by_cases a2:y<a+(i-(a+1))
  ·rw [if_pos (by omega),if_pos a2];exact h.le (by omega) (by omega) (by omega)
  ·rw [if_pos (by omega),if_neg a2,show y-(i-(a+1))=a by omega]
   exact lo _ (by omega) (by omega)
 ·rw [if_neg (show ¬(a≤y∧y<i) by omega)]
  by_cases a2:a≤x∧x<i
  ·rw [if_pos a2]
   by_cases a3:x<a+(i-(a+1))
   ·rw [if_pos a3];exact h.le (by omega) (by omega) hy
   ·rw [if_neg a3,show x-(i-(a+1))=a by omega];exact hi2 _ (by omega) hy
  ·rw [if_neg a2];exact h.le (by omega) (by omega) hy
theorem up_left {key:α→Nat} {a m i:Nat} {d d':Array α} (h:Up key a m d) (hr:RotOf i m (m+1) d d') (hi:a≤i) (him:i≤m)
  (h1:i=a∨key d[i-1]!≤key d[m]!) (h2:i=m∨key d[m]!≤key d[i]!):Up key a (m+1) d':=by
 intro x y hx hxy hy;rw [hr.2 x,hr.2 y]
 have lo:∀z,a≤z→z<i→key d[z]!≤key d[m]!:=fun z z1 z2=>by
  rcases h1 with e | e
  ·omega
  ·exact Nat.le_trans (h.le z1 (show z≤i-1 by omega) (by omega)) e
 have hi2:∀z,i≤z→z<m→key d[m]!≤key d[z]!:=fun z z1 z2=>by
  rcases h2 with e | e
  ·omega
  ·exact Nat.le_trans e (h.le hi z1 z2)
 repeat' split
 all_goals first
  | (exfalso;omega)
  | (rw [show x+(m-i)=m by omega];exact hi2 _ (by omega) (by omega))
  | (rw [show y+(m-i)=m by omega];exact lo _ (by omega) (by omega))
  | exact h.le (by omega) (by omega) (by omega)
theorem merge_half {key:α→Nat} {a m b mid start e:Nat} {d d1:Array α} (hu:Up key a m d) (hv:Up key m b d) (hr:RotOf start m e d d1)
  (he:e+start=mid+m) (h1:a≤start) (h2:start≤m) (h3:m≤e) (h4:e≤b) (h5:start≤mid) (h6:mid≤e)
  (hl:start=a∨e=b∨key d[start-1]!≤key d[e]!) (hh:start=m∨e=m∨key d[e-1]!≤key d[start]!) :
  Up key a start d1∧Up key start mid d1∧Up key mid e d1∧Up key e b d1∧∀x y,a≤x→x<mid→mid≤y→y<b→key d1[x]!≤key d1[y]!:=by
 have g:=hr.2;have r1:∀x,x<start→d1[x]! =d[x]!:=fun x hx=>by rw [g x,if_neg (by omega)]
 have r2:∀x,start≤x→x<mid→d1[x]! =d[x+(m-start)]!:=fun x x1 x2=>by rw [g x,if_pos (by omega),if_pos (by omega)]
 have r3:∀x,mid≤x→x<e→d1[x]! =d[x-(e-m)]!:=fun x x1 x2=>by rw [g x,if_pos (by omega),if_neg (by omega)]
 have r4:∀x,e≤x→d1[x]! =d[x]!:=fun x hx=>by rw [g x,if_neg (by omega)]
 refine ⟨hu.sub (Nat.le_refl _) h2 |>.same fun i _ hi=>r1 i hi,?_,?_,(hv.sub h3 (Nat.le_refl _)).same fun i hi _=>r4 i hi,?_⟩
 ·intro i j hi hij hj;rw [r2 i hi (by omega),r2 j (by omega) hj]
  exact hv.le (by omega) (by omega) (by omega)
 ·intro i j hi hij hj;rw [r3 i hi (by omega),r3 j (by omega) hj]
  exact hu.le (by omega) (by omega) (by omega)
 ·intro x y hx hxm hy hyb
  by_cases a1:x<start
  ·rw [r1 x a1]
   by_cases a2:y<e
   ·rw [r3 y hy a2];exact hu.le hx (by omega) (by omega)
   ·rw [r4 y (by omega)]
    rcases hl with e1 | e1 | e1
    ·omega
    ·omega
    ·exact Nat.le_trans (hu.le hx (show x≤start-1 by omega) (by omega)) (Nat.le_trans e1 (hv.le h3 (by omega) hyb))
  ·rw [r2 x (by omega) hxm]
   by_cases a2:y<e
   ·rw [r3 y hy a2];rcases hh with e1 | e1 | e1
    ·omega
    ·omega
    ·exact Nat.le_trans (hv.le (by omega) (show x+(m-start)≤e-1 by omega) (by omega)) (Nat.le_trans e1 (hu.le h1 (by omega) (by omega)))
   ·rw [r4 y (by omega)];exact hv.le (by omega) (by omega) hyb
theorem up_join {key:α→Nat} {a mid b:Nat} {d1 d2 d3:Array α} (hb:b≤d1.size) (hm1:a≤mid) (hm2:mid≤b) (p2:PermIn a mid d1 d2) (u2:Up key a mid d2) (p3:PermIn mid b d2 d3) (u3:Up key mid b d3)
  (hx:∀x y,a≤x→x<mid→mid≤y→y<b→key d1[x]!≤key d1[y]!):Up key a b d3:=by
 have low:∀x,a≤x→x<mid→d3[x]! =d2[x]!:=fun x _ h=>p3.2.1 x (.inl h)
 have up0:∀y,mid≤y→d2[y]! =d1[y]!:=fun y h=>p2.2.1 y (.inr h)
 have s2:d2.size=d1.size:=p2.1
 have c1:∀y,mid≤y→y<b→∀x,a≤x→x<mid→key d2[x]!≤key d1[y]!:=fun y y1 y2=>
  permIn_all d1 d2 a mid (fun z=>key z≤key d1[y]!) (by omega) p2 (fun x x1 x2=>hx x y x1 x2 y1 y2)
 have c2:∀x,a≤x→x<mid→∀y,mid≤y→y<b→key d2[x]!≤key d3[y]!:=fun x x1 x2=>
  permIn_all d2 d3 mid b (fun z=>key d2[x]!≤key z) (by omega) p3 (fun y y1 y2=>by rw [up0 y y1];exact c1 y y1 y2 x x1 x2)
 intro i j hi hij hj
 by_cases a1:j<mid
 ·rw [low i hi (by omega),low j (by omega) a1];exact u2 i j hi hij a1
 ·by_cases a2:i<mid
  ·rw [low i hi a2];exact c2 i hi a2 j (by omega) hj
  ·exact u3 i j (by omega) hij hj
theorem perm_trans {a b:Nat} {d d' d'':Array α} (h:PermIn a b d d') (k:PermIn a b d' d''):PermIn a b d d'':=permIn_trans _ _ _ _ _ h k
theorem perm_refl (a b:Nat) (d:Array α):PermIn a b d d:=permIn_refl _ _ _
theorem perm_swp {a b i j:Nat} {d dk:Array α} (h:PermIn a b d dk) (hb:b≤d.size) (h1:a≤i) (h2:i<b) (h3:a≤j) (h4:j<b):PermIn a b d (swp dk i j):=
 permIn_trans _ _ _ _ _ h (swp_permIn _ _ _ _ _ h1 h2 h3 h4 (by rw [h.1];exact hb))
theorem perm_mono {a b a' b':Nat} {d d':Array α} (h:PermIn a b d d') (h1:a'≤a) (h2:b≤b') (h3:b'≤d.size):PermIn a' b' d d':=permIn_mono _ _ _ _ _ _ h1 h2 h3 h
structure Put (key:α→Nat) (a j i:Nat) (d:Array α):Prop where
 rest:∀p q,a≤p→p<q→q≤i→p≠j→q≠j→key d[p]!≤key d[q]!
 right:∀q,j<q→q≤i→key d[j]!≤key d[q]!
theorem Put.start {key:α→Nat} {a i:Nat} {d:Array α} (h:Up key a i d):Put key a i i d:=⟨fun p q h1 h2 h3 h4 h5=>h p q h1 h2 (by omega),fun q h1 h2=>by omega⟩
theorem Put.stop {key:α→Nat} {a j i:Nat} {d:Array α} (h:Put key a j i d) (hs:j≤a∨key d[j-1]!≤key d[j]!):Up key a (i+1) d:=by
 intro p q hp hpq hq
 by_cases hq1:q=j
 ·subst hq1;rcases hs with hs | hs
  ·omega
  ·by_cases hp1:p=q-1
   ·subst hp1;exact hs
   ·exact Nat.le_trans (h.rest p (q-1) hp (by omega) (by omega) (by omega) (by omega)) hs
 ·by_cases hp1:p=j
  ·subst hp1;exact h.right q hpq (by omega)
  ·exact h.rest p q hp hpq (by omega) hp1 hq1
theorem Put.step {key:α→Nat} {a j i:Nat} {d:Array α} (h:Put key a j i d) (hl:key d[j]!<key d[j-1]!) (haj:a<j) (hsz:j<d.size):Put key a (j-1) i (swp d j (j-1)):=by
 have g:=swp_get d hsz (show j-1<d.size by omega)
 constructor
 ·intro p q hp hpq hqi hp1 hq1;rw [g,g]
  by_cases hq2:q=j
  ·subst hq2;rw [if_neg (by omega),if_neg (by omega),if_neg (by omega),if_pos rfl]
   exact h.rest p (q-1) hp (by omega) (by omega) (by omega) (by omega)
  ·by_cases hp2:p=j
   ·subst hp2;rw [if_neg (by omega),if_pos rfl,if_neg (by omega),if_neg (by omega)]
    exact h.rest (p-1) q (by omega) (by omega) hqi (by omega) (by omega)
   ·rw [if_neg (by omega),if_neg (by omega),if_neg (by omega),if_neg (by omega)]
    exact h.rest p q hp hpq hqi hp2 hq2
 ·intro q hq hqi;rw [g,g,if_pos rfl]
  by_cases hq2:q=j
  ·subst hq2;rw [if_neg (by omega),if_pos rfl];omega
  ·rw [if_neg (by omega),if_neg hq2];exact h.right q (by omega) hqi
end Go.Proofs.YthbjllabgpaaaaaGreat.Srt
namespace Go.Proofs.YthbjllabgpaaaaaGreat.Srt
open Go.Lib (hid)
set_option maxHeartbeats 16000000
open Go.Sort Go.RowKit
variable {α:Type} [Inhabited α]
set_option linter.unusedVariables false
structure St (enc:α→List Value) (k:Nat) (w0:World) (blk:Nat) (dk:Array α) (W:World):Prop where
 holds:HoldsK enc k W blk 0 dk
 grown:w0.grownBy W (some blk)
theorem grown_trans {a b c:World} {row:Option Nat} (h:a.grownBy b row) (k:b.grownBy c row):a.grownBy c row:=
 ⟨k.os.trans h.os,k.tape.trans h.tape,k.output.trans h.output,Nat.le_trans h.size k.size,fun i hi hr=>(k.block i (Nat.lt_of_lt_of_le hi h.size) hr).trans (h.block i hi hr)⟩
theorem grown_alloc (w:World) (o:Obj) (row:Option Nat):w.grownBy (w.alloc o) row:=⟨rfl,rfl,rfl,by simp,fun i hi _=>Below.heap_alloc w o i hi⟩
theorem grown_drewN (w:World) (n:Nat) (row:Option Nat):w.grownBy (w.drewN n) row:=⟨rfl,rfl,rfl,Nat.le_refl _,fun _ _ _=>rfl⟩
theorem heap_setCells_other (blk:Nat):∀(vs:List Value) (o:Nat) (w:World) (i:Nat),i≠blk→(w.setCells blk o vs).heap[i]?=w.heap[i]?
 | [],_,_,_,_=>rfl
 | v::r,o,w,i,h=>by
  rw [World.setCells,heap_setCells_other blk r (o+1) _ i h];exact Below.heap_setCell w ⟨blk,o,none⟩ v i h
theorem setCells_same (blk:Nat):∀(vs:List Value) (o:Nat) (w:World),(w.setCells blk o vs).os=w.os∧(w.setCells blk o vs).tape=w.tape∧(w.setCells blk o vs).output=w.output
 | [],_,_=>⟨rfl,rfl,rfl⟩
 | v::r,o,w=>by rw [World.setCells];exact setCells_same blk r (o+1) _
theorem grown_setCells (w:World) (blk o:Nat) (vs:List Value):w.grownBy (w.setCells blk o vs) (some blk):=by
 obtain ⟨a,b,c⟩:=setCells_same blk vs o w;exact ⟨a,b,c,by rw [size_setCells];exact Nat.le_refl _,fun i _ h=>heap_setCells_other blk vs o w i (fun e=>h (by rw [e]))⟩
section
variable {enc:α→List Value} {k:Nat} {w0 W W':World} {blk:Nat} {dk:Array α}
theorem St.le (h:St enc k w0 blk dk W):w0.heap.size≤W.heap.size:=h.grown.size
theorem holdsK_block {w w':World} (h:HoldsK enc k w blk 0 dk) (hb:w'.heap[blk]?=w.heap[blk]?):HoldsK enc k w' blk 0 dk:=fun j hj=>by
 obtain ⟨a,b⟩:=h j hj;exact ⟨(World.cell?_of_block (w:=w) (w':=w') (a:=⟨blk,0+j,none⟩) hb).trans a,(World.frozen?_of_block (w:=w) (w':=w') (a:=⟨blk,0+j,none⟩) hb).trans b⟩
theorem St.drewN (h:St enc k w0 blk dk W) (n:Nat):St enc k w0 blk dk (W.drewN n):=⟨h.holds,⟨h.grown.os,h.grown.tape,h.grown.output,h.grown.size,h.grown.block⟩⟩
theorem St.alloc (h:St enc k w0 blk dk W) (hb:blk<w0.heap.size) (o:Obj):St enc k w0 blk dk (W.alloc o):=
 ⟨holdsK_block h.holds (Below.heap_alloc W o blk (Nat.lt_of_lt_of_le hb h.le)),grown_trans h.grown (grown_alloc W o _)⟩
theorem St.swap (h:St enc k w0 blk dk W) (hk:∀x,(enc x).length=k) (i j:Nat) (hi:i<dk.size) (hj:j<dk.size) :
  St enc k w0 blk (swp dk i j) ((W.setCells blk (0+i*k) (enc dk[j]!)).setCells blk (0+j*k) (enc dk[i]!)):=by
 have e:=putRowK_swp enc k hk W blk 0 dk i j hi hj;rw [putRowK_self enc k W blk 0 dk h.holds] at e;refine ⟨?_,grown_trans (grown_trans h.grown (grown_setCells _ _ _ _)) (grown_setCells _ _ _ _)⟩;rw [e];exact holdsK_putRowK enc k W blk 0 dk _ h.holds (by rw [size_swp])
theorem grown_swap (W:World) (blk a b:Nat) (x y:List Value):W.grownBy ((W.setCells blk a x).setCells blk b y) (some blk):=grown_trans (grown_setCells _ _ _ _) (grown_setCells _ _ _ _)
end
def LessAt (P:Program) (g:Nat) (lb:Array Value) (enc:α→List Value) (k:Nat) (key:α→Nat) (blk size:Nat) (w0:World):Prop:=
 ∀(W:World) (dk:Array α),St enc k w0 blk dk W→dk.size=size→∀i j:Nat,i<size→j<size →
  Calls P g (#[.int .i64 i,.int .i64 j]++lb) W fun e w'=>e=.returned (.bool (decide (key dk[i]!<key dk[j]!)))∧∃q,w'=W.drewN q
def dataV (g:Nat) (lb:Array Value) (sf:Nat) (sb:Array Value):Array Value:=#[.func (.func g) #[] lb,.func (.func sf) #[] sb]
set_option maxRecDepth 10000 in
theorem swapRange_any (enc:α→List Value) (k:Nat) (hk:∀x,(enc x).length=k) (g:Nat) (lb:Array Value) (sf:Nat) (sb:Array Value) (w0:World) (blk size:Nat) (hblk:blk<w0.heap.size)
  (hswap:Go.Proofs.SwapSwapsK Tryz.prog sf sb enc k blk 0 size) (lo hi a b n:Nat) (d:Array α) (W:World) (hst:St enc k w0 blk d W) (hs:d.size=size) (hsz:size≤1000000)
  (h1:lo≤a) (h2:a+n≤b) (h3:b+n≤hi) (h4:hi≤size) :
  Calls Tryz.prog 206 #[.agg (dataV g lb sf sb),.int .i64 a,.int .i64 b,.int .i64 n] W fun e w'=>
   e=.returned (.tuple #[])∧∃d',SwrOf a b n d d'∧PermIn lo hi d d'∧St enc k w0 blk d' w'∧W.grownBy w' (some blk):=by
 have hle:=hst.le;have hst1:=hst.alloc hblk (.cells (dataV g lb sf sb) 244);have HST1:=hid hst1;have HSW:=hid hswap;clear hst hst1 hswap;unfold dataV at *
 go_enter Tryz.func206,Tryz.ntmps206
 go_wp2_with fail
 go_loopw [8] (fun vi wr=>∃(i:Nat) (dk:Array α),vi=.int .i64 i∧i≤n∧SwrOf a b i d dk∧PermIn lo hi d dk∧St enc k w0 blk dk wr∧(W.alloc (.cells #[.func (.func g) #[] lb,.func (.func sf) #[] sb] 244)).grownBy wr (some blk)) (fun vi _=>n-(intOf vi).toNat)
 case atStart=>exact ⟨0,d,rfl,Nat.zero_le _,SwrOf.start a b d,perm_refl _ _ _,HST1.out,World.grownBy.refl _ _⟩
 case round=>
  obtain ⟨i,dk,rfl,hin,hsw,hp,hst,hg⟩:=hrel
  by_cases hlt:i<n
  ·have hsk:dk.size=size:=hp.1.trans hs
   have c1:wr.cell? ⟨W.heap.size,1,none⟩=some (.func (.func sf) #[] sb):=by
    rw [World.cell?_of_block (a:=⟨W.heap.size,1,none⟩) (hg.block W.heap.size (by simp) (by simp;omega))]
    simp
   have hsw2:=HSW.out wr dk hst.holds hsk (a+i) (b+i) (by omega) (by omega)
   have HS:=hid (hst.swap hk (a+i) (b+i) (by omega) (by omega))
   have HG:=hid (grown_trans hg (grown_swap wr blk (0+(a+i)*k) (0+(b+i)*k) (enc dk[b+i]!) (enc dk[a+i]!)));have HW:=hid (hsw.step (by omega) (by omega))
   have HP:=hid (perm_swp hp (by omega) (show lo≤a+i by omega) (show a+i<hi by omega) (show lo≤b+i by omega) (by omega))
   have e1:((a+i:Nat):Int)=(a:Int)+i:=by omega
   have e2:((b+i:Nat):Int)=(b:Int)+i:=by omega
   rw [e1,e2] at hsw2;have HH:=hid hsw2;clear hsw hp hst hg hsw2 HST1 e1 e2;generalize (wr.setCells blk (0+(a+i)*k) (enc dk[b+i]!)).setCells blk (0+(b+i)*k) (enc dk[a+i]!)=w2 at *;generalize swp dk (a+i) (b+i)=d2 at *
   go_wp2_with fail
   rw [HH.out,Oper.upon_value];clear HH c1
   go_wp2_with fail
   refine ⟨⟨i+1,d2,by go_num,by omega,HW.out,HP.out,HS.out,HG.out⟩,?_⟩
   simp [intOf];omega
  ·obtain rfl:i=n:=by omega
   have HS:=hid hst;have HG:=hid (grown_trans (grown_alloc W _ _) hg);have HW:=hid hsw;have HP:=hid hp;clear hsw hp hst hg HST1
   go_wp2_with fail
   go_end0;exact ⟨rfl,dk,HW.out,HP.out,HS.out,HG.out⟩
set_option maxRecDepth 10000 in
theorem rotate_any (enc:α→List Value) (k:Nat) (hk:∀x,(enc x).length=k) (g:Nat) (lb:Array Value) (sf:Nat) (sb:Array Value) (w0:World) (blk size:Nat) (hblk:blk<w0.heap.size)
  (hswap:Go.Proofs.SwapSwapsK Tryz.prog sf sb enc k blk 0 size) (a m b:Nat) (d:Array α) (W:World) (hst:St enc k w0 blk d W) (hs:d.size=size) (hsz:size≤1000000)
  (h1:a<m) (h2:m<b) (h3:b≤size) :
  Calls Tryz.prog 205 #[.agg (dataV g lb sf sb),.int .i64 a,.int .i64 m,.int .i64 b] W fun e w'=>
   e=.returned (.tuple #[])∧∃d',RotOf a m b d d'∧PermIn a b d d'∧St enc k w0 blk d' w'∧W.grownBy w' (some blk):=by
 have hle:=hst.le;have hst1:=hst.alloc hblk (.cells (dataV g lb sf sb) 244);have HST1:=hid hst1;have SR:=hid (fun x y n dk wr (h:St enc k w0 blk dk wr) (hd:dk.size=size) (q1:a≤x) (q2:x+n≤y) (q3:y+n≤b)=>swapRange_any enc k hk g lb sf sb w0 blk size hblk hswap a b x y n dk wr h hd hsz q1 q2 q3 h3)
 have HRA:Hid (RotOf a m b d (rotA a m b d)):=rotA_of a m b d (by omega)
 have HDV:Hid (dataV g lb sf sb=#[.func (.func g) #[] lb,.func (.func sf) #[] sb]):=rfl;generalize rotA a m b d=T at *;rw [HDV.out] at SR;clear hst hst1 hswap;unfold dataV at *;clear HDV
 go_enter Tryz.func205,Tryz.ntmps205
 go_wp2_with fail
 go_loopw [8,9] (fun vi vj wr=>∃(i j:Nat) (dk:Array α),vi=.int .i64 i∧vj=.int .i64 j∧0<i∧0<j∧a+i≤m∧m+j≤b∧Turns m i j dk T∧PermIn a b d dk∧St enc k w0 blk dk wr∧(W.alloc (.cells #[.func (.func g) #[] lb,.func (.func sf) #[] sb] 244)).grownBy wr (some blk)) (fun vi vj _=>(intOf vi).toNat+(intOf vj).toNat)
 case atStart=>
  refine ⟨m-a,b-m,d,by go_num,by go_num,by omega,by omega,by omega,by omega,?_,perm_refl _ _ _,HST1.out,World.grownBy.refl _ _⟩
  unfold Turns;rw [show m-(m-a)=a by omega,show m+(b-m)=b by omega]
  exact HRA.out
 case round=>
  obtain ⟨i,j,dk,rfl,rfl,hi0,hj0,hia,hjb,htn,hp,hst,hg⟩:=hrel;have hsk:dk.size=size:=hp.1.trans hs
  have c0:wr.cell? ⟨W.heap.size,0,none⟩=some (.func (.func g) #[] lb):=by
   rw [World.cell?_of_block (a:=⟨W.heap.size,0,none⟩) (hg.block W.heap.size (by simp) (by simp;omega))]
   simp
  have c1:wr.cell? ⟨W.heap.size,1,none⟩=some (.func (.func sf) #[] sb):=by
   rw [World.cell?_of_block (a:=⟨W.heap.size,1,none⟩) (hg.block W.heap.size (by simp) (by simp;omega))]
   simp
  have HG0:=hid hg;have HT:=hid htn;have HP:=hid hp;rcases Nat.lt_trichotomy j i with hc | hc | hc
  ·have S1:=hid (SR.out (m-i) m j dk wr hst hsk (by omega) (by omega) (by omega))
   rw [show ((m-i:Nat):Int)=(m:Int)-i by omega] at S1
   clear hst hg htn hp HST1
   go_wp2_with fail
   refine S1.out.mono ?_;rintro r w2 ⟨rfl,d2,hsw,hp2,hst2,hg2⟩;have H1:=hid hsw;have H2:=hid (perm_trans HP.out hp2);have H3:=hid hst2;have H4:=hid (grown_trans HG0.out hg2);clear hsw hp2 hst2 hg2 S1 c0 c1
   go_wp2_with fail
   refine ⟨⟨i-j,j,d2,by go_num,rfl,by omega,hj0,by omega,hjb,HT.out.more hc (by omega) H1.out,H2.out,H3.out,H4.out⟩,?_⟩
   simp [intOf];omega
  ·subst hc;have S1:=hid (SR.out (m-j) m j dk wr hst hsk (by omega) (by omega) (by omega))
   rw [show ((m-j:Nat):Int)=(m:Int)-j by omega] at S1
   clear hst hg htn hp HST1
   go_wp2_with fail
   refine S1.out.mono ?_;rintro r w2 ⟨rfl,d2,hsw,hp2,hst2,hg2⟩;have H1:=hid (HT.out.last (by omega) hsw)
   have H2:=hid (perm_trans HP.out hp2);have H3:=hid hst2;have H4:=hid (grown_trans (grown_alloc W _ _) (grown_trans HG0.out hg2));clear hsw hp2 hst2 hg2 S1 c0 c1
   go_wp2_with fail
   go_end0;exact ⟨rfl,d2,by rw [H1.out];exact HRA.out,H2.out,H3.out,H4.out⟩
  ·have S1:=hid (SR.out (m-i) (m+j-i) i dk wr hst hsk (by omega) (by omega) (by omega))
   rw [show ((m-i:Nat):Int)=(m:Int)-i by omega,show ((m+j-i:Nat):Int)=(m:Int)+j-i by omega] at S1
   clear hst hg htn hp HST1
   go_wp2_with fail
   refine S1.out.mono ?_;rintro r w2 ⟨rfl,d2,hsw,hp2,hst2,hg2⟩;have H1:=hid hsw;have H2:=hid (perm_trans HP.out hp2);have H3:=hid hst2;have H4:=hid (grown_trans HG0.out hg2);clear hsw hp2 hst2 hg2 S1 c0 c1
   go_wp2_with fail
   refine ⟨⟨i,j-i,d2,rfl,by go_num,hi0,by omega,hia,by omega,HT.out.less hc (by omega) H1.out,H2.out,H3.out,H4.out⟩,?_⟩
   simp [intOf];omega
end Go.Proofs.YthbjllabgpaaaaaGreat.Srt
namespace Go.Proofs.YthbjllabgpaaaaaGreat.Srt
open Go.Lib (hid)
set_option maxHeartbeats 16000000
open Go.Sort Go.RowKit
variable {α:Type} [Inhabited α]
set_option linter.unusedVariables false
set_option maxRecDepth 10000 in
theorem insertion_any (enc:α→List Value) (k:Nat) (hk:∀x,(enc x).length=k) (key:α→Nat) (g:Nat) (lb:Array Value) (sf:Nat) (sb:Array Value) (w0:World) (blk size:Nat) (hblk:blk<w0.heap.size)
  (eg:∀args w,(callFunc g args).run Tryz.prog w=.ok (.enter g args) w) (hless:LessAt Tryz.prog g lb enc k key blk size w0)
  (hswap:Go.Proofs.SwapSwapsK Tryz.prog sf sb enc k blk 0 size) (a b:Nat) (d:Array α) (W:World) (hst:St enc k w0 blk d W) (hs:d.size=size) (hsz:size≤1000000)
  (h1:a≤b) (h2:b≤size) :
  Calls Tryz.prog 203 #[.agg (dataV g lb sf sb),.int .i64 a,.int .i64 b] W fun e w'=>
   e=.returned (.tuple #[])∧∃d',PermIn a b d d'∧Up key a b d'∧St enc k w0 blk d' w'∧W.grownBy w' (some blk):=by
 have hle:=hst.le;have hst1:=hst.alloc hblk (.cells (dataV g lb sf sb) 244);have HST1:=hid hst1;have HSW:=hid hswap;have HLS:=hid hless;clear hst hst1 hswap hless;unfold dataV at *
 go_enter Tryz.func203,Tryz.ntmps203
 go_wp2_with fail
 go_loopw [6] (fun vi wr=>∃(i:Nat) (dk:Array α),vi=.int .i64 i∧a<i∧i≤b+1∧Up key a (if i≤b then i else b) dk∧PermIn a b d dk∧St enc k w0 blk dk wr∧(W.alloc (.cells #[.func (.func g) #[] lb,.func (.func sf) #[] sb] 244)).grownBy wr (some blk)) (fun vi _=>b+1-(intOf vi).toNat)
 case atStart=>exact ⟨a+1,d,by go_num,by omega,by omega,Up.one key _ _ _ (by split <;> omega),perm_refl _ _ _,HST1.out,World.grownBy.refl _ _⟩
 case round=>
  obtain ⟨i,dk,rfl,hai,hib,hup,hp,hst,hg⟩:=hrel
  by_cases hlt:i<b
  ·rw [if_pos (by omega)] at hup
   have HU:=hid hup;have HP:=hid hp;have HS:=hid hst;have HG:=hid hg;clear hup hp hst hg HST1
   go_wp2_with fail
   go_loopw [7] (fun vj wr2=>∃(j:Nat) (dj:Array α),vj=.int .i64 j∧a≤j∧j≤i∧Put key a j i dj∧PermIn a b d dj∧St enc k w0 blk dj wr2∧(W.alloc (.cells #[.func (.func g) #[] lb,.func (.func sf) #[] sb] 244)).grownBy wr2 (some blk)) (fun vj _=>(intOf vj).toNat)
   case atStart=>exact ⟨i,dk,rfl,by omega,Nat.le_refl _,Put.start HU.out,HP.out,HS.out,HG.out⟩
   case round=>
    obtain ⟨j,dj,rfl,haj,hji,hput,hp,hst,hg⟩:=hrel;clear HU HP HS HG;have hsk:dj.size=size:=hp.1.trans hs
    have c0:wr.cell? ⟨W.heap.size,0,none⟩=some (.func (.func g) #[] lb):=by
     rw [World.cell?_of_block (a:=⟨W.heap.size,0,none⟩) (hg.block W.heap.size (by simp) (by simp;omega))]
     simp
    have c1:∀q,(wr.drewN q).cell? ⟨W.heap.size,1,none⟩=some (.func (.func sf) #[] sb):=fun q=>by
     show wr.cell? _=_;rw [World.cell?_of_block (a:=⟨W.heap.size,1,none⟩) (hg.block W.heap.size (by simp) (by simp;omega))]
     simp
    have HPT:=hid hput;have HP:=hid hp;have HG:=hid hg;have HST:=hid hst;clear hput hp hg hst
    by_cases hja:a<j
    ·have hl:=HLS.out wr dj HST.out hsk j (j-1) (by omega) (by omega)
     rw [show ((j-1:Nat):Int)=(j:Int)-1 by omega] at hl
     by_cases hlv:key dj[j]!<key dj[j-1]!
     ·rw [decide_eq_true hlv] at hl;have HL:=hid hl;have HLV:=hid hlv;clear hl hlv
      go_wp2_with (go_at_fn g;refine HL.out.mono ?_;rintro e w' ⟨rfl,q,rfl⟩)
      have hsw2:=HSW.out (wr.drewN q) dj (HST.out.drewN q).holds hsk j (j-1) (by omega) (by omega)
      rw [show ((j-1:Nat):Int)=(j:Int)-1 by omega] at hsw2
      have H1:=hid ((HST.out.drewN q).swap hk j (j-1) (by omega) (by omega))
      have H2:=hid (grown_trans HG.out (grown_trans (grown_drewN wr q _) (grown_swap (wr.drewN q) blk (0+j*k) (0+(j-1)*k) (enc dj[j-1]!) (enc dj[j]!))));have H3:=hid (HPT.out.step HLV.out hja (by omega))
      have H4:=hid (perm_swp HP.out (by omega) (show a≤j by omega) (show j<b by omega) (show a≤j-1 by omega) (show j-1<b by omega))
      rw [hsw2,Oper.upon_value];clear hsw2 c0 c1 HL HPT HP HG HST HLV;generalize ((wr.drewN q).setCells blk (0+j*k) (enc dj[j-1]!)).setCells blk (0+(j-1)*k) (enc dj[j]!)=w2 at *;generalize swp dj j (j-1)=d2 at *
      go_wp2_with fail
      refine ⟨⟨j-1,d2,by go_num,by omega,by omega,H3.out,H4.out,H1.out,H2.out⟩,?_⟩
      simp [intOf];omega
     ·rw [decide_eq_false hlv] at hl;have HL:=hid hl;have HLV:=hid hlv;clear hl hlv
      go_wp2_with (go_at_fn g;refine HL.out.mono ?_;rintro e w' ⟨rfl,q,rfl⟩)
      refine ⟨⟨i+1,dj,by go_num,by omega,by omega,?_,HP.out,HST.out.drewN q,grown_trans HG.out (grown_drewN wr q _)⟩,?_⟩
      ·rw [if_pos (by omega)];exact HPT.out.stop (.inr (Nat.le_of_not_lt HLV.out))
      ·simp [intOf];omega
    ·go_wp2_with fail
     refine ⟨⟨i+1,dj,by go_num,by omega,by omega,?_,HP.out,HST.out,HG.out⟩,?_⟩
     ·rw [if_pos (by omega)];exact HPT.out.stop (.inl (by omega))
     ·simp [intOf];omega
  ·have HU:Hid (Up key a b dk):=by
    show Up key a b dk
    by_cases h:i≤b
    ·rw [if_pos h] at hup
     rwa [show i=b by omega] at hup
    ·rwa [if_neg h] at hup
   have HP:=hid hp;have HS:=hid hst;have HG:=hid (grown_trans (grown_alloc W _ _) hg);clear hup hp hst hg HST1
   go_wp2_with fail
   go_end0;exact ⟨rfl,dk,HP.out,HU.out,HS.out,HG.out⟩
end Go.Proofs.YthbjllabgpaaaaaGreat.Srt
namespace Go.Proofs.YthbjllabgpaaaaaGreat.Srt
open Go.Lib (hid)
set_option maxHeartbeats 16000000
open Go.Sort Go.RowKit
variable {α:Type} [Inhabited α]
set_option linter.unusedVariables false
set_option maxRecDepth 100000 in
theorem symA_any (enc:α→List Value) (k:Nat) (hk:∀x,(enc x).length=k) (key:α→Nat) (g:Nat) (lb:Array Value) (sf:Nat) (sb:Array Value) (w0:World) (blk size:Nat) (hblk:blk<w0.heap.size)
  (eg:∀args w,(callFunc g args).run Tryz.prog w=.ok (.enter g args) w) (hless:LessAt Tryz.prog g lb enc k key blk size w0)
  (hswap:Go.Proofs.SwapSwapsK Tryz.prog sf sb enc k blk 0 size) (a m b:Nat) (d:Array α) (W:World) (hst:St enc k w0 blk d W) (hs:d.size=size) (hsz:size≤1000000)
  (h1:m=a+1) (h2:m<b) (h3:b≤size) (hu:Up key m b d) :
  Calls Tryz.prog 204 #[.agg (dataV g lb sf sb),.int .i64 a,.int .i64 m,.int .i64 b] W fun e w'=>
   e=.returned (.tuple #[])∧∃d',PermIn a b d d'∧Up key a b d'∧St enc k w0 blk d' w'∧W.grownBy w' (some blk):=by
 have hle:=hst.le;have hst1:=hst.alloc hblk (.cells (dataV g lb sf sb) 244);have HST1:=hid hst1;have HSW:=hid hswap;have HLS:=hid hless;have HUP:=hid hu;have hma:(m:Int)-(a:Int)=1:=by omega
 have H1:=hid h1;clear hst hst1 hswap hless hu h1;unfold dataV at *
 go_enter Tryz.func204,Tryz.ntmps204
 go_wp2_with fail
 clear hma;have h1:=H1.out
 go_loopw [8,9] (fun vi vj wr=>∃(i j:Nat),vi=.int .i64 i∧vj=.int .i64 j∧m≤i∧i≤j∧j≤b∧(i=m∨key d[i-1]!≤key d[a]!)∧(j=b∨key d[a]!≤key d[j]!)∧St enc k w0 blk d wr∧(W.alloc (.cells #[.func (.func g) #[] lb,.func (.func sf) #[] sb] 244)).grownBy wr (some blk)) (fun vi vj _=>(intOf vj).toNat-(intOf vi).toNat)
 case atStart=>exact ⟨m,b,rfl,rfl,Nat.le_refl _,by omega,Nat.le_refl _,.inl rfl,.inl rfl,HST1.out,World.grownBy.refl _ _⟩
 case round=>
  obtain ⟨i,j,rfl,rfl,hmi,hij,hjb,hb1,hb2,hst,hg⟩:=hrel
  have c0:wr.cell? ⟨W.heap.size,0,none⟩=some (.func (.func g) #[] lb):=by
   rw [World.cell?_of_block (a:=⟨W.heap.size,0,none⟩) (hg.block W.heap.size (by simp) (by simp;omega))]
   simp
  have HB1:=hid hb1;have HB2:=hid hb2;have HST:=hid hst;have HG:=hid hg;clear hb1 hb2 hst hg
  by_cases hlt:i<j
  ·obtain ⟨h,hh⟩:∃h,(i+j)/2=h:=⟨_,rfl⟩;have hl:=HLS.out wr d HST.out hs h a (by omega) (by omega)
   have eh:((h:Nat):Int)=((i:Int)+j)/2:=by omega
   rw [eh] at hl;have EH:=hid eh;clear eh h1
   by_cases hlv:key d[h]!<key d[a]!
   ·rw [decide_eq_true hlv] at hl;have HL:=hid hl;have HLV:=hid hlv;clear hl hlv
    go_wp2_with fail
    refine HL.out.mono ?_;rintro r w2 ⟨rfl,q,rfl⟩;clear c0 HL
    go_wp2_with fail
    refine ⟨⟨h+1,j,by have:=EH.out;congr 1;omega,rfl,by omega,by omega,hjb,.inr (by rw [Nat.add_sub_cancel];exact Nat.le_of_lt HLV.out),HB2.out,HST.out.drewN q,grown_trans HG.out (grown_drewN wr q _)⟩,?_⟩
    have:=EH.out
    simp [intOf];omega
   ·rw [decide_eq_false hlv] at hl;have HL:=hid hl;have HLV:=hid hlv;clear hl hlv
    go_wp2_with fail
    refine HL.out.mono ?_;rintro r w2 ⟨rfl,q,rfl⟩;clear c0 HL
    go_wp2_with fail
    refine ⟨⟨i,h,rfl,by have:=EH.out;congr 1;omega,by omega,by omega,by omega,HB1.out,.inr (Nat.le_of_not_lt HLV.out),HST.out.drewN q,grown_trans HG.out (grown_drewN wr q _)⟩,?_⟩
    have:=EH.out
    simp [intOf];omega
  ·obtain rfl:i=j:=by omega
   clear h1
   go_wp2_with fail
   go_loopw [11] (fun vx wr2=>∃(x:Nat) (dk:Array α),vx=.int .i64 x∧a≤x∧x+1≤i∧RotOf a (a+1) (x+1) d dk∧PermIn a b d dk∧St enc k w0 blk dk wr2∧(W.alloc (.cells #[.func (.func g) #[] lb,.func (.func sf) #[] sb] 244)).grownBy wr2 (some blk)) (fun vx _=>i-(intOf vx).toNat)
   case atStart=>exact ⟨a,d,rfl,Nat.le_refl _,by have:=H1.out;omega,RotOf.right a (a+1) d,perm_refl _ _ _,HST.out,HG.out⟩
   case round=>
    obtain ⟨x,dk,rfl,hax,hxi,hrot,hp,hst,hg⟩:=hrel
    have c1:wr.cell? ⟨W.heap.size,1,none⟩=some (.func (.func sf) #[] sb):=by
     rw [World.cell?_of_block (a:=⟨W.heap.size,1,none⟩) (hg.block W.heap.size (by simp) (by simp;omega))]
     simp
    by_cases hlt2:x+1<i
    ·have hsk:dk.size=size:=hp.1.trans hs;have hsw2:=HSW.out wr dk hst.holds hsk x (x+1) (by omega) (by omega)
     rw [show ((x+1:Nat):Int)=(x:Int)+1 by omega] at hsw2
     have K1:=hid (hst.swap hk x (x+1) (by omega) (by omega))
     have K2:=hid (grown_trans hg (grown_swap wr blk (0+x*k) (0+(x+1)*k) (enc dk[x+1]!) (enc dk[x]!)));have K3:=hid (hrot.right1 hax (by omega))
     have K4:=hid (perm_swp hp (by omega) hax (show x<b by omega) (show a≤x+1 by omega) (show x+1<b by omega))
     have HH:=hid hsw2;clear hsw2 hrot hp hst hg HST HG c0 HB1 HB2;have hlt3:(x:Int)<(i:Int)-1:=by omega
     go_wp2_with fail
     rw [HH.out,Oper.upon_value];clear HH c1;generalize (World.setCells _ _ _ _).setCells blk _ (enc dk[x]!)=w2 at *;generalize swp dk x (x+1)=d2 at *
     go_wp2_with fail
     refine ⟨⟨x+1,d2,by go_num,by omega,by omega,K3.out,K4.out,K1.out,K2.out⟩,?_⟩
     simp [intOf];omega
    ·have hR:RotOf a (a+1) i d dk:=by rwa [show x+1=i by omega] at hrot
     have hmm:=H1.out;have K3:=hid (up_right (key:=key) (by rw [←hmm];exact HUP.out) hR (by omega) hjb (by rw [←hmm];exact HB1.out) HB2.out)
     have K4:=hid hp;have K1:=hid hst;have K2:=hid (grown_trans (grown_alloc W _ _) hg);have hlt3:¬((x:Int)<(i:Int)-1):=by omega
     clear hR hmm hrot hp hst hg HST HG c0 HB1 HB2 c1
     go_wp2_with fail
     refine bodyPost_ret (results_none rfl _ _ _) rfl ?_;exact ⟨rfl,dk,K4.out,K3.out,K1.out,K2.out⟩
set_option maxRecDepth 100000 in
theorem symB_any (enc:α→List Value) (k:Nat) (hk:∀x,(enc x).length=k) (key:α→Nat) (g:Nat) (lb:Array Value) (sf:Nat) (sb:Array Value) (w0:World) (blk size:Nat) (hblk:blk<w0.heap.size)
  (eg:∀args w,(callFunc g args).run Tryz.prog w=.ok (.enter g args) w) (hless:LessAt Tryz.prog g lb enc k key blk size w0)
  (hswap:Go.Proofs.SwapSwapsK Tryz.prog sf sb enc k blk 0 size) (a m b:Nat) (d:Array α) (W:World) (hst:St enc k w0 blk d W) (hs:d.size=size) (hsz:size≤1000000)
  (h0:a+1<m) (h1:b=m+1) (h3:b≤size) (hu:Up key a m d) :
  Calls Tryz.prog 204 #[.agg (dataV g lb sf sb),.int .i64 a,.int .i64 m,.int .i64 b] W fun e w'=>
   e=.returned (.tuple #[])∧∃d',PermIn a b d d'∧Up key a b d'∧St enc k w0 blk d' w'∧W.grownBy w' (some blk):=by
 have hle:=hst.le;have hst1:=hst.alloc hblk (.cells (dataV g lb sf sb) 244);have HST1:=hid hst1;have HSW:=hid hswap;have HLS:=hid hless;have HUP:=hid hu;have hma:((m:Int)-(a:Int)==1)=false:=by simp;omega
 have hmb:((b:Int)-(m:Int)==1)=true:=by simp;omega
 have hmlt:m<b:=by omega
 have H1:=hid h1;clear hst hst1 hswap hless hu h1;unfold dataV at *
 go_enter Tryz.func204,Tryz.ntmps204
 go_wp2_with fail
 clear hma hmb;have h1:=H1.out
 go_loopw [12,13] (fun vi vj wr=>∃(i j:Nat),vi=.int .i64 i∧vj=.int .i64 j∧a≤i∧i≤j∧j≤m∧(i=a∨key d[i-1]!≤key d[m]!)∧(j=m∨key d[m]!≤key d[j]!)∧St enc k w0 blk d wr∧(W.alloc (.cells #[.func (.func g) #[] lb,.func (.func sf) #[] sb] 244)).grownBy wr (some blk)) (fun vi vj _=>(intOf vj).toNat-(intOf vi).toNat)
 case atStart=>exact ⟨a,m,rfl,rfl,Nat.le_refl _,by omega,Nat.le_refl _,.inl rfl,.inl rfl,HST1.out,World.grownBy.refl _ _⟩
 case round=>
  obtain ⟨i,j,rfl,rfl,hmi,hij,hjb,hb1,hb2,hst,hg⟩:=hrel
  have c0:wr.cell? ⟨W.heap.size,0,none⟩=some (.func (.func g) #[] lb):=by
   rw [World.cell?_of_block (a:=⟨W.heap.size,0,none⟩) (hg.block W.heap.size (by simp) (by simp;omega))]
   simp
  have HB1:=hid hb1;have HB2:=hid hb2;have HST:=hid hst;have HG:=hid hg;clear hb1 hb2 hst hg
  by_cases hlt:i<j
  ·obtain ⟨h,hh⟩:∃h,(i+j)/2=h:=⟨_,rfl⟩;have hl:=HLS.out wr d HST.out hs m h (by omega) (by omega)
   have eh:((h:Nat):Int)=((i:Int)+j)/2:=by omega
   rw [eh] at hl;have EH:=hid eh;clear eh h1
   by_cases hlv:key d[m]!<key d[h]!
   ·rw [decide_eq_true hlv] at hl;have HL:=hid hl;have HLV:=hid hlv;clear hl hlv
    go_wp2_with fail
    refine HL.out.mono ?_;rintro r w2 ⟨rfl,q,rfl⟩;clear c0 HL
    go_wp2_with fail
    refine ⟨⟨i,h,rfl,by have:=EH.out;congr 1;omega,by omega,by omega,by omega,HB1.out,.inr (Nat.le_of_lt HLV.out),HST.out.drewN q,grown_trans HG.out (grown_drewN wr q _)⟩,?_⟩
    have:=EH.out
    simp [intOf];omega
   ·rw [decide_eq_false hlv] at hl;have HL:=hid hl;have HLV:=hid hlv;clear hl hlv
    go_wp2_with fail
    refine HL.out.mono ?_;rintro r w2 ⟨rfl,q,rfl⟩;clear c0 HL
    go_wp2_with fail
    refine ⟨⟨h+1,j,by have:=EH.out;congr 1;omega,rfl,by omega,by omega,hjb,.inr (by rw [Nat.add_sub_cancel];exact Nat.le_of_not_lt HLV.out),HB2.out,HST.out.drewN q,grown_trans HG.out (grown_drewN wr q _)⟩,?_⟩
    have:=EH.out
    simp [intOf];omega
  ·obtain rfl:i=j:=by omega
   clear h1
   go_wp2_with fail
   go_loopw [15] (fun vx wr2=>∃(x:Nat) (dk:Array α),vx=.int .i64 x∧i≤x∧x≤m∧RotOf x m (m+1) d dk∧PermIn a b d dk∧St enc k w0 blk dk wr2∧(W.alloc (.cells #[.func (.func g) #[] lb,.func (.func sf) #[] sb] 244)).grownBy wr2 (some blk)) (fun vx _=>(intOf vx).toNat)
   case atStart=>exact ⟨m,d,rfl,hjb,Nat.le_refl _,RotOf.left m (m+1) d,perm_refl _ _ _,HST.out,HG.out⟩
   case round=>
    obtain ⟨x,dk,rfl,hix,hxm,hrot,hp,hst,hg⟩:=hrel
    have c1:wr.cell? ⟨W.heap.size,1,none⟩=some (.func (.func sf) #[] sb):=by
     rw [World.cell?_of_block (a:=⟨W.heap.size,1,none⟩) (hg.block W.heap.size (by simp) (by simp;omega))]
     simp
    by_cases hlt2:i<x
    ·have hsk:dk.size=size:=hp.1.trans hs;have hbm:=H1.out;have hsw2:=HSW.out wr dk hst.holds hsk x (x-1) (by omega) (by omega)
     rw [show ((x-1:Nat):Int)=(x:Int)-1 by omega] at hsw2
     have K1:=hid (hst.swap hk x (x-1) (by omega) (by omega))
     have K2:=hid (grown_trans hg (grown_swap wr blk (0+x*k) (0+(x-1)*k) (enc dk[x-1]!) (enc dk[x]!)));have K3:=hid (hrot.left1 (by omega) hxm (by omega))
     have K4:=hid (perm_swp hp (by omega) (show a≤x by omega) (show x<b by omega) (show a≤x-1 by omega) (show x-1<b by omega))
     have HH:=hid hsw2;clear hsw2 hrot hp hst hg HST HG c0 HB1 HB2 hbm
     go_wp2_with fail
     rw [HH.out,Oper.upon_value];clear HH c1;generalize (World.setCells _ _ _ _).setCells blk _ (enc dk[x]!)=w2 at *;generalize swp dk x (x-1)=d2 at *
     go_wp2_with fail
     refine ⟨⟨x-1,d2,by go_num,by omega,by omega,K3.out,K4.out,K1.out,K2.out⟩,?_⟩
     simp [intOf];omega
    ·have hR:RotOf i m (m+1) d dk:=by rwa [show x=i by omega] at hrot
     have hmm:=H1.out;have K3:=hid (show Up key a b dk by rw [hmm];exact up_left (key:=key) HUP.out hR hmi hjb HB1.out HB2.out)
     have K4:=hid hp;have K1:=hid hst;have K2:=hid (grown_trans (grown_alloc W _ _) hg);clear hR hmm hrot hp hst hg HST HG c0 HB1 HB2 c1
     go_wp2_with fail
     refine bodyPost_ret (results_none rfl _ _ _) rfl ?_;exact ⟨rfl,dk,K4.out,K3.out,K1.out,K2.out⟩
end Go.Proofs.YthbjllabgpaaaaaGreat.Srt
namespace Go.Proofs.YthbjllabgpaaaaaGreat.Srt
open Go.Lib (hid)
set_option maxHeartbeats 16000000
open Go.Sort Go.RowKit
variable {α:Type} [Inhabited α]
set_option linter.unusedVariables false
def Merges (enc:α→List Value) (k:Nat) (key:α→Nat) (g:Nat) (lb:Array Value) (sf:Nat) (sb:Array Value) (w0:World) (blk size:Nat) (a m b:Nat):Prop:=
 ∀(d:Array α) (W:World),St enc k w0 blk d W→d.size=size→Up key a m d→Up key m b d →
  Calls Tryz.prog 204 #[.agg (dataV g lb sf sb),.int .i64 a,.int .i64 m,.int .i64 b] W fun e w'=>
   e=.returned (.tuple #[])∧∃d',PermIn a b d d'∧Up key a b d'∧St enc k w0 blk d' w'∧W.grownBy w' (some blk)
set_option maxRecDepth 100000 in
theorem symC_any (enc:α→List Value) (k:Nat) (hk:∀x,(enc x).length=k) (key:α→Nat) (g:Nat) (lb:Array Value) (sf:Nat) (sb:Array Value) (w0:World) (blk size:Nat) (hblk:blk<w0.heap.size)
  (eg:∀args w,(callFunc g args).run Tryz.prog w=.ok (.enter g args) w) (hless:LessAt Tryz.prog g lb enc k key blk size w0)
  (hswap:Go.Proofs.SwapSwapsK Tryz.prog sf sb enc k blk 0 size) (a m b:Nat) (hsz:size≤1000000)
  (h1:a+1<m) (h2:m+1<b) (h3:b≤size)
  (ih:∀a' m' b',b'-a'<b-a→a'<m'→m'<b'→b'≤size→Merges enc k key g lb sf sb w0 blk size a' m' b') :
  Merges enc k key g lb sf sb w0 blk size a m b:=by
 intro d W hst hs hu hv;have hle:=hst.le;have hst1:=hst.alloc hblk (.cells (dataV g lb sf sb) 244);have HST1:=hid hst1;have HLS:=hid hless;have HUP:=hid hu;have HVP:=hid hv;have IH:=hid ih;have ROT:=hid (fun x e dk wr (h:St enc k w0 blk dk wr) (hd:dk.size=size) (q1:x<m) (q2:m<e) (q3:e≤size)=>rotate_any enc k hk g lb sf sb w0 blk size hblk hswap x m e dk wr h hd hsz q1 q2 q3)
 obtain ⟨M,hM⟩:∃M,(a+b)/2=M:=⟨_,rfl⟩;have HMM:=hid hM;have hma:((m:Int)-(a:Int)==1)=false:=by simp;omega
 have hmb:((b:Int)-(m:Int)==1)=false:=by simp;omega
 clear hst hst1 hswap hless hu hv ih;unfold Merges dataV at *
 go_enter Tryz.func204,Tryz.ntmps204
 go_upto_if 106 with fail
 clear hma hmb
 go_cut [18,19] (fun s18 s19 wx=>(W.alloc (.cells #[.func (.func g) #[] lb,.func (.func sf) #[] sb] 244))=wx∧∃s0 r0:Nat,s18=.int .i64 s0∧s19=.int .i64 r0∧a≤s0∧s0≤r0∧r0≤m∧r0≤M∧M+m≤b+s0∧(s0=a∨M+m=b+s0)∧(r0=m∨r0=M))
 case first=>
  by_cases hg:M<m
  ·have hd:((a:Int)+b)/2<m:=by omega
   go_wp2_with fail
   go_meet;exact ⟨rfl,M+m-b,M,by congr 1;omega,by congr 1;omega,by omega,by omega,by omega,by omega,by omega,.inr (by omega),.inr rfl⟩
  ·have hd:¬((a:Int)+b)/2<m:=by omega
   go_wp2_with fail
   go_meet;exact ⟨rfl,a,m,rfl,rfl,by omega,by omega,by omega,by omega,by omega,.inl rfl,.inl rfl⟩
 case rest=>
 obtain ⟨hwc,s0,r0,rfl,rfl,q1,q2,q3,q4,q5,q6,q7⟩:=hcut;subst hwc;rw [show ((a:Int)+(b:Int))/2=(M:Int) by omega]
 clear hM;have hMs:M≤size:=by have:=HMM.out;omega
 go_wp2_with fail
 go_loopw [18,19] (fun vi vj wr=>∃(x r:Nat),vi=.int .i64 x∧vj=.int .i64 r∧s0≤x∧x≤r∧r≤r0∧(x=s0∨key d[x-1]!≤key d[M+m-x]!)∧(r=r0∨key d[M+m-1-r]!≤key d[r]!)∧St enc k w0 blk d wr∧(W.alloc (.cells #[.func (.func g) #[] lb,.func (.func sf) #[] sb] 244)).grownBy wr (some blk)) (fun vi vj _=>(intOf vj).toNat-(intOf vi).toNat)
 case atStart=>exact ⟨s0,r0,rfl,rfl,Nat.le_refl _,q2,Nat.le_refl _,.inl rfl,.inl rfl,HST1.out,World.grownBy.refl _ _⟩
 case round=>
  obtain ⟨x,r,rfl,rfl,hsx,hxr,hrr,hb1,hb2,hst,hg⟩:=hrel
  have c0:wr.cell? ⟨W.heap.size,0,none⟩=some (.func (.func g) #[] lb):=by
   rw [World.cell?_of_block (a:=⟨W.heap.size,0,none⟩) (hg.block W.heap.size (by simp) (by simp;omega))]
   simp
  have HB1:=hid hb1;have HB2:=hid hb2;have HST:=hid hst;have HG:=hid hg;clear hb1 hb2 hst hg
  by_cases hlt:x<r
  ·obtain ⟨h,hh⟩:∃h,(x+r)/2=h:=⟨_,rfl⟩;have hl:=HLS.out wr d HST.out hs (M+m-1-h) h (by omega) (by omega)
   have eh:((h:Nat):Int)=((x:Int)+r)/2:=by omega
   have eh2:((M+m-1-h:Nat):Int)=(M:Int)+m-1-((x:Int)+r)/2:=by omega
   rw [eh2,eh] at hl;have EH:=hid eh;clear eh eh2
   by_cases hlv:key d[M+m-1-h]!<key d[h]!
   ·rw [decide_eq_true hlv] at hl;have HL:=hid hl;have HLV:=hid hlv;clear hl hlv hh
    go_wp2_with fail
    refine HL.out.mono ?_;rintro rr w2 ⟨rfl,q,rfl⟩;clear c0 HL
    go_wp2_with fail
    have e3:=EH.out;refine ⟨⟨x,h,rfl,by congr 1;omega,by omega,by omega,by omega,HB1.out,.inr (Nat.le_of_lt HLV.out),HST.out.drewN q,grown_trans HG.out (grown_drewN wr q _)⟩,?_⟩
    simp [intOf];omega
   ·rw [decide_eq_false hlv] at hl;have HL:=hid hl;have HLV:=hid hlv;clear hl hlv hh
    go_wp2_with fail
    refine HL.out.mono ?_;rintro rr w2 ⟨rfl,q,rfl⟩;clear c0 HL
    go_wp2_with fail
    have e3:=EH.out;refine ⟨⟨h+1,r,by congr 1;omega,rfl,by omega,by omega,hrr,.inr (by rw [Nat.add_sub_cancel,show M+m-(h+1)=M+m-1-h by omega];exact Nat.le_of_not_lt HLV.out),HB2.out,HST.out.drewN q,grown_trans HG.out (grown_drewN wr q _)⟩,?_⟩
    simp [intOf];omega
  ·obtain rfl:x=r:=by omega
   have c1:wr.cell? ⟨W.heap.size,1,none⟩=some (.func (.func sf) #[] sb):=by
    rw [World.cell?_of_block (a:=⟨W.heap.size,1,none⟩) (HG.out.block W.heap.size (by simp) (by simp;omega))]
    simp
   obtain ⟨e,he⟩:∃e,M+m-x=e:=⟨_,rfl⟩;have hME:=HMM.out
   have hl1:x=a∨e=b∨key d[x-1]!≤key d[e]!:=by
    rcases HB1.out with h | h
    ·rcases q6 with h6 | h6
     ·exact .inl (by omega)
     ·exact .inr (.inl (by omega))
    ·exact .inr (.inr (by rw [←he];exact h))
   have hl2:x=m∨e=m∨key d[e-1]!≤key d[x]!:=by
    rcases HB2.out with h | h
    ·rcases q7 with h7 | h7
     ·exact .inl (by omega)
     ·exact .inr (.inl (by omega))
    ·exact .inr (.inr (by rw [←he,show M+m-x-1=M+m-1-x by omega];exact h))
   have HL1:=hid hl1;have HL2:=hid hl2;have z1:a≤x:=by omega
   have z2:x≤m:=by omega
   have z3:m≤e:=by omega
   have z4:e≤b:=by omega
   have z5:x≤M:=by omega
   have z6:M≤e:=by omega
   have z7:e+x=M+m:=by omega
   have z8:a<M∧M<b:=by omega
   have eE:(M:Int)+m-x=(e:Int):=by omega
   clear hl1 hl2 HB1 HB2 he hME q1 q2 q3 q4 q5 q6 q7 hsx hxr hrr hlt
   go_upto_region 40 with fail
   clear eE
   go_cut [145] (fun sv wx=>wr=wx∧sv=.bool (decide (x<m∧m<e)))
   case first=>
    by_cases t1:x<m
    ·by_cases t2:m<e
     ·go_wp2_with fail
      go_meet;exact ⟨rfl,by rw [decide_eq_true ⟨t1,t2⟩]⟩
     ·go_wp2_with fail
      go_meet;exact ⟨rfl,by rw [decide_eq_false (fun h=>t2 h.2)]⟩
    ·go_wp2_with fail
     go_meet;exact ⟨rfl,by rw [decide_eq_false (fun h=>t1 h.1)]⟩
   case rest=>
   obtain ⟨hwc,rfl⟩:=hcut;subst hwc
   go_upto_if 145 with fail
   go_cut [] (fun wx=>∃d1,RotOf x m e d d1∧PermIn a b d d1∧St enc k w0 blk d1 wx∧(W.alloc (.cells #[.func (.func g) #[] lb,.func (.func sf) #[] sb] 244)).grownBy wx (some blk))
   case first=>
    by_cases t:x<m∧m<e
    ·rw [decide_eq_true t];have RC:=hid (ROT.out x e d wr HST.out hs t.1 t.2 (by omega))
     go_wp2_with fail
     refine RC.out.mono ?_;rintro rr w2 ⟨rfl,d2,f1,f2,f3,f4⟩;have F1:=hid f1;have F2:=hid (perm_mono f2 z1 z4 (by omega))
     have F3:=hid f3;have F4:=hid (grown_trans HG.out f4);clear f1 f2 f3 f4 RC
     go_wp2_with fail
     go_meet;exact ⟨d2,F1.out,F2.out,F3.out,F4.out⟩
    ·rw [decide_eq_false t]
     have F1:Hid (RotOf x m e d d):=by
      show RotOf x m e d d
      by_cases t1:x=m
      ·rw [t1];exact RotOf.left m e d
      ·rw [show e=m by omega];exact RotOf.right x m d
     go_wp2_with fail
     go_meet;exact ⟨d,F1.out,perm_refl _ _ _,HST.out,HG.out⟩
   case rest=>
   obtain ⟨d1,f1,f2,f3,f4⟩:=hcut;obtain ⟨m1,m2,m3,m4,m5⟩:=merge_half (key:=key) HUP.out HVP.out f1 z7 z1 z2 z3 z4 z5 z6 HL1.out HL2.out;have M1:=hid m1;have M2:=hid m2;have M3:=hid m3;have M4:=hid m4;have M5:=hid m5;have F2:=hid f2;have F3:=hid f3;have F4:=hid f4;have hs1:d1.size=size:=f2.1.trans hs
   have c0:wc.cell? ⟨W.heap.size,0,none⟩=some (.func (.func g) #[] lb):=by
    rw [World.cell?_of_block (a:=⟨W.heap.size,0,none⟩) (f4.block W.heap.size (by simp) (by simp;omega))]
    simp
   have c1:wc.cell? ⟨W.heap.size,1,none⟩=some (.func (.func sf) #[] sb):=by
    rw [World.cell?_of_block (a:=⟨W.heap.size,1,none⟩) (f4.block W.heap.size (by simp) (by simp;omega))]
    simp
   clear m1 m2 m3 m4 m5 f1 f2 f3 f4 HL1 HL2 HST HG;rename_i wr0;generalize wc=w1 at *
   go_upto_region 42 with fail
   go_cut [158] (fun sv wx=>w1=wx∧sv=.bool (decide (a<x∧x<M)))
   case first=>
    by_cases t1:a<x
    ·by_cases t2:x<M
     ·go_wp2_with fail
      go_meet;exact ⟨rfl,by rw [decide_eq_true ⟨t1,t2⟩]⟩
     ·go_wp2_with fail
      go_meet;exact ⟨rfl,by rw [decide_eq_false (fun h=>t2 h.2)]⟩
    ·go_wp2_with fail
     go_meet;exact ⟨rfl,by rw [decide_eq_false (fun h=>t1 h.1)]⟩
   case rest=>
   obtain ⟨hwc,rfl⟩:=hcut;subst hwc
   go_upto_if 158 with fail
   go_cut [] (fun wx=>∃d2,PermIn a M d1 d2∧Up key a M d2∧St enc k w0 blk d2 wx∧(W.alloc (.cells #[.func (.func g) #[] lb,.func (.func sf) #[] sb] 244)).grownBy wx (some blk))
   case first=>
    by_cases t:a<x∧x<M
    ·rw [decide_eq_true t];have RC:=hid (IH.out a x M (by omega) t.1 t.2 hMs d1 w1 F3.out hs1 M1.out M2.out)
     go_wp2_with fail
     refine RC.out.mono ?_;rintro rr w2 ⟨rfl,d2,f1,f2,f3,f4⟩;have G1:=hid f1;have G2:=hid f2;have G3:=hid f3;have G4:=hid (grown_trans F4.out f4);clear f1 f2 f3 f4 RC
     go_wp2_with fail
     go_meet;exact ⟨d2,G1.out,G2.out,G3.out,G4.out⟩
    ·rw [decide_eq_false t]
     have G1:Hid (Up key a M d1):=by
      show Up key a M d1
      by_cases t1:a=x
      ·rw [t1];exact M2.out
      ·rw [show M=x by omega];exact M1.out
     go_wp2_with fail
     go_meet;exact ⟨d1,perm_refl _ _ _,G1.out,F3.out,F4.out⟩
   case rest=>
   obtain ⟨d2,g1,g2,g3,g4⟩:=hcut;have hs2:d2.size=size:=g1.1.trans hs1
   have c0:wc.cell? ⟨W.heap.size,0,none⟩=some (.func (.func g) #[] lb):=by
    rw [World.cell?_of_block (a:=⟨W.heap.size,0,none⟩) (g4.block W.heap.size (by simp) (by simp;omega))]
    simp
   have c1:wc.cell? ⟨W.heap.size,1,none⟩=some (.func (.func sf) #[] sb):=by
    rw [World.cell?_of_block (a:=⟨W.heap.size,1,none⟩) (g4.block W.heap.size (by simp) (by simp;omega))]
    simp
   have G1:=hid g1;have G2:=hid g2;have G3:=hid g3;have G4:=hid g4;have P2:=hid (perm_trans F2.out (perm_mono g1 (Nat.le_refl _) (show M≤b by omega) (by omega)))
   have N3:Hid (Up key M e d2):=M3.out.same fun i hi _=>g1.2.1 i (.inr hi)
   have N4:Hid (Up key e b d2):=M4.out.same fun i hi _=>g1.2.1 i (.inr (by omega))
   clear g1 g2 g3 g4 F3 F4;generalize wc=w3 at *
   have JOIN:Hid (∀d3,PermIn M b d2 d3→Up key M b d3→PermIn a b d d3∧Up key a b d3):=fun d3 p u=>
    ⟨perm_trans P2.out (perm_mono p (show a≤M by omega) (Nat.le_refl _) (by omega)),up_join (by omega) (by omega) (by omega) G1.out G2.out p u M5.out⟩
   by_cases t1:M<e
   ·by_cases t2:e<b
    ·have RC:=hid (IH.out M e b (by omega) t1 t2 h3 d2 w3 G3.out hs2 N3.out N4.out)
     go_wp2_with fail
     refine RC.out.mono ?_;rintro rr w4 ⟨rfl,d3,f1,f2,f3,f4⟩;have K1:=hid (JOIN.out d3 f1 f2);have K3:=hid f3;have K4:=hid (grown_trans (grown_alloc W _ _) (grown_trans G4.out f4));clear f1 f2 f3 f4 RC
     go_wp2_with fail
     go_end0;exact ⟨rfl,d3,K1.out.1,K1.out.2,K3.out,K4.out⟩
    ·have K1:=hid (JOIN.out d2 (perm_refl _ _ _) (by rw [show b=e by omega];exact N3.out))
     have K4:=hid (grown_trans (grown_alloc W _ _) G4.out)
     go_wp2_with fail
     go_end0;exact ⟨rfl,d2,K1.out.1,K1.out.2,G3.out,K4.out⟩
   ·have K1:=hid (JOIN.out d2 (perm_refl _ _ _) (by rw [show M=e by omega];exact N4.out))
    have K4:=hid (grown_trans (grown_alloc W _ _) G4.out)
    go_wp2_with fail
    go_end0;exact ⟨rfl,d2,K1.out.1,K1.out.2,G3.out,K4.out⟩
theorem symMerge_any (enc:α→List Value) (k:Nat) (hk:∀x,(enc x).length=k) (key:α→Nat) (g:Nat) (lb:Array Value) (sf:Nat) (sb:Array Value) (w0:World) (blk size:Nat) (hblk:blk<w0.heap.size)
  (eg:∀args w,(callFunc g args).run Tryz.prog w=.ok (.enter g args) w) (hless:LessAt Tryz.prog g lb enc k key blk size w0)
  (hswap:Go.Proofs.SwapSwapsK Tryz.prog sf sb enc k blk 0 size) (hsz:size≤1000000) :
  ∀(n a m b:Nat),b-a≤n→a<m→m<b→b≤size→Merges enc k key g lb sf sb w0 blk size a m b:=by
 intro n
 induction n with
 | zero=>intro a m b h0 h1 h2;omega
 | succ n ih=>
  intro a m b hn h1 h2 h3
  by_cases ha:m=a+1
  ·intro d W hst hs _ hv;exact symA_any enc k hk key g lb sf sb w0 blk size hblk eg hless hswap a m b d W hst hs hsz ha h2 h3 hv
  ·by_cases hb:b=m+1
   ·intro d W hst hs hu _;exact symB_any enc k hk key g lb sf sb w0 blk size hblk eg hless hswap a m b d W hst hs hsz (by omega) hb h3 hu
   ·exact symC_any enc k hk key g lb sf sb w0 blk size hblk eg hless hswap a m b hsz (by omega) (by omega) h3 (fun a' m' b' hlt q1 q2 q3=>ih a' m' b' (by omega) q1 q2 q3)
end Go.Proofs.YthbjllabgpaaaaaGreat.Srt
namespace Go.Proofs.YthbjllabgpaaaaaGreat.Srt
open Go.Lib (hid)
set_option maxHeartbeats 16000000
open Go.Sort Go.RowKit
variable {α:Type} [Inhabited α]
set_option linter.unusedVariables false
theorem dvd_next {c s a:Nat} (h1:c∣s) (h2:c∣a) (h:s<a):s+c≤a:=by
 obtain ⟨x,rfl⟩:=h1;obtain ⟨y,rfl⟩:=h2;have hxy:x<y:=Nat.lt_of_mul_lt_mul_left h;rw [←Nat.mul_succ];exact Nat.mul_le_mul_left c hxy
def Blk (key:α→Nat) (bs n:Nat) (d:Array α):Prop:=∀s,bs∣s→s<n→Up key s (min (s+bs) n) d
def Front (key:α→Nat) (bs a:Nat) (d:Array α):Prop:=∀s,bs∣s→s+bs≤a→Up key s (s+bs) d
theorem Front.start (key:α→Nat) (bs:Nat) (hb:0<bs) (d:Array α):Front key bs 0 d:=fun s _ h=>by omega
theorem Front.step {key:α→Nat} {bs a:Nat} {d d':Array α} (h:Front key bs a d) (ha:bs∣a) (hp:PermIn a (a+bs) d d') (hu:Up key a (a+bs) d'):Front key bs (a+bs) d':=by
 intro s hs hle
 by_cases e:s=a
 ·subst e;exact hu
 ·have hlt:s<a:=by omega
  have:=dvd_next hs ha hlt
  exact (h s hs this).same fun i _ hi=>hp.2.1 i (.inl (by omega))
theorem Front.close {key:α→Nat} {bs a n:Nat} {d d':Array α} (h:Front key bs a d) (ha:bs∣a) (han:a≤n) (hna:n<a+bs) (hp:PermIn a n d d') (hu:Up key a n d'):Blk key bs n d':=by
 intro s hs hsn
 by_cases e:s=a
 ·subst e;rw [Nat.min_eq_right (by omega)];exact hu
 ·by_cases hlt:s<a
  ·have:=dvd_next hs ha hlt
   rw [Nat.min_eq_left (by omega)]
   exact (h s hs this).same fun i _ hi=>hp.2.1 i (.inl (by omega))
  ·have:=dvd_next ha hs (by omega);omega
def Half (key:α→Nat) (bs n a:Nat) (d:Array α):Prop:=Front key (2*bs) a d∧∀s,a≤s→bs∣s→s<n→Up key s (min (s+bs) n) d
theorem Half.start {key:α→Nat} {bs n:Nat} {d:Array α} (h:Blk key bs n d) (hb:0<bs):Half key bs n 0 d:=⟨Front.start key _ (by omega) d,fun s _ h1 h2=>h s h1 h2⟩
theorem Half.step {key:α→Nat} {bs n a:Nat} {d d':Array α} (h:Half key bs n a d) (ha:2*bs∣a) (hp:PermIn a (a+2*bs) d d') (hu:Up key a (a+2*bs) d'):Half key bs n (a+2*bs) d':=
 ⟨h.1.step ha hp hu,fun s h1 h2 h3=>(h.2 s (by omega) h2 h3).same fun i hi _=>hp.2.1 i (.inr (by omega))⟩
theorem Half.two {key:α→Nat} {bs n a:Nat} {d:Array α} (h:Half key bs n a d) (ha:2*bs∣a) (hb:0<bs) (hn:a+bs<n):Up key a (a+bs) d∧Up key (a+bs) (min (a+2*bs) n) d:=by
 have hd:bs∣a:=Nat.dvd_trans ⟨2,by omega⟩ ha
 have h1:=h.2 a (Nat.le_refl _) hd (by omega)
 have h2:=h.2 (a+bs) (by omega) (Nat.dvd_add hd (Nat.dvd_refl _)) hn
 rw [Nat.min_eq_left (by omega)] at h1
 rw [show a+bs+bs=a+2*bs by omega] at h2
 exact ⟨h1,h2⟩
theorem Half.close {key:α→Nat} {bs n a:Nat} {d d':Array α} (h:Half key bs n a d) (ha:2*bs∣a) (han:a≤n) (hna:n<a+2*bs) (hp:PermIn a n d d') (hu:Up key a n d'):Blk key (2*bs) n d':=
 h.1.close ha han hna hp hu
theorem Half.rest {key:α→Nat} {bs n a:Nat} {d:Array α} (h:Half key bs n a d) (ha:2*bs∣a) (hn:n≤a+bs):Up key a n d:=by
 by_cases e:a<n
 ·have h1:=h.2 a (Nat.le_refl _) (Nat.dvd_trans ⟨2,by omega⟩ ha) e
  rwa [Nat.min_eq_right (by omega)] at h1
 ·exact Up.one key a n d (by omega)
set_option maxRecDepth 100000 in
theorem stable_any (enc:α→List Value) (k:Nat) (hk:∀x,(enc x).length=k) (key:α→Nat) (g:Nat) (lb:Array Value) (sf:Nat) (sb:Array Value) (w0:World) (blk n:Nat) (hblk:blk<w0.heap.size)
  (eg:∀args w,(callFunc g args).run Tryz.prog w=.ok (.enter g args) w) (hless:LessAt Tryz.prog g lb enc k key blk n w0)
  (hswap:Go.Proofs.SwapSwapsK Tryz.prog sf sb enc k blk 0 n) (d:Array α) (W:World) (hst:St enc k w0 blk d W) (hs:d.size=n) (hsz:n≤1000000) :
  Calls Tryz.prog 192 #[.agg (dataV g lb sf sb),.int .i64 n] W fun e w'=>
   e=.returned (.tuple #[])∧∃d',PermIn 0 n d d'∧Up key 0 n d'∧St enc k w0 blk d' w'∧W.grownBy w' (some blk):=by
 have hle:=hst.le;have hst1:=hst.alloc hblk (.cells (dataV g lb sf sb) 244);have HST1:=hid hst1;have INS:=hid (fun a b dk wr (h:St enc k w0 blk dk wr) (hd:dk.size=n) (q1:a≤b) (q2:b≤n)=>insertion_any enc k hk key g lb sf sb w0 blk n hblk eg hless hswap a b dk wr h hd hsz q1 q2)
 have SYM:=hid (fun a m b (q1:a<m) (q2:m<b) (q3:b≤n)=>symMerge_any enc k hk key g lb sf sb w0 blk n hblk eg hless hswap hsz (b-a) a m b (Nat.le_refl _) q1 q2 q3)
 clear hst hst1 hswap hless;unfold Merges dataV at *
 go_enter Tryz.func192,Tryz.ntmps192
 go_wp2_with fail
 go_loopw [5,6] (fun vi vj wr=>∃(a:Nat) (dk:Array α),vi=.int .i64 a∧vj=.int .i64 (a+20:Nat)∧a≤n∧20∣a∧Front key 20 a dk∧PermIn 0 n d dk∧St enc k w0 blk dk wr∧(W.alloc (.cells #[.func (.func g) #[] lb,.func (.func sf) #[] sb] 244)).grownBy wr (some blk)) (fun vi _ _=>n+20-(intOf vi).toNat)
 case atStart=>exact ⟨0,d,rfl,rfl,Nat.zero_le _,⟨0,rfl⟩,Front.start key 20 (by omega) d,perm_refl _ _ _,HST1.out,World.grownBy.refl _ _⟩
 case round=>
  obtain ⟨a,dk,rfl,rfl,han,hda,hfr,hp,hst,hg⟩:=hrel;have hsk:dk.size=n:=hp.1.trans hs
  have c0:wr.cell? ⟨W.heap.size,0,none⟩=some (.func (.func g) #[] lb):=by
   rw [World.cell?_of_block (a:=⟨W.heap.size,0,none⟩) (hg.block W.heap.size (by simp) (by simp;omega))]
   simp
  have c1:wr.cell? ⟨W.heap.size,1,none⟩=some (.func (.func sf) #[] sb):=by
   rw [World.cell?_of_block (a:=⟨W.heap.size,1,none⟩) (hg.block W.heap.size (by simp) (by simp;omega))]
   simp
  have HF:=hid hfr;have HP:=hid hp;have HST:=hid hst;have HG:=hid hg;have HDA:=hid hda;clear hfr hp hst hg hda
  by_cases hlt:a+20≤n
  ·have IC:=hid (INS.out a (a+20) dk wr HST.out hsk (by omega) hlt)
   have e1:((a+20:Nat):Int)=(a:Int)+20:=by omega
   go_wp2_with fail
   refine IC.out.mono ?_;rintro rr w2 ⟨rfl,d2,f1,f2,f3,f4⟩;have F1:=hid (HF.out.step HDA.out f1 f2);have F2:=hid (perm_trans HP.out (perm_mono f1 (Nat.zero_le _) hlt (by omega)))
   have F3:=hid f3;have F4:=hid (grown_trans HG.out f4);clear f1 f2 f3 f4 IC c0 c1
   go_wp2_with fail
   refine ⟨⟨a+20,d2,rfl,by go_num,hlt,Nat.dvd_add HDA.out (Nat.dvd_refl _),F1.out,F2.out,F3.out,F4.out⟩,?_⟩
   simp [intOf];omega
  ·have IC:=hid (INS.out a n dk wr HST.out hsk han (Nat.le_refl _))
   go_wp2_with fail
   refine IC.out.mono ?_;rintro rr w2 ⟨rfl,d2,f1,f2,f3,f4⟩;have F1:=hid (HF.out.close HDA.out han (by omega) f1 f2)
   have F2:=hid (perm_trans HP.out (perm_mono f1 (Nat.zero_le _) (Nat.le_refl _) (by omega)))
   have F3:=hid f3;have F4:=hid (grown_trans HG.out f4);clear f1 f2 f3 f4 IC c0 c1 HF HP HST HG HDA han hlt hsk
   go_wp2_with fail
   go_loopw [4] (fun vb wr=>∃(bs:Nat) (dk:Array α),vb=.int .i64 bs∧0<bs∧bs≤2*n+20∧Blk key bs n dk∧PermIn 0 n d dk∧St enc k w0 blk dk wr∧(W.alloc (.cells #[.func (.func g) #[] lb,.func (.func sf) #[] sb] 244)).grownBy wr (some blk)) (fun vb _=>2*n+20-(intOf vb).toNat)
   case atStart=>exact ⟨20,d2,rfl,by omega,by omega,F1.out,F2.out,F3.out,F4.out⟩
   case round=>
    obtain ⟨bs,dk,rfl,hb0,hbn,hblk2,hp,hst,hg⟩:=hrel;clear F1 F2 F3 F4;have HB:=hid hblk2;have HP:=hid hp;have HST:=hid hst;have HG:=hid hg;clear hblk2 hp hst hg
    by_cases hlt:bs<n
    ·go_wp2_with fail
     go_loopw [5,6] (fun vi vj wr=>∃(a:Nat) (dj:Array α),vi=.int .i64 a∧vj=.int .i64 (a+2*bs:Nat)∧a≤n∧2*bs∣a∧Half key bs n a dj∧PermIn 0 n d dj∧St enc k w0 blk dj wr∧(W.alloc (.cells #[.func (.func g) #[] lb,.func (.func sf) #[] sb] 244)).grownBy wr (some blk)) (fun vi _ _=>n+1-(intOf vi).toNat)
     case atStart=>exact ⟨0,dk,rfl,by go_num,Nat.zero_le _,⟨0,rfl⟩,Half.start HB.out hb0,HP.out,HST.out,HG.out⟩
     case round=>
      obtain ⟨a,dj,rfl,rfl,han,hda,hhf,hp,hst,hg⟩:=hrel;clear HB HP HST HG;have hsk:dj.size=n:=hp.1.trans hs
      have c0:wr.cell? ⟨W.heap.size,0,none⟩=some (.func (.func g) #[] lb):=by
       rw [World.cell?_of_block (a:=⟨W.heap.size,0,none⟩) (hg.block W.heap.size (by simp) (by simp;omega))]
       simp
      have c1:wr.cell? ⟨W.heap.size,1,none⟩=some (.func (.func sf) #[] sb):=by
       rw [World.cell?_of_block (a:=⟨W.heap.size,1,none⟩) (hg.block W.heap.size (by simp) (by simp;omega))]
       simp
      have HF:=hid hhf;have HP:=hid hp;have HST:=hid hst;have HG:=hid hg;have HDA:=hid hda;clear hhf hp hst hg hda;obtain ⟨e,he⟩:∃e,a+2*bs=e:=⟨_,rfl⟩;rw [he]
      by_cases hle2:e≤n
      ·obtain ⟨u1,u2⟩:=HF.out.two HDA.out hb0 (by omega)
       rw [he,Nat.min_eq_left hle2] at u2;have SC:=hid (SYM.out a (a+bs) e (by omega) (by omega) hle2 dj wr HST.out hsk u1 u2)
       rw [show ((a+bs:Nat):Int)=(a:Int)+bs by omega] at SC
       have HE:=hid he;clear u1 u2 he
       go_wp2_with fail
       refine SC.out.mono ?_;rintro rr w3 ⟨rfl,d3,f1,f2,f3,f4⟩
       have F1:Hid (Half key bs n e d3):=by
        show Half key bs n e d3;rw [←HE.out] at f1 f2 ⊢;exact HF.out.step HDA.out f1 f2
       have F2:=hid (perm_trans HP.out (perm_mono f1 (Nat.zero_le _) hle2 (by omega)))
       have F3:=hid f3;have F4:=hid (grown_trans HG.out f4);clear f1 f2 f3 f4 SC c0 c1
       go_wp2_with fail
       have he:=HE.out;refine ⟨⟨e,d3,rfl,by go_num,hle2,by rw [←he];exact Nat.dvd_add HDA.out (Nat.dvd_refl _),F1.out,F2.out,F3.out,F4.out⟩,?_⟩
       simp [intOf];omega
      ·by_cases hmn:a+bs<n
       ·obtain ⟨u1,u2⟩:=HF.out.two HDA.out hb0 hmn;rw [he,Nat.min_eq_right (by omega)] at u2
        have SC:=hid (SYM.out a (a+bs) n (by omega) hmn (Nat.le_refl _) dj wr HST.out hsk u1 u2)
        rw [show ((a+bs:Nat):Int)=(a:Int)+bs by omega] at SC
        have HE:=hid he;have hmn2:(a:Int)+bs<n:=by omega
        clear u1 u2 he
        go_wp2_with fail
        refine SC.out.mono ?_;rintro rr w3 ⟨rfl,d3,f1,f2,f3,f4⟩;have F1:=hid (HF.out.close HDA.out han (by have:=HE.out;omega) f1 f2)
        have F2:=hid (perm_trans HP.out (perm_mono f1 (Nat.zero_le _) (Nat.le_refl _) (by omega)))
        have F3:=hid f3;have F4:=hid (grown_trans HG.out f4);clear f1 f2 f3 f4 SC c0 c1
        go_wp2_with fail
        refine ⟨⟨2*bs,d3,by go_num,by omega,by omega,F1.out,F2.out,F3.out,F4.out⟩,?_⟩
        simp [intOf];omega
       ·have F1:=hid (HF.out.close HDA.out han (by omega) (perm_refl _ _ _) (HF.out.rest HDA.out (by omega)))
        have hmn2:¬((a:Int)+bs<n):=by omega
        clear c0 c1
        go_wp2_with fail
        refine ⟨⟨2*bs,dj,by go_num,by omega,by omega,F1.out,HP.out,HST.out,HG.out⟩,?_⟩
        simp [intOf];omega
    ·have F1:Hid (Up key 0 n dk):=by
      show Up key 0 n dk
      by_cases h0:0<n
      ·have:=HB.out 0 ⟨0,rfl⟩ h0
       rwa [Nat.min_eq_right (by omega)] at this
      ·exact Up.one key 0 n dk (by omega)
     have F4:=hid (grown_trans (grown_alloc W _ _) HG.out)
     go_wp2_with fail
     go_end0;exact ⟨rfl,dk,HP.out,F1.out,HST.out,F4.out⟩
end Go.Proofs.YthbjllabgpaaaaaGreat.Srt
namespace Go.Proofs.YthbjllabgpaaaaaGreat.Huf
open Go.Lib (hid)
set_option maxHeartbeats 16000000
open Go.ChangeShapes Go.WideShapes Go.ChangeAt Go.RowKit Go.Sort
open Go.Proofs.YthbjllabgpaaaaaGreat.Srt
set_option linter.unusedVariables false
structure Pk where
 t:Tr
 g:Nat
 cap:Nat
instance:Inhabited Pk:=⟨⟨.leaf 0,0,0⟩⟩
def Pk.s (p:Pk):Value:=.slice (some ⟨p.g,0,none⟩) p.t.syms.length p.cap
def enc (f:Nat→Nat) (p:Pk):List Value:=[.int .i64 (p.t.wt f:Nat),p.s]
def key (f:Nat→Nat) (p:Pk):Nat:=p.t.wt f
theorem enc_length (f:Nat→Nat) (p:Pk):(enc f p).length=2:=rfl
theorem enc_one (f:Nat→Nat) (p:Pk):∀v∈enc f p,v.oneCell'=true:=by
 intro v hv;simp only [enc,List.mem_cons,List.not_mem_nil,or_false] at hv;rcases hv with rfl | rfl <;> rfl
def PksAt (f:Nat→Nat) (w:World) (b:Nat) (d:Array Pk):Prop:=b<w.heap.size∧HoldsK (enc f) 2 w b 0 d
theorem PksAt.cost {f:Nat→Nat} {w:World} {b:Nat} {d:Array Pk} (h:PksAt f w b d) (i:Nat) (hi:i<d.size) :
  w.cell? ⟨b,i*2,none⟩=some (.int .i64 (d[i]!.t.wt f:Nat))∧w.cell? ⟨b,i*2+1,none⟩=some d[i]!.s:=by
 have h0:=(h.2.cell (i:=i) (c:=0) hi (by decide)).1
 have h1:=(h.2.cell (i:=i) (c:=1) hi (by decide)).1
 rw [Nat.zero_add,Nat.add_zero] at h0;rw [Nat.zero_add] at h1;exact ⟨h0,h1⟩
theorem less_any (f:Nat→Nat) (b Bs n cap:Nat) (d:Array Pk) (W:World) (h:PksAt f W b d) (hd:d.size=n) (hs:W.cell? ⟨Bs,0,none⟩=some (.slice (some ⟨b,0,none⟩) n cap)) (i j:Nat) (hi:i<n) (hj:j<n) (hn:n≤1000000) :
  Calls Tryz.prog 187 #[.int .i64 i,.int .i64 j,.pointer (some ⟨Bs,0,none⟩)] W fun e w'=>e=.returned (.bool (decide (key f d[i]!<key f d[j]!)))∧∃q,w'=W.drewN q:=by
 have ci:=(h.cost i (by omega)).1
 have cj:=(h.cost j (by omega)).1
 have HD:Hid (key f d[i]! =d[i]!.t.wt f∧key f d[j]! =d[j]!.t.wt f):=⟨rfl,rfl⟩;rw [HD.out.1,HD.out.2];clear h hd HD;generalize d[i]!.t.wt f=x at *;generalize d[j]!.t.wt f=y at *
 go_enter Tryz.func187,Tryz.ntmps187
 go_wp2
 go_quiet (fail)
 go_wp2
 go_ret;exact ⟨rfl,nq,rfl⟩
noncomputable def infT:TypeInfo:=(Tryz.prog.info? 205).get (by kernel_rfl)
noncomputable def infE:TypeInfo:=(Tryz.prog.info? 209).get (by kernel_rfl)
theorem swK (n:Nat) (h2:2≤n):Lib.swapperK n infE 25=9:=by
 have a:infE.hasPointers=true:=by kernel_rfl
 have b:infE.bytes=32:=by kernel_rfl
 have c:(n==0)=false:=by simp;omega
 have d:(n==1)=false:=by simp;omega
 simp [Lib.swapperK,a,b,c,d]
set_option maxRecDepth 10000 in
theorem sliceStable_any (f:Nat→Nat) (b Bs n cap:Nat) (d:Array Pk) (w:World) (h:PksAt f w b d) (hd:d.size=n) (h2:2≤n) (hn:n≤1000000) (hs:w.cell? ⟨Bs,0,none⟩=some (.slice (some ⟨b,0,none⟩) n cap)) (hBs:Bs≠b) (hBl:Bs<w.heap.size) :
  Calls Tryz.prog 186 #[.iface 205 (.slice (some ⟨b,0,none⟩) n cap),.func (.func 187) #[] #[.pointer (some ⟨Bs,0,none⟩)]] w fun e w'=>
   e=.returned (.tuple #[])∧∃d',PermIn 0 n d d'∧Up (key f) 0 n d'∧PksAt f w' b d'∧w.grownBy w' (some b):=by
 have hk9:Tryz.prog.funcs.findIdx? (·.name == "internal/reflectlite" ++ ".Swapper$"++toString (Lib.swapperK n infE 25))=some 202:=by rw [swK n h2];kernel_rfl
 have hi:Tryz.prog.info? 205=some infT:=by kernel_rfl
 have hie:Tryz.prog.info? 209=some infE:=by kernel_rfl
 have hde:infT.desc=.slice 209:=by kernel_rfl
 have hke:∀W,(Extern.Rtype.kind 209).run Tryz.prog W=.ok 25 W:=fun _=>by kernel_rfl
 have hv:=Lib.run_valueOf_slice (P:=Tryz.prog) _ _ infT hi hde (some ⟨b,0,none⟩) n cap w;have hsw:=fun W=>Lib.run_swapper_slice (P:=Tryz.prog) _ _ infT infE hi hde hie 25 hke (some ⟨b,0,none⟩) n cap _ hk9 W
 have hl:=fun a W ha=>Lib.run_valueLen_slice (P:=Tryz.prog) _ _ infT hi hde (by kernel_rfl) a (some ⟨b,0,none⟩) n cap W ha
 rw [swK n h2,if_neg (by decide)] at hsw
 have hSW:SwapSwapsK Tryz.prog 202 #[.slice (some ⟨b,0,none⟩) n cap,typeHandle Tryz.prog 209] (enc f) 2 b 0 n:=
  swapSwapsK_of_literal false 202 (fun args W=>run_callFunc_extern Tryz.func202 (by kernel_rfl) (by kernel_rfl) (by kernel_rfl) (e:=Extern.ReflectliteSwapper.swap false) (by kernel_rfl) args W)
   209 infE hie (enc f) 2 (enc_length f) (by kernel_rfl) (fun _=>by kernel_rfl) (enc_one f) b 0 n cap
 obtain ⟨W2,hW2⟩:∃W2,(w.alloc (.cells #[.slice (some ⟨b,0,none⟩) n cap] 205)).alloc (.cells #[.pointer (some ⟨Tryz.prog.globals.size,205,none⟩),.pointer (some ⟨w.heap.size,0,none⟩),.int .u64 151] 239)=W2:=⟨_,rfl⟩;have hB2:Below w.heap.size w W2:=by rw [←hW2];exact ((Below.refl _ _).alloc (Nat.le_refl _) _).alloc (by simp) _
 have hg2:w.grownBy W2 (some b):=⟨hB2.os,hB2.tape,hB2.output,hB2.size,fun i hi _=>hB2.block i hi⟩
 have hst:St (enc f) 2 W2 b d W2:=⟨holdsK_block h.2 (hB2.block b h.1),World.grownBy.refl _ _⟩;have hb2:b<W2.heap.size:=Nat.lt_of_lt_of_le h.1 hB2.size
 have hless:LessAt Tryz.prog 187 #[.pointer (some ⟨Bs,0,none⟩)] (enc f) 2 (key f) b n W2:=by
  intro W dk hst hs2 i j hi hj;refine less_any f b Bs n cap dk W ⟨Nat.lt_of_lt_of_le hb2 hst.le,hst.holds⟩ hs2 ?_ i j hi hj hn;rw [World.cell?_of_block (a:=⟨Bs,0,none⟩) (hst.grown.block Bs (Nat.lt_of_lt_of_le hBl hB2.size) (by simp;exact hBs)),hB2.cell (p:=⟨Bs,0,none⟩) hBl]
  exact hs
 have hS:=stable_any (enc f) 2 (enc_length f) (key f) 187 #[.pointer (some ⟨Bs,0,none⟩)] 202 #[.slice (some ⟨b,0,none⟩) n cap,typeHandle Tryz.prog 209] W2 b n hb2
  (enters_of Tryz.func187 (by kernel_rfl) rfl) hless hSW d W2 hst hd hn
 have HG:=hid hg2;have HB:=hid h.1;clear hst hless hSW hk9 hi hie hde hke hb2 hB2 hg2 h hd hs;unfold dataV at hS;have HS:=hid hS;clear hS;subst hW2;have hgz:Tryz.prog.globals.size=0:=by kernel_rfl
 simp only [typeHandle,hgz] at hv hl hsw HS HG
 go_enter Tryz.func186,Tryz.ntmps186
 go_wp2_with fail
 rw [run_callFunc_extern Tryz.func190 (by kernel_rfl) (by kernel_rfl) (by kernel_rfl) (e:=fun args=>Extern.ReflectliteValue.unpack (args.getD 0 (.tuple #[]))) (by kernel_rfl),
  show Sem.run Tryz.prog ((fun args:Array Value=>Extern.ReflectliteValue.unpack (args.getD 0 (.tuple #[]))) #[.iface 205 (.slice (some ⟨b,0,none⟩) n cap)]) w=_ from hv]
 simp only [Result.andThen];rw [Oper.upon_value]
 go_wp2_with fail
 rw [run_callFunc_extern Tryz.func191 (by kernel_rfl) (by kernel_rfl) (by kernel_rfl) (e:=Extern.ReflectliteSwapper.swapper "internal/reflectlite" (Extern.ReflectliteValue.valueError "Swapper")) (by kernel_rfl),hsw]
 simp only [Result.andThen];rw [Oper.upon_value]
 go_wp2_with fail
 rw [run_callFunc_extern Tryz.func193 (by kernel_rfl) (by kernel_rfl) (by kernel_rfl) (e:=Extern.ReflectliteValue.method (Extern.ReflectliteValue.valueError "reflectlite.Value.Len" 0) Extern.ReflectliteValue.len) (by kernel_rfl),
  hl _ _ (by simp)]
 simp only [Result.andThen];rw [Oper.upon_value]
 go_wp2_with fail
 refine HS.out.mono ?_;rintro e w' ⟨rfl,d',hp,hu,hst,hg⟩;have H1:=hid hp;have H2:=hid hu;have H3:=hid hst.holds;have H4:=hid (Srt.grown_trans HG.out hg);clear hp hu hst hg HS HG hv hsw hl
 go_wp2_with fail
 go_end0;exact ⟨rfl,d',H1.out,H2.out,⟨Nat.lt_of_lt_of_le HB.out H4.out.size,H3.out⟩,H4.out⟩
end Go.Proofs.YthbjllabgpaaaaaGreat.Huf
