/-
  Texts in one: DefBest, DefFit.
-/
import Derived.Test.YthbjllabgpaaaaaGreatSymBest
import Derived.Test.YthbjllabgpaaaaaGreatAllDef
namespace Go.Proofs.YthbjllabgpaaaaaGreat.Def
set_option maxHeartbeats 1000000
open Go.ChangeShapes Go.WideShapes Go.ChangeAt Go.RowKit
open Go.Proofs.YthbjllabgpaaaaaGreat.Huf (IsInts cellsN lengths_any taken_full comeS often used used_all tot gU)
open Go.Proofs.YthbjllabgpaaaaaGreat.Sym
set_option linter.unusedVariables false
structure Fine (F N:List Nat) (most:Nat):Prop where
 len:N.length=F.length
 le:∀x∈N,x≤most
 room:used N 15≤32768
 some_:∀i,i<F.length→(N.getD i 0=0↔F.getD i 0=0)
theorem best_most (a:Option Addr) (n c most:Nat) (F:List Nat) (w:World) (hF:F.length=n) (h:IsInts w a (ints F)) (hn:n≤320) (h1:1≤most) (h2:most≤15) (hb:n≤2^most) (hf:∀x∈F,x≤1000000) :
  Calls Tryz.prog 145 #[.slice a n c,.int .i64 (most:Int)] w fun r w'=>∃b N,r=.returned (.tuple #[.slice (some ⟨b,0,none⟩) n n,.int .i64 0])∧Fine F N most∧IsInts w' (some ⟨b,0,none⟩) (ints N)∧Below w.heap.size w w'∧w.heap.size≤b∧∃P,Huf.Taken F n most P∧N=(List.range n).map fun i=>Huf.often i P:=by
 have hcl:(comeS F n).length≤2^most:=by
  have h1:(comeS F n).length≤n:=by
   unfold comeS;exact Nat.le_trans (List.length_filter_le _ _) (by rw [List.length_range];exact Nat.le_refl _)
  omega
 refine (lengths_any a n c F most w hF h hn (fun x hx=>Nat.le_trans (hf x hx) (by decide)) h1 h2 hcl).mono ?_
 rintro r w' ⟨b,P,rfl,hT,ho,hb⟩;obtain ⟨t1,t2,t3⟩:=taken_full _ n most P hT h1 h2 hcl;have hNl:((List.range n).map fun i=>often i P).length=n:=by rw [List.length_map,List.length_range]
 refine ⟨b,(List.range n).map fun i=>often i P,rfl,⟨by rw [hNl,hF],?_,?_,?_⟩,?_,hb,(ho.lt b rfl).1,P,hT,rfl⟩
 ·intro x hx;obtain ⟨s,_,rfl⟩:=List.mem_map.1 hx;exact t2 s
 ·have h15:∀x∈(List.range n).map (fun i=>often i P),x≤15:=fun x hx=>by
   obtain ⟨s,_,rfl⟩:=List.mem_map.1 hx;exact Nat.le_trans (t2 s) h2
  have e:used ((List.range n).map fun i=>often i P) 15=tot gU ((List.range n).map fun i=>often i P):=used_all _ h15
  rw [e,t3]
  split
  ·decide
  ·split <;> decide
 ·intro i hi;rw [hF] at hi;rw [range_getD n _ i hi];exact t1 i hi
 ·intro h0;rcases ho.2 with ⟨h1,h2⟩ | ⟨g',cap,cur,h1,_,h3,_⟩
  ·cases h1
  ·cases h1
   refine ⟨b,0,rfl,(Array.getElem?_eq_some_iff.1 h3).1,fun i hi=>?_⟩
   have hi2:i<n:=by rw [ints_length,hNl] at hi;exact hi
   rw [Nat.zero_add,ho.cellAt i (by omega),ints_get _ i (by rw [hNl];exact hi2),range_getD n _ i hi2]
   simp [cellsN,hi2]
end Go.Proofs.YthbjllabgpaaaaaGreat.Def
namespace Go.Proofs.YthbjllabgpaaaaaGreat.Def
set_option maxHeartbeats 1000000
open Go.Proofs.YthbjllabgpaaaaaGreat.Huf (used fine nats)
open Go.Proofs.YthbjllabgpaaaaaGreat.Lz (Tok okT)
open Go.Proofs.YthbjllabgpaaaaaGreat.Sym
set_option linter.unusedVariables false
theorem fit_of {l:List Tok} {N M:List Nat} (hv:l.all okT=true) (n1:N.length≤320) (n2:∀x∈N,x≤15) (n3:used N 15≤32768) (m1:M.length≤320) (m2:∀x∈M,x≤15) (m3:used M 15≤32768)
  (hN:∀s,s<286→litC l s≠0→N.getD s 0≠0) (hM:∀s,s<30→dstC l s≠0→M.getD s 0≠0):Fit N M l:=by
 refine ⟨hv,?_,?_⟩
 ·unfold cvB;rw [Def.fine_ints n1 n2 n3,Bool.true_and,covB_iff,ints_nats];exact hN
 ·unfold cvB;rw [Def.fine_ints m1 m2 m3,Bool.true_and,covB_iff,ints_nats];exact hM
theorem fix_fit {l:List Tok} (hv:l.all okT=true):Fit fxL fxD l:=⟨hv,(fix_cov l).1,(fix_cov l).2⟩
end Go.Proofs.YthbjllabgpaaaaaGreat.Def
