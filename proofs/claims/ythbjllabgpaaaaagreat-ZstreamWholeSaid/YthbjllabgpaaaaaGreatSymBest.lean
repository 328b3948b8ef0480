/-
  The best codes of what comes, and the fixed ones, have a code for all that comes.
-/
import Derived.Test.YthbjllabgpaaaaaGreatAllSymR
import Derived.Test.YthbjllabgpaaaaaGreatAllSym
import Derived.Test.YthbjllabgpaaaaaGreatHufAllB
namespace Go.Proofs.YthbjllabgpaaaaaGreat.Sym
set_option maxHeartbeats 1000000
open Go.ChangeShapes Go.WideShapes Go.ChangeAt Go.RowKit
open Go.Proofs.YthbjllabgpaaaaaGreat.Huf (IsInts fine allIn allIn_iff nats used used_all lengths_any taken_full often comeS tot gU cellsN)
open Go.Proofs.YthbjllabgpaaaaaGreat.Lz (Tok okT)
open Go.Proofs.YthbjllabgpaaaaaGreat.Bit (tb tbits tbits_append tbits_packed pack pad fre)
set_option linter.unusedVariables false
set_option maxRecDepth 100000
theorem range_getD (n:Nat) (f:Nat→Nat) (i:Nat) (h:i<n):((List.range n).map f).getD i 0=f i:=by
 rw [List.getD_eq_getElem?_getD,List.getElem?_map,List.getElem?_range h];rfl
theorem fine_ints {N:List Nat} (h1:N.length≤320) (h2:∀x∈N,x≤15) (h3:used N 15≤32768):fine (ints N)=true:=by
 unfold fine;rw [ints_length,nats_ints,decide_eq_true h1,decide_eq_true h3]
 have:allIn 15 (ints N)=true:=by
  rw [allIn_iff];intro x hx;obtain ⟨y,hy,rfl⟩:=List.mem_map.1 hx
  have:=h2 y hy
  omega
 rw [this];rfl
theorem best_any (g n:Nat) (f:Nat→Nat) (w:World) (hg:AtN w g n f) (hn:n≤320) (hf:∀s,f s≤1000000) :
  Calls Tryz.prog 145 #[.slice (some ⟨g,0,none⟩) n n,.int .i64 15] w fun r w'=>∃b N,r=.returned (.tuple #[.slice (some ⟨b,0,none⟩) n n,.int .i64 0])∧N.length=n∧IsInts w' (some ⟨b,0,none⟩) (ints N)∧cvB (ints N) f n=true∧Below w.heap.size w w':=by
 have hcl:(comeS ((List.range n).map f) n).length≤2^15:=by
  have h1:(comeS ((List.range n).map f) n).length≤n:=by
   unfold comeS;exact Nat.le_trans (List.length_filter_le _ _) (by rw [List.length_range];exact Nat.le_refl _)
  have:(2:Nat)^15=32768:=by decide
  omega
 refine (lengths_any (some ⟨g,0,none⟩) n n ((List.range n).map f) 15 w (by rw [List.length_map,List.length_range]) hg.isInts hn (fun x hx=>?_) (by decide) (by decide) hcl).mono ?_
 ·obtain ⟨s,_,rfl⟩:=List.mem_map.1 hx;exact Nat.le_trans (hf s) (by decide)
 ·rintro r w' ⟨b,P,rfl,hT,ho,hb⟩;obtain ⟨t1,t2,t3⟩:=taken_full _ n 15 P hT (by decide) (by decide) hcl
  refine ⟨b,(List.range n).map fun i=>often i P,rfl,by rw [List.length_map,List.length_range],?_,?_,hb⟩
  ·intro h0;rcases ho.2 with ⟨h1,h2⟩ | ⟨g',cap,cur,h1,_,h3,_⟩
   ·cases h1
   ·cases h1
    refine ⟨b,0,rfl,(Array.getElem?_eq_some_iff.1 h3).1,fun i hi=>?_⟩
    have hi2:i<n:=by rw [ints_length,List.length_map,List.length_range] at hi;exact hi
    rw [Nat.zero_add,ho.cellAt i (by omega),ints_get _ i (by rw [List.length_map,List.length_range];exact hi2),range_getD n _ i hi2]
    simp [cellsN,hi2]
  ·have h15:∀x∈(List.range n).map (fun i=>often i P),x≤15:=fun x hx=>by
    obtain ⟨s,_,rfl⟩:=List.mem_map.1 hx;exact t2 s
   have hU:used ((List.range n).map fun i=>often i P) 15≤32768:=by
    have e:used ((List.range n).map fun i=>often i P) 15=tot gU ((List.range n).map fun i=>often i P):=used_all _ h15
    rw [e,t3]
    split
    ·decide
    ·split <;> decide
   unfold cvB;rw [fine_ints (by rw [List.length_map,List.length_range];exact hn) h15 hU,Bool.true_and,covB_iff,nats_ints]
   intro s hs h0;rw [range_getD n _ s hs]
   have:=t1 s hs
   rw [range_getD n f s hs] at this;exact fun h=>h0 (this.1 h)
theorem fix_cov (l:List Tok):cvB (ints fxL) (litC l) 286=true∧cvB (ints fxD) (dstC l) 30=true:=by
 have f1:fine (ints fxL)=true:=by decide +kernel
 have f2:fine (ints fxD)=true:=by decide +kernel
 have c1:∀s:Fin 286,fxL.getD s 0≠0:=by decide +kernel
 have c2:∀s:Fin 30,fxD.getD s 0≠0:=by decide +kernel
 unfold cvB;rw [f1,f2,Bool.true_and,Bool.true_and,covB_iff,covB_iff,nats_ints,nats_ints];exact ⟨fun s hs _=>c1 ⟨s,hs⟩,fun s hs _=>c2 ⟨s,hs⟩⟩
end Go.Proofs.YthbjllabgpaaaaaGreat.Sym
