/-
  How short a run's tokens are by the fixed codes.
-/
import Derived.Test.YthbjllabgpaaaaaGreatDefOut
import Derived.Test.YthbjllabgpaaaaaGreatAllPack
namespace Go.Proofs.YthbjllabgpaaaaaGreat.Def
open Go.Proofs.YthbjllabgpaaaaaGreat.Bit (bitsOf bitsOf_length codeBits codeBits_length cnt cnt_nat cnt_le)
open Go.Proofs.YthbjllabgpaaaaaGreat.Lz (Tok okT okT_byte okT_piece Chain Good Best Full Nearest byteT alikeL alikeL_le alikeL_at_least restL restL_length restL_getD drop_getD beg beg_eq tailL)
open Go.Proofs.YthbjllabgpaaaaaGreat.Sym
set_option linter.unusedVariables false
set_option maxRecDepth 100000
theorem run_ones {c:UInt8} {n p:Nat} {l:List Tok} (h:Chain (List.replicate n c) (fun p t=>Best (List.replicate n c) p t) 0 l p):∀t∈l,t.L=0∨t.D=1:=by
 induction h with
 | nil=>intro t ht;cases ht
 | @snoc l p t h1 h2 h3 h4 ih=>
  intro u hu;rcases List.mem_append.1 hu with hu | hu
  ·exact ih u hu
  ·obtain rfl:=List.mem_singleton.1 hu;have hlen:(List.replicate n c).length=n:=by simp
   rw [hlen] at h2;rcases h3 with rfl | ⟨f,hf,hd,ha,rfl⟩
   ·left;rfl
   ·right
    have hle:=alikeL_le ((List.replicate n c).drop f) (restL (List.replicate n c) p);have hr:=hle.2;rw [restL_length,hlen] at hr;have hgd:∀i,i<n→(List.replicate n c).getD i 0=c:=fun i hi=>by simp [List.getD_eq_getElem?_getD,hi]
    have h8:min 258 (n-p)≤alikeL ((List.replicate n c).drop (p-1)) (restL (List.replicate n c) p):=by
     refine alikeL_at_least _ _ _ (by simp;omega) (by rw [restL_length,hlen];omega) fun i hi=>?_
     rw [drop_getD,restL_getD _ _ _ (by rw [restL_length,hlen];omega),hgd _ (by omega),hgd _ (by omega)]
    have hb:=h4.2 (p-1) (by omega) (by rw [hlen];omega) (beg_eq fun i hi=>by rw [hgd _ (by omega),hgd _ (by omega)])
    show ((p-f:Nat):Int)=1;rcases Nat.lt_or_ge 1 (p-f) with h9 | h9
    ·have hb2:((alikeL ((List.replicate n c).drop (p-1)) (restL (List.replicate n c) p):Nat):Int)<((alikeL ((List.replicate n c).drop f) (restL (List.replicate n c) p):Nat):Int):=hb (by show ((p-(p-1):Nat):Int)<((p-f:Nat):Int);omega)
     omega
    ·omega
theorem fx_code (s:Nat):(cd fxL s).length≤9∧(256≤s→(cd fxL s).length≤8)∧(cd fxL 256).length=7:=by
 have e:∀s,(cd fxL s).length=cnt ((fxL.getD s 0:Nat):Int):=fun s=>by unfold cd;rw [codeBits_length]
 have g:∀s,fxL.getD s 0=if s<288 then fxF s else 0:=fun s=>by
  unfold fxL
  by_cases h:s<288
  ·rw [if_pos h];simp [List.getD_eq_getElem?_getD,h]
  ·rw [if_neg h];simp [List.getD_eq_getElem?_getD,h]
 have f9:fxF s≤9∧(256≤s→fxF s≤8):=by unfold fxF;(repeat' split) <;> omega
 rw [e,g];refine ⟨?_,fun h=>?_,?_⟩
 ·split
  ·rw [cnt_nat _ (by omega)];exact f9.1
  ·decide
 ·split
  ·rw [cnt_nat _ (by omega)];exact f9.2 h
  ·decide
 ·rw [e,g];decide
theorem fd_code (s:Nat):(cd fxD s).length≤5:=by
 have e:(cd fxD s).length=cnt ((fxD.getD s 0:Nat):Int):=by unfold cd;rw [codeBits_length]
 have g:fxD.getD s 0≤5:=by
  rcases Nat.lt_or_ge s 30 with h | h
  ·exact (by decide:∀s:Fin 30,fxD.getD s.1 0≤5) ⟨s,h⟩
  ·rw [List.getD_eq_getElem?_getD,List.getElem?_eq_none (by unfold fxD;simp;omega)];decide
 rw [e,cnt_nat _ (by omega)];exact g
theorem tok_short {t:Tok} (h:t.L=0∨t.D=1):(tokW fxL fxD t).length≤18:=by
 unfold tokW
 by_cases h0:t.L=0
 ·rw [if_pos h0];have:=(fx_code t.B.toNat).1;omega
 ·rw [if_neg h0];rcases h with h | h
  ·exact absurd h h0
  have h1:=(fx_code (257+li t.L.toNat)).2.1 (by omega)
  have h2:=LX_le (li t.L.toNat);have h3:=fd_code (di t.D.toNat);have h4:DX (di t.D.toNat)=0:=by rw [h];decide
  simp only [List.length_append,bitsOf_length];omega
theorem fix_short {l:List Tok} (h:∀t∈l,t.L=0∨t.D=1):(wrBits fxL fxD l).length≤18*l.length+7:=by
 unfold wrBits;rw [List.length_append,(fx_code 0).2.2]
 have:(toksW fxL fxD l).length≤18*l.length:=by
  induction l with
  | nil=>simp [toksW]
  | cons t l ih=>
   have ew:toksW fxL fxD (t::l)=tokW fxL fxD t++toksW fxL fxD l:=by simp [toksW]
   rw [ew,List.length_append,List.length_cons];have h1:=tok_short (h t (List.mem_cons_self));have h2:=ih fun u hu=>h u (List.mem_cons_of_mem _ hu)
   omega
 omega
theorem chain_mono {T:List UInt8} {P Q:Nat→Tok→Prop} {s p:Nat} {l:List Tok} (hPQ:∀p t,P p t→Q p t) (h:Chain T P s l p):Chain T Q s l p:=by
 induction h with
 | nil=>exact .nil
 | snoc h1 h2 h3 h4 ih=>exact .snoc ih h2 h3 (hPQ _ _ h4)
theorem run_short {c:UInt8} {n:Nat} {l:List Tok} (h:Chain (List.replicate n c) (fun p t=>Best (List.replicate n c) p t) 0 l n):(wrBits fxL fxD l).length≤79+18*(n/258):=by
 have h1:=fix_short (run_ones h);have h2:=(chain_mono (Q:=fun p t=>Full (List.replicate n c) p t) (fun p t h=>h.1) h).runs
 omega
end Go.Proofs.YthbjllabgpaaaaaGreat.Def
