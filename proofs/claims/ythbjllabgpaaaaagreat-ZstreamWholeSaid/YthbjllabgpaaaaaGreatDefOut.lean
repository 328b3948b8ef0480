/-
  What deflate's calls are to leave, in plain words, and what a reader finds there.
-/
import Derived.Test.YthbjllabgpaaaaaGreatAllDef
import Derived.Test.YthbjllabgpaaaaaGreatDefWhole
import Derived.Test.YthbjllabgpaaaaaGreatAllSym
namespace Go.Proofs.YthbjllabgpaaaaaGreat.Def
open Go.Proofs.YthbjllabgpaaaaaGreat.Huf (allIn allIn_iff nats nats_length used)
open Go.Proofs.YthbjllabgpaaaaaGreat.Bit (tb tb_length tbits tbits_append pack pad fre tbits_packed bitsOf bitsOf_length)
open Go.Proofs.YthbjllabgpaaaaaGreat.Lz (Tok okT expL expE)
open Go.Proofs.YthbjllabgpaaaaaGreat.Sym
set_option linter.unusedVariables false
set_option maxRecDepth 100000
def oddH (L M:List Int):Bool:=(((decide (L.length<257)||decide (286<L.length))||(decide (M.length<1)||decide (30<M.length)))||!allIn 15 L)||!allIn 15 M
def wholeOut (win s t:ByteArray):Prop:=
 (∃q,Wh (tb t) win.data.toList 0 [] s.data.toList q∧(q+7)/8=t.size)∧t.size≤s.size+s.size/1000+20∧(win.size=0→∀c n,s.data.toList=List.replicate n c→t.size≤20+n/100)
def segOut (win s t:ByteArray):Prop:=
 Sg (tb t) win.data.toList 0 [] false s.data.toList∧t.size≤s.size+s.size/1000+20∧(win.size=0→∀c n,s.data.toList=List.replicate n c→t.size≤20+n/100)
theorem has_pack (A l:List Bool):Has (tb ⟨(pack (A++l)).toArray⟩) A.length l:=by
 have e:tb ⟨(pack (A++l)).toArray⟩=(A++l)++List.replicate (fre (A++l)) false:=by
  unfold tb;exact tbits_packed (A++l)
 rw [e,List.append_assoc]
 have h:Has (A++(l++List.replicate (fre (A++l)) false)) 0 (A++l):=by
  rw [←List.append_assoc];exact Has.whole _ _
 have:=h.right
 rwa [Nat.zero_add] at this
theorem pack_size (l:List Bool):(⟨(pack l).toArray⟩:ByteArray).size=(l.length+7)/8:=by
 show (pack l).toArray.size=_;simp [pack]
theorem blk_stored {T:List Bool} {l:List Bool} {s:List UInt8} {last:Bool} (win:List UInt8) (hs:s.length≤65535) (h:Has T 0 (stOne last l s)):Blk T win l.length last 0 s (stOne last l s).length:=by
 have h':Has T 0 ((l++[last,false,false]++List.replicate (fre (l++[last,false,false])) false)++plB s):=h
 have e1:(l++[last,false,false]++List.replicate (fre (l++[last,false,false])) false).length=8*((l.length+10)/8):=by
  simp only [List.length_append,List.length_replicate,fre,List.length_cons,List.length_nil];omega
 have e2:(stOne last l s).length=8*((l.length+10)/8)+(plB s).length:=by
  unfold stOne pad;rw [List.length_append,e1]
 rw [e2];have h1:=h'.right;rw [e1,Nat.zero_add] at h1;have h2:=h'.left;rw [List.append_assoc] at h2;have h3:=h2.right.left;rw [Nat.zero_add] at h3;exact .plain s _ hs rfl h3 h1
theorem has_wide {T l:List Bool} {p:Nat} (h:Has T p l) (A Z:List Bool):Has (A++(T++Z)) (A.length+p) l:=by
 obtain ⟨h1,h2⟩:=h;refine ⟨by simp only [List.length_append];omega,?_⟩
 rw [←List.drop_drop,List.drop_left,List.drop_append_of_le_length (by omega),List.take_append_of_le_length (by rw [List.length_drop];omega),h2]
theorem Coded.wide {T:List Bool} {p q K:Nat} {last:Bool} {l:List Tok} (h:Coded T p last K l q) (A Z:List Bool):Coded (A++(T++Z)) (A.length+p) last K l (A.length+q):=by
 cases h with
 | fixed _ hF hh=>
  have:=Coded.fixed (last:=last) l hF (has_wide hh A Z)
  rw [show A.length+(p+3+(wrBits fxL fxD l).length)=A.length+p+3+(wrBits fxL fxD l).length by omega]
  exact this
 | own N M k O Y _ hH hF hh=>
  have:=Coded.own (last:=last) N M k O Y l hH hF (has_wide hh A Z)
  rw [show A.length+(p+3+(hdrB N M k O Y).length+(wrBits N M l).length)=A.length+p+3+(hdrB N M k O Y).length+(wrBits N M l).length by omega]
  exact this
theorem Blk.wide {T:List Bool} {win s:List UInt8} {p q K:Nat} {last:Bool} (h:Blk T win p last K s q) (A Z:List Bool) (h8:A.length%8=0):Blk (A++(T++Z)) win (A.length+p) last K s (A.length+q):=by
 cases h with
 | plain _ f h1 h2 h3 h4=>
  have h5:=has_wide h4 A Z;have e:A.length+8*f=8*(A.length/8+f):=by omega
  rw [e] at h5
  have:=Blk.plain (win:=win) (last:=last) s (A.length/8+f) h1 (by omega) (has_wide h3 A Z) h5
  rw [show A.length+(8*f+(plB s).length)=8*(A.length/8+f)+(plB s).length by omega]
  exact this
 | code _ l _ hc he=>exact .code K l _ (hc.wide A Z) he
theorem Sg.moved {Y:List Bool} {win mid out tot:List UInt8} {p:Nat} {e:Bool} (h:Sg Y (win++mid) p out e tot) (X:List Bool) (h8:X.length%8=0):∀e',(e=true→e'=true)→Sg (X++Y) win (X.length+p) (mid++out) e' (mid++tot):=by
 induction h with
 | done out=>
  intro e' he;rw [he rfl,←List.length_append];exact .done _
 | more p out s tot e K q hb _ ih=>
  intro e' _;have hb':=hb.wide X [] h8;rw [List.append_nil] at hb';refine .more _ _ s _ _ K (X.length+q) ?_ ?_
  ·rw [←List.append_assoc];exact hb'
  ·rw [List.append_assoc];exact ih _ fun h=>h
theorem Sg.then {X Y:List Bool} {win out mid tot:List UInt8} {p:Nat} {e:Bool} (h:Sg X win p out e mid) (h2:Sg (X++Y) win X.length mid true tot):Sg (X++Y) win p out e tot:=by
 induction h with
 | done out=>exact h2
 | more p out s tot' e K q hb _ ih=>
  have hb':=hb.wide [] Y rfl;rw [List.nil_append,List.length_nil,Nat.zero_add,Nat.zero_add] at hb';exact .more _ _ s _ _ K q hb' (ih h2)
theorem Sg.glue {X Y:List Bool} {win a b:List UInt8} (h8:X.length%8=0) (h:Sg X win 0 [] false a) (k:Sg Y (win++a) 0 [] false b):Sg (X++Y) win 0 [] false (a++b):=by
 have:=k.moved X h8 true (fun _=>rfl)
 rw [List.append_nil,Nat.add_zero] at this;exact h.then this
theorem tb_append (x y:ByteArray):tb (x++y)=tb x++tb y:=by
 unfold tb;rw [ByteArray.data_append,Array.toList_append,tbits_append]
end Go.Proofs.YthbjllabgpaaaaaGreat.Def
