/-
  Contracts of deflate's Whole and Segment.
-/
import Derived.Test.YthbjllabgpaaaaaGreatDflPut
namespace Go.Proofs.YthbjllabgpaaaaaGreat.Dfl
open Go.Lib (hid)
set_option maxHeartbeats 4000000
open Go.ChangeShapes Go.WideShapes Go.ChangeAt Go.RowKit
open Go.Proofs.YthbjllabgpaaaaaGreat.Bit (WrAt But Near bitsOf bitsOf_length tb pack pad fre wstring_any tbits_packed)
open Go.Proofs.YthbjllabgpaaaaaGreat.Def
open Go.Proofs.YthbjllabgpaaaaaGreat.Sym
set_option linter.unusedVariables false
set_option maxRecDepth 100000
theorem tb_pack (L:List Bool):tb ⟨(pack L).toArray⟩=L++List.replicate (fre L) false:=by
 unfold tb;exact tbits_packed L
theorem has_here (L:List Bool):Has (tb ⟨(pack L).toArray⟩) 0 L:=has_pack [] L
theorem whole_out {win s:ByteArray} {l1:List Bool} (h:PutB win s true [] l1):wholeOut win s ⟨(pack l1).toArray⟩:=by
 obtain ⟨⟨K,hB⟩,h2,h3,_⟩:=h;have hz:=pack_size l1;rw [stOne_len,List.length_nil,size_list] at h2;refine ⟨⟨l1.length,?_,hz.symm⟩,by rw [hz];omega,fun hw c n hs=>?_⟩
 ·have:=Wh.last (T:=tb ⟨(pack l1).toArray⟩) (win:=win.data.toList) 0 [] s.data.toList K l1.length (by rw [List.append_nil];exact hB _ (has_here l1))
  rwa [List.nil_append] at this
 ·have:=h3 (List.eq_nil_of_length_eq_zero (by rw [size_list];exact hw)) c n hs
  rw [List.length_nil] at this;rw [hz];omega
theorem seg_bits (l:List Bool):(stOne false l []).length%8=0∧∃r,stOne false l []=l++r:=by
 refine ⟨by rw [stOne_len,List.length_nil];omega,?_⟩
 unfold stOne pad;exact ⟨[false,false,false]++(List.replicate (fre (l++[false,false,false])) false++plB []),by simp only [List.append_assoc]⟩
theorem seg_end (win:List UInt8) (l:List Bool) (out:List UInt8):Sg (tb ⟨(pack (stOne false l [])).toArray⟩) win l.length out false out:=by
 have hb:=blk_stored (T:=tb ⟨(pack (stOne false l [])).toArray⟩) (l:=l) (s:=[]) (last:=false) (win++out) (by simp) (has_here _)
 have e:tb ⟨(pack (stOne false l [])).toArray⟩=stOne false l []:=by
  rw [tb_pack,show fre (stOne false l [])=0 from by unfold fre;have:=(seg_bits l).1;omega]
  simp
 refine .more l.length out [] out false 0 (stOne false l []).length hb ?_;rw [List.append_nil]
 have:=Sg.done (T:=tb ⟨(pack (stOne false l [])).toArray⟩) (win:=win) out
 rw [e] at this ⊢;exact this
theorem seg_none (win s:ByteArray) (hs:s.size=0):segOut win s ⟨(pack (stOne false [] [])).toArray⟩:=by
 have hz:=pack_size (stOne false [] []);rw [stOne_len,List.length_nil,List.length_nil] at hz;have e:s.data.toList=[]:=List.eq_nil_of_length_eq_zero (by rw [size_list];exact hs)
 refine ⟨?_,by rw [hz];omega,fun _ _ _ _=>by rw [hz];omega⟩
 rw [e];exact seg_end win.data.toList [] []
theorem seg_some {win s:ByteArray} {l1:List Bool} (h:PutB win s false [] l1) (hs:s.size≠0):segOut win s ⟨(pack (stOne false l1 [])).toArray⟩:=by
 obtain ⟨⟨K,hB⟩,h2,h3,_⟩:=h;have hz:=pack_size (stOne false l1 []);rw [stOne_len,List.length_nil] at hz;rw [stOne_len,List.length_nil,size_list] at h2;have hne:s.data.toList≠[]:=fun e=>hs (by rw [←size_list,e];rfl)
 refine ⟨?_,by rw [hz];omega,fun hw c n hn=>?_⟩
 ·obtain ⟨_,r,hr⟩:=seg_bits l1;have hh:=has_here (stOne false l1 []);have hl:Has (tb ⟨(pack (stOne false l1 [])).toArray⟩) 0 l1:=by rw [hr] at hh ⊢;exact hh.left
  refine .more 0 [] s.data.toList _ false K l1.length (by rw [List.append_nil];exact hB _ hl) ?_
  rw [List.nil_append,decide_eq_false hne,Bool.and_false];exact seg_end win.data.toList l1 s.data.toList
 ·have:=h3 (List.eq_nil_of_length_eq_zero (by rw [size_list];exact hw)) c n hn
  rw [List.length_nil] at this;rw [hz];omega
theorem whole_any (win s:ByteArray) (w:World) (ws:win.size≤100000) (hs:s.size≤5000) :
  Calls Tryz.prog 27 #[.string win,.string s] w fun r w'=>∃t,r=.returned (.string t)∧wholeOut win s t∧Below w.heap.size w w':=by
 have CP:=hid (fun b v W (h:WrAt W b v [])=>put_any b v win s true [] W h (by simp) ws hs)
 clear ws hs
 go_enter Tryz.func27,Tryz.ntmps27
 go_wp2_with fail
 have hwr:=wr_new w;have bX:Below w.heap.size w (w.alloc (.cells #[.slice none 0 0,.int .i64 0] 85)):=(Below.refl _ _).alloc (Nat.le_refl _) _;generalize (w.alloc (.cells #[.slice none 0 0,.int .i64 0] 85))=w2 at *;have HB2:=hid bX;clear bX;obtain ⟨b,hb⟩:∃b,w.heap.size=b:=⟨_,rfl⟩;have HBW:=hid hb;rw [hb] at hwr HB2 ⊢;refine (CP.out b (.slice none 0 0) w2 hwr).mono ?_;rintro r w3 ⟨rfl,v3,l1,h3,hp⟩;have HB3:Hid (Below b w w3):=hid (Sym.below_but HB2.out (by omega) h3.but (by omega) (fun i h=>by cases h))
 have HW3:=hid (And.intro h3.at_ hp);clear h3 hp hwr HB2 CP
 go_wp2_with fail
 refine (wstring_any b v3 l1 w3 HW3.out.1).mono ?_;rintro r w4 ⟨rfl,rfl⟩
 go_wp2_with fail
 go_ret;rw [HBW.out];exact ⟨_,rfl,whole_out HW3.out.2,HB3.out⟩
def SegD (win s t:ByteArray):Prop:=(s.size=0∧t=⟨(pack (stOne false [] [])).toArray⟩)∨(s.size≠0∧∃l1,ShD win.data.toList s.data.toList false [] l1∧t=⟨(pack (stOne false l1 [])).toArray⟩)
theorem SegD.det {win s t u:ByteArray} (h:SegD win s t) (k:SegD win s u) (hw:win.size=0):t=u:=by
 have hwl:win.data.toList=[]:=List.eq_nil_of_length_eq_zero (by rw [size_list];exact hw)
 rcases h with ⟨h1,rfl⟩ | ⟨h1,l,h2,rfl⟩
 ·rcases k with ⟨_,rfl⟩ | ⟨k1,_⟩
  ·rfl
  ·exact absurd h1 k1
 ·rcases k with ⟨k1,_⟩ | ⟨_,m,k2,rfl⟩
  ·exact absurd k1 h1
  ·rw [h2.det k2 hwl]
theorem segment_new (win s:ByteArray) (w:World) (ws:win.size≤100000) (hs:s.size≤5000) :
  Calls Tryz.prog 23 #[.string win,.string s] w fun r w'=>∃t,r=.returned (.string t)∧segOut win s t∧SegD win s t∧Below w.heap.size w w':=by
 have CP:=hid (fun b v W (h:WrAt W b v [])=>put_any b v win s false [] W h (by simp) ws hs)
 have CS:=hid (fun b v l W (h:WrAt W b v l) (hl:l.length≤1000000)=>stored_any b v l ⟨#[]⟩ false W h hl (by decide))
 have HLEN:Hid (∀l1,PutB win s false [] l1→l1.length≤1000000):=hid fun l1 h=>by
  have:=h.2.1
  rw [stOne_len,List.length_nil,size_list] at this;omega
 have e0:∀l,stB false l (⟨#[]⟩:ByteArray).data.toList=stOne false l []:=fun l=>stB_last false l [] (by simp)
 have HE:=hid e0;clear ws hs e0
 by_cases hz:s.size=0
 ·have ht:(!s.toList.isEmpty)=false:=by rw [Go.ByteArray.toList_eq,List.eq_nil_of_length_eq_zero (show s.data.toList.length=0 by rw [size_list];exact hz)];rfl
  have HZ:=hid hz;clear hz CP HLEN
  go_enter Tryz.func23,Tryz.ntmps23
  go_wp2_with fail
  have hwr:=wr_new w;have bX:Below w.heap.size w (w.alloc (.cells #[.slice none 0 0,.int .i64 0] 85)):=(Below.refl _ _).alloc (Nat.le_refl _) _;generalize (w.alloc (.cells #[.slice none 0 0,.int .i64 0] 85))=w2 at *;have HB2:=hid bX;clear bX;obtain ⟨b,hb⟩:∃b,w.heap.size=b:=⟨_,rfl⟩;have HBW:=hid hb;rw [hb] at hwr HB2 ⊢;refine (CS.out b (.slice none 0 0) [] w2 hwr (by simp)).mono ?_
  rintro r w3 ⟨rfl,v3,h3⟩;rw [HE.out] at h3;have HB3:Hid (Below b w w3):=hid (Sym.below_but HB2.out (by omega) h3.but (by omega) (fun i h=>by cases h))
  have HW3:=hid h3.at_;clear h3 hwr HB2 CS HE
  go_wp2_with fail
  refine (wstring_any b v3 _ w3 HW3.out).mono ?_;rintro r w4 ⟨rfl,rfl⟩
  go_wp2_with fail
  go_ret;rw [HBW.out];exact ⟨_,rfl,seg_none win s HZ.out,.inl ⟨HZ.out,rfl⟩,HB3.out⟩
 ·have ht:(!s.toList.isEmpty)=true:=by
   rw [Go.ByteArray.toList_eq]
   cases e:s.data.toList with
   | nil=>exact absurd (by rw [←size_list,e];rfl) hz
   | cons a r=>rfl
  have HZ:=hid hz;clear hz
  go_enter Tryz.func23,Tryz.ntmps23
  go_wp2_with fail
  have hwr:=wr_new w;have bX:Below w.heap.size w (w.alloc (.cells #[.slice none 0 0,.int .i64 0] 85)):=(Below.refl _ _).alloc (Nat.le_refl _) _;generalize (w.alloc (.cells #[.slice none 0 0,.int .i64 0] 85))=w2 at *;have HB2:=hid bX;clear bX;obtain ⟨b,hb⟩:∃b,w.heap.size=b:=⟨_,rfl⟩;have HBW:=hid hb;rw [hb] at hwr HB2 ⊢;refine (CP.out b (.slice none 0 0) w2 hwr).mono ?_;rintro r w3 ⟨rfl,v3,l1,h3,hp⟩;have HB3:Hid (Below b w w3):=hid (Sym.below_but HB2.out (by omega) h3.but (by omega) (fun i h=>by cases h))
  have HW3:=hid (And.intro h3 hp)
  have HN3:Hid (∀k,v3.ownBlock=some k→b≤k):=hid fun k hk=>by
   rcases h3.near k hk with h | h
   ·cases h
   ·have:=HB2.out.size;omega
  clear h3 hp hwr CP
  go_wp2_with fail
  refine (CS.out b v3 l1 w3 HW3.out.1.at_ (HLEN.out l1 HW3.out.2)).mono ?_;rintro r w4 ⟨rfl,v4,h4⟩;rw [HE.out] at h4;have HB4:Hid (Below b w w4):=hid (Sym.below_but HB3.out (by omega) h4.but (by omega) HN3.out)
  have HW4:=hid h4.at_;have HP4:=hid HW3.out.2;clear h4 HB2 CS HE HB3 HW3 HN3 HLEN
  go_wp2_with fail
  refine (wstring_any b v4 _ w4 HW4.out).mono ?_;rintro r w5 ⟨rfl,rfl⟩
  go_wp2_with fail
  go_ret;rw [HBW.out];exact ⟨_,rfl,seg_some HP4.out HZ.out,.inr ⟨HZ.out,_,HP4.out.2.2.2,rfl⟩,HB4.out⟩
end Go.Proofs.YthbjllabgpaaaaaGreat.Dfl
