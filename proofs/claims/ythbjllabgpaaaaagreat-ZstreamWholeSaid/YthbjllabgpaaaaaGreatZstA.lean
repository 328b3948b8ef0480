/-
  Texts in one: ZstSide, ZstPack, ZstFrame, ZstWorks.
-/
import Derived.Test.YthbjllabgpaaaaaGreatZstClone
import Derived.Test.YthbjllabgpaaaaaGreatOctRefA
import Derived.Test.YthbjllabgpaaaaaGreatInfWhole
import Derived.Test.YthbjllabgpaaaaaGreatDflWhole
import Derived.Test.YthbjllabgpaaaaaGreatAllAdl
import Derived.Test.YthbjllabgpaaaaaGreatDefWhole
import Derived.Test.YthbjllabgpaaaaaGreatDefOut
namespace Go.Proofs.YthbjllabgpaaaaaGreat.Zst
open Go.Lib (hid)
set_option maxHeartbeats 8000000
open Go.ChangeShapes Go.WideShapes Go.ChangeAt Go.RowKit
open Go.Proofs.YthbjllabgpaaaaaGreat.Lz (tail_any tailB tailB_small)
open Go.Proofs.YthbjllabgpaaaaaGreat.Bit (tb tb_length)
open Go.Proofs.YthbjllabgpaaaaaGreat.Def
set_option linter.unusedVariables false
set_option maxRecDepth 100000
def SdAt (w:World) (b:Nat) (T:TypeId) (bg:Bool) (win:ByteArray) (xs:List Value):Prop:=w.heap[b]?=some (.cells (Value.bool bg::Value.string win::xs).toArray T (0,0))
theorem SdAt.lt {w:World} {b:Nat} {T:TypeId} {bg:Bool} {win:ByteArray} {xs:List Value} (h:SdAt w b T bg win xs):b<w.heap.size:=(Array.getElem?_eq_some_iff.1 h).1
theorem SdAt.cells {w:World} {b:Nat} {T:TypeId} {bg:Bool} {win:ByteArray} {xs:List Value} (h:SdAt w b T bg win xs):w.cell? ⟨b,0,none⟩=some (.bool bg)∧w.cell? ⟨b,1,none⟩=some (.string win)∧∀j,w.frozen? ⟨b,j,none⟩=false:=by
 refine ⟨?_,?_,fun j=>frozen_of_row w b j _ _ h⟩
 ·rw [cell_of_row w b 0 _ _ _ h];rfl
 ·rw [cell_of_row w b 1 _ _ _ h];rfl
theorem SdAt.set0 {w:World} {b:Nat} {T:TypeId} {bg:Bool} {win:ByteArray} {xs:List Value} (h:SdAt w b T bg win xs) (c:Bool):SdAt (w.setCell ⟨b,0,none⟩ (.bool c)) b T c win xs:=by
 unfold SdAt at *;rw [heap_setCell_same w b 0 _ _ _ h]
 simp
theorem SdAt.set1 {w:World} {b:Nat} {T:TypeId} {bg:Bool} {win:ByteArray} {xs:List Value} (h:SdAt w b T bg win xs) (s:ByteArray):SdAt (w.setCell ⟨b,1,none⟩ (.string s)) b T bg s xs:=by
 unfold SdAt at *;rw [heap_setCell_same w b 1 _ _ _ h]
 simp
theorem SdAt.below {w w':World} {b:Nat} {T:TypeId} {bg:Bool} {win:ByteArray} {xs:List Value} (h:SdAt w b T bg win xs) (k:Below w.heap.size w w'):SdAt w' b T bg win xs:=(k.block b h.lt).trans h
theorem first_any (b:Nat) (T:TypeId) (bg:Bool) (win:ByteArray) (xs:List Value) (w:World) (h:SdAt w b T bg win xs) :
  Calls Tryz.prog 22 #[.pointer (some ⟨b,0,none⟩)] w fun r w'=>r=.returned (.bool (!bg))∧w=w':=by
 obtain ⟨c0,_,_⟩:=h.cells;clear h
 go_enter Tryz.func22,Tryz.ntmps22
 go_wp2
 go_ret;exact ⟨rfl,rfl⟩
theorem pass_any (b:Nat) (T:TypeId) (bg:Bool) (win s:ByteArray) (xs:List Value) (w:World) (h:SdAt w b T bg win xs) (hw:win.size≤100000) (hs:s.size≤1000000) :
  Calls Tryz.prog 24 #[.pointer (some ⟨b,0,none⟩),.string s] w fun r w'=>r=.returned (.tuple #[])∧SdAt w' b T true (tailB (win++tailB s)) xs∧w.grownBy w' (some b):=by
 have H1:=hid (h.set0 true);have G1:Hid (w.grownBy (w.setCell ⟨b,0,none⟩ (.bool true)) (some b)):=hid (Bit.rgrown_set w b 0 _);obtain ⟨c0,_,fz⟩:=h.cells;have f0:=fz 0;clear h fz
 go_enter Tryz.func24,Tryz.ntmps24
 go_wp2_with fail
 clear c0 f0;generalize w.setCell ⟨b,0,none⟩ (.bool true)=w1 at *;have tz:(tailB s).size≤32768:=by rw [Go.Proofs.YthbjllabgpaaaaaGreat.Lz.tailB_size];omega
 have CT1:=hid (tail_any s w1.drew (by unfold maxLen;omega))
 obtain ⟨t,ht⟩:∃t,tailB s=t:=⟨_,rfl⟩;rw [ht] at tz CT1;have hz:(win++t).size≤200000:=by rw [ByteArray.size_append];omega
 have CT2:=hid (tail_any (win++t) w1.drew (by unfold maxLen;omega))
 have CC:=hid (clone_any (tailB (win++t)) w1.drew (by rw [Go.Proofs.YthbjllabgpaaaaaGreat.Lz.tailB_size];omega))
 obtain ⟨u,hu⟩:∃u,tailB (win++t)=u:=⟨_,rfl⟩;rw [hu] at CT2 CC;obtain ⟨_,c1,_⟩:=H1.out.cells;have c1d:w1.drew.cell? ⟨b,1,none⟩=some (.string win):=c1;have HU:Hid (tailB (win++tailB s)=u):=hid (by rw [ht,hu])
 have tz':(t.size:Int)≤32768:=by omega
 have wz':(win.size:Int)≤100000:=by omega
 have hcat:¬(9223372036854775807<win.size+t.size):=by omega
 clear hz ht hu tz hw hs c1
 go_region_with (first
  | (go_at_call 46;first | (refine CT1.out.mono ?_;rintro r w2 ⟨rfl,rfl⟩) | (refine CT2.out.mono ?_;rintro r w3 ⟨rfl,rfl⟩))
  | (go_at_call 45;refine CC.out.mono ?_;rintro r w4 ⟨rfl,b4⟩;have B4:=hid b4;have H4:=hid (SdAt.below (w:=w1.drew) H1.out b4);have d1:=H4.out.cells.2.1;have f1:=H4.out.cells.2.2 1;clear b4))
 all_goals (
  go_wp2_with fail
  go_end0;rw [HU.out];exact ⟨rfl,H4.out.set1 u,Bit.rgrown_trans (Bit.rgrown_trans G1.out (Bit.rgrown_from_drewN (n:=1) (Go.Proofs.YthbjllabgpaaaaaGreat.Def.below_grown B4.out))) (Bit.rgrown_set w4 b 1 _)⟩)
end Go.Proofs.YthbjllabgpaaaaaGreat.Zst
namespace Go.Proofs.YthbjllabgpaaaaaGreat.Zst
open Go.Lib (hid)
set_option maxHeartbeats 8000000
open Go.ChangeShapes Go.WideShapes Go.ChangeAt Go.RowKit
open Go.Proofs.YthbjllabgpaaaaaGreat.Lz (tailB tailB_size tailB_small)
open Go.Proofs.YthbjllabgpaaaaaGreat.Bit (tb tb_length rgrown_trans)
open Go.Proofs.YthbjllabgpaaaaaGreat.Def
open Go.Proofs.YthbjllabgpaaaaaGreat.Inf (segment_in SegPost)
set_option linter.unusedVariables false
set_option maxRecDepth 100000
def hd2:ByteArray:=⟨#[120,156]⟩
def hdOf (bg:Bool):ByteArray:=if bg then ⟨#[]⟩ else hd2
theorem pseg_new (b:Nat) (bg:Bool) (win s:ByteArray) (w:World) (h:SdAt w b 31 bg win []) (hw:win.size≤100000) (hs:s.size≤5000) :
  Calls Tryz.prog 10 #[.pointer (some ⟨b,0,none⟩),.string s] w fun r w'=>∃t,r=.returned (.string (hdOf bg++t))∧segOut win s t∧Go.Proofs.YthbjllabgpaaaaaGreat.Dfl.SegD win s t∧SdAt w' b 31 true (tailB (win++tailB s)) []∧w.grownBy w' (some b):=by
 have C1:=hid (first_any b _ bg win [] w h);have CD:=hid (fun w=>Go.Proofs.YthbjllabgpaaaaaGreat.Dfl.segment_new win s w hw hs)
 have H:=hid h;have HS:=hid (And.intro hw hs);obtain ⟨_,c1,_⟩:=h.cells;clear h hw hs
 go_enter Tryz.func10,Tryz.ntmps10
 go_wp2_with fail
 refine C1.out.mono ?_;rintro r w1 ⟨rfl,rfl⟩;clear C1
 cases bg with
 | false=>
  go_wp2_with fail
  refine (CD.out w).mono ?_;rintro r w2 ⟨t,rfl,hsg,hsd,b2⟩;have HSD:=hid hsd;have HSG:=hid hsg;have hz:=hsg.2.1;have B2:=hid b2;have CP:=hid (pass_any b _ false win s [] w2 (H.out.below b2) HS.out.1 (by have:=HS.out;omega))
  have tz:t.size≤6000:=by have:=HS.out;omega
  have tz2:(t.size:Int)≤6000:=by omega
  clear hsg hsd hz b2 CD
  go_wp2_with fail
  refine CP.out.mono ?_;rintro r w3 ⟨rfl,h3,g3⟩;have H3:=hid h3;have G3:=hid (rgrown_trans (below_grown B2.out) g3);clear h3 g3 CP
  go_wp2_with fail
  go_ret;exact ⟨t,rfl,HSG.out,HSD.out,H3.out,G3.out⟩
 | true=>
  go_wp2_with fail
  refine (CD.out w).mono ?_;rintro r w2 ⟨t,rfl,hsg,hsd,b2⟩;have HSD:=hid hsd;have HSG:=hid hsg;have hz:=hsg.2.1;have B2:=hid b2;have CP:=hid (pass_any b _ true win s [] w2 (H.out.below b2) HS.out.1 (by have:=HS.out;omega))
  have tz:t.size≤6000:=by have:=HS.out;omega
  have tz2:(t.size:Int)≤6000:=by omega
  clear hsg hsd hz b2 CD
  go_wp2_with fail
  refine CP.out.mono ?_;rintro r w3 ⟨rfl,h3,g3⟩;have H3:=hid h3;have G3:=hid (rgrown_trans (below_grown B2.out) g3);clear h3 g3 CP
  go_wp2_with fail
  go_ret;exact ⟨t,rfl,HSG.out,HSD.out,H3.out,G3.out⟩
theorem pseg_any (b:Nat) (bg:Bool) (win s:ByteArray) (w:World) (h:SdAt w b 31 bg win []) (hw:win.size≤100000) (hs:s.size≤5000) :
  Calls Tryz.prog 10 #[.pointer (some ⟨b,0,none⟩),.string s] w fun r w'=>∃t,r=.returned (.string (hdOf bg++t))∧segOut win s t∧SdAt w' b 31 true (tailB (win++tailB s)) []∧w.grownBy w' (some b):=
 (pseg_new b bg win s w h hw hs).mono fun r w' ⟨t,h1,h2,_,h3⟩=>⟨t,h1,h2,h3⟩
def bodyOf (bg:Bool) (s:ByteArray):ByteArray:=if bg then s else s.extract 2 s.size
def okHd (bg:Bool) (s:ByteArray):Prop:=bg=true∨hdE s=0
def NxPost (w:World) (bg:Bool) (win s:ByteArray) (most:Int) (r:Ending) (w':World):Prop:=
 ∃(t:ByteArray) (e:Int),r=.returned (.tuple #[.string t,.int .i64 e])∧(e≠0→t=⟨#[]⟩)∧(e=0→(t.size:Int)≤most) ∧
  (∀tot:ByteArray,okHd bg s→Sg (tb (bodyOf bg s)) win.data.toList 0 [] false tot.data.toList→(tot.size:Int)≤most→e=0∧t=tot)∧Below w.heap.size w w'
theorem hd_two {s:ByteArray} (h:hdE s=0):2≤s.size:=by
 apply Classical.byContradiction
 intro hn;rw [hdE_short (by omega)] at h
 simp at h
theorem unext_any (b:Nat) (bg:Bool) (win s:ByteArray) (xs:List Value) (most:Int) (w:World) (h:SdAt w b 45 bg win xs) (hw:win.size≤32768) (hs:s.size≤100000) (hm:0≤most∧most≤100000) :
  Calls Tryz.prog 37 #[.pointer (some ⟨b,0,none⟩),.string s,.int .i64 most] w fun r w'=>NxPost w bg win s most r w':=by
 have C1:=hid (first_any b _ bg win xs w h);have H:=hid h;have HS:=hid (And.intro hw (And.intro hs hm));obtain ⟨_,c1,_⟩:=h.cells;clear h hw hs hm
 go_enter Tryz.func37,Tryz.ntmps37
 go_wp2_with fail
 refine C1.out.mono ?_;rintro r w1 ⟨rfl,rfl⟩;clear C1
 cases bg with
 | true=>
  have CI:=hid (segment_in win s most w HS.out.1 HS.out.2.1 HS.out.2.2)
  go_wp2_with fail
  refine CI.out.mono ?_;rintro r w2 ⟨t,e,rfl,p1,p2,p3,p4⟩;have P:=hid (And.intro p1 (And.intro p2 (And.intro p3 p4)));clear p1 p2 p3 p4 CI
  go_wp2_with fail
  go_ret2;exact ⟨t,e,rfl,P.out.1,P.out.2.1,fun tot _ h1 h2=>P.out.2.2.1 tot h1 h2,P.out.2.2.2⟩
 | false=>
  have CH:=hid (header_any s w (by have:=HS.out;omega))
  go_wp2_with fail
  refine CH.out.mono ?_;rintro r w2 ⟨rfl,b2⟩;have B2:=hid b2;have c2:=(H.out.below b2).cells.2.1;clear b2 CH c1
  by_cases he:hdE s=0
  ·have h2:=hd_two he;have hsz:(2:Int)≤s.size:=by omega
   have HE:=hid he;have es:(s.extract 2 s.size).size≤100000:=by rw [ByteArray.size_extract];have:=HS.out;omega
   have CI:=hid (segment_in win (s.extract 2 s.size) most w2 HS.out.1 es HS.out.2.2);rw [he];clear he es
   go_wp2_with fail
   refine CI.out.mono ?_;rintro r w3 ⟨t,e,rfl,p1,p2,p3,p4⟩;have P:=hid (And.intro p1 (And.intro p2 (And.intro p3 (B2.out.trans (p4.mono B2.out.size)))));clear p1 p2 p3 p4 CI
   go_wp2_with fail
   go_ret2;exact ⟨t,e,rfl,P.out.1,P.out.2.1,fun tot _ h1 h2=>P.out.2.2.1 tot h1 h2,P.out.2.2.2⟩
  ·obtain ⟨e,hee⟩:∃e,hdE s=e:=⟨_,rfl⟩;rw [hee] at he ⊢;have hne:(e != 0)=true:=by simpa using he
   have HE:=hid (And.intro he hee);clear he hee
   go_wp2_with fail
   go_ret2;exact ⟨⟨#[]⟩,e,rfl,fun _=>rfl,fun h=>absurd h HE.out.1,fun tot ho _ _=>absurd (ho.elim (fun h=>by cases h) (fun h=>HE.out.2.symm.trans h)) HE.out.1,B2.out⟩
theorem uerr_any (b:Nat) (bg:Bool) (win:ByteArray) (e:Int) (w:World) (h:SdAt w b 45 bg win [.int .i64 e]) :
  Calls Tryz.prog 17 #[.pointer (some ⟨b,0,none⟩)] w fun r w'=>r=.returned (.int .i64 e)∧w=w':=by
 have c2:w.cell? ⟨b,2,none⟩=some (.int .i64 e):=by rw [cell_of_row w b 2 _ _ _ h];rfl
 clear h
 go_enter Tryz.func17,Tryz.ntmps17
 go_wp2
 go_ret;exact ⟨rfl,rfl⟩
def UsPost (w:World) (b:Nat) (bg:Bool) (win s:ByteArray) (most:Int) (r:Ending) (w':World):Prop:=
 ∃(t:ByteArray) (e:Int),r=.returned (.tuple #[.string t,.int .i64 e])∧(e≠0→t=⟨#[]⟩∧SdAt w' b 45 false ⟨#[]⟩ [.int .i64 e]) ∧
  (e=0→(t.size:Int)≤most∧SdAt w' b 45 true (tailB (win++tailB t)) [.int .i64 0]) ∧
  (∀tot:ByteArray,okHd bg s→Sg (tb (bodyOf bg s)) win.data.toList 0 [] false tot.data.toList→(tot.size:Int)≤most→e=0∧t=tot)∧w.grownBy w' (some b)
theorem useg_any (b:Nat) (bg:Bool) (win s:ByteArray) (most:Int) (w:World) (h:SdAt w b 45 bg win [.int .i64 0]) (hw:win.size≤32768) (hs:s.size≤100000) (hm:0≤most∧most≤100000) :
  Calls Tryz.prog 16 #[.pointer (some ⟨b,0,none⟩),.string s,.int .i64 most] w fun r w'=>UsPost w b bg win s most r w':=by
 have C1:=hid (unext_any b bg win s [.int .i64 0] most w h hw hs hm);have H:=hid h;have HS:=hid (And.intro hw (And.intro hs hm));have c2:w.cell? ⟨b,2,none⟩=some (.int .i64 0):=by rw [cell_of_row w b 2 _ _ _ h];rfl
 clear h hw hs hm
 go_enter Tryz.func16,Tryz.ntmps16
 go_wp2_with fail
 refine C1.out.mono ?_;rintro r w1 ⟨t,e,rfl,p1,p2,p3,p4⟩;have P:=hid (And.intro p1 (And.intro p2 (And.intro p3 p4)));have H1:=hid (H.out.below p4);clear p1 p2 p3 p4 C1 c2
 by_cases he:e=0
 ·subst he;have tz:=P.out.2.1 rfl;have CP:=hid (pass_any b _ bg win t [.int .i64 0] w1 H1.out (by have:=HS.out;omega) (by have:=HS.out;omega))
  have PT:=hid tz;have PV:=hid (fun tot h0 h1 h2=>(P.out.2.2.1 tot h0 h1 h2).2)
  have PB:=hid P.out.2.2.2;clear tz P
  go_wp2_with fail
  refine CP.out.mono ?_;rintro r w2 ⟨rfl,h2,g2⟩;have H2:=hid h2;have G2:=hid (rgrown_trans (below_grown PB.out) g2);clear h2 g2 CP
  go_wp2_with fail
  go_ret2;exact ⟨t,0,rfl,fun h=>absurd rfl h,fun _=>⟨PT.out,H2.out⟩,fun tot h0 h1 h2=>⟨rfl,PV.out tot h0 h1 h2⟩,G2.out⟩
 ·have hne:(e != 0)=true:=by simpa using he
  have HE:=hid he;obtain ⟨c0,c1,fz⟩:=H1.out.cells;have c2:w1.cell? ⟨b,2,none⟩=some (.int .i64 0):=by rw [cell_of_row w1 b 2 _ _ _ H1.out];rfl
  have f0:=fz 0;have f1:=fz 1;have f2:=fz 2;clear he fz
  go_wp2_with fail
  go_ret2;refine ⟨_,e,rfl,fun _=>⟨rfl,?_⟩,fun h=>absurd h HE.out,fun tot h0 h1 h2=>absurd (P.out.2.2.1 tot h0 h1 h2).1 HE.out,?_⟩
  ·exact Go.Proofs.YthbjllabgpaaaaaGreat.Sym.store3 H1.out (.bool false) (.string ⟨#[]⟩) (.int .i64 e)
  ·exact rgrown_trans (rgrown_trans (rgrown_trans (below_grown P.out.2.2.2) (Bit.rgrown_set _ b 0 _)) (Bit.rgrown_set _ b 1 _)) (Bit.rgrown_set _ b 2 _)
end Go.Proofs.YthbjllabgpaaaaaGreat.Zst
namespace Go.Proofs.YthbjllabgpaaaaaGreat.Zst
open Go.Lib (hid)
set_option maxHeartbeats 8000000
open Go.ChangeShapes Go.WideShapes Go.ChangeAt Go.RowKit
open Go.Proofs.YthbjllabgpaaaaaGreat.Bit (tb tb_length rgrown_trans)
open Go.Proofs.YthbjllabgpaaaaaGreat.Def
open Go.Proofs.YthbjllabgpaaaaaGreat.Oct (putS putE put_any okB ok4 putS_ok num_mid CurAt new_any int_any err_any at_any intV numI numE valL)
open Go.Proofs.YthbjllabgpaaaaaGreat.Adl (moreV moreV_bd sumV sum_new)
open Go.Proofs.YthbjllabgpaaaaaGreat.Inf (whole_in)
set_option linter.unusedVariables false
set_option maxRecDepth 100000
theorem Wh.wide {T:List Bool} {win out tot:List UInt8} {p q:Nat} (h:Wh T win p out tot q) (Z:List Bool):Wh (T++Z) win p out tot q:=by
 induction h with
 | last p out s K q hb=>
  have hb':=hb.wide [] Z rfl;rw [List.nil_append,List.length_nil,Nat.zero_add,Nat.zero_add] at hb';exact .last p out s K q hb'
 | more p out s tot K q q' hb _ ih=>
  have hb':=hb.wide [] Z rfl;rw [List.nil_append,List.length_nil,Nat.zero_add,Nat.zero_add] at hb';exact .more p out s tot K q q' hb' ih
def sm (s:ByteArray):ByteArray:=putS 4 (moreV 1 s.data.toList)
theorem sm_ok (s:ByteArray):(sm s).size=4∧valL (sm s).data.toList.reverse=moreV 1 s.data.toList∧putE 4 (moreV 1 s.data.toList)=0:=by
 have hb:=moreV_bd 1 s.data.toList;obtain ⟨a,b,_,_,c⟩:=putS_ok (ok4 hb.1 hb.2);exact ⟨by unfold sm;omega,b,c⟩
theorem ext_right (x y:ByteArray):(x++y).extract x.size (x++y).size=y:=by
 apply ByteArray.ext
 apply Array.ext'
 rw [ByteArray.data_extract,Array.toList_extract,ByteArray.data_append,Array.toList_append,ByteArray.size_append,List.extract_eq_take_drop];have e:x.data.toList.length=x.size:=by simp
 rw [←e,List.drop_left]
 apply List.take_of_length_le
 have e2:y.data.toList.length=y.size:=by simp
 omega
theorem hd2_size:hd2.size=2:=rfl
theorem hd_frame (x:ByteArray):hdE (hd2++x)=0:=by
 have h:2≤(hd2++x).size:=by rw [ByteArray.size_append,hd2_size];omega
 rw [hdE_long h]
 have e0:(hd2++x)[0]'(by omega)=120:=by
  rw [ByteArray.getElem_append_left (by decide)];rfl
 have e1:(hd2++x)[1]'(by omega)=156:=by
  rw [ByteArray.getElem_append_left (by decide)];rfl
 rw [e0,e1]
 decide
def fr (t s:ByteArray):ByteArray:=hd2++t++sm s
theorem fr_size (t s:ByteArray):(fr t s).size=t.size+6:=by unfold fr;rw [ByteArray.size_append,ByteArray.size_append,(sm_ok s).1,hd2_size];omega
theorem fr_eq (t s z:ByteArray):fr t s++z=hd2++(t++(sm s++z)):=by
 unfold fr
 apply ByteArray.ext
 simp [ByteArray.data_append,Array.append_assoc]
theorem fr_eq2 (t s z:ByteArray):fr t s++z=(hd2++t)++(sm s++z):=by
 unfold fr
 apply ByteArray.ext
 simp [ByteArray.data_append,Array.append_assoc]
structure FrFacts (t s z:ByteArray) (x:ByteArray):Prop where
 hd:hdE x=0
 sz:x.size=t.size+6+z.size
 body:x.extract 2 x.size=t++(sm s++z)
 rest:x.extract (2+t.size) x.size=sm s++z
theorem fr_facts (t s z:ByteArray):FrFacts t s z (fr t s++z):=by
 refine ⟨by rw [fr_eq];exact hd_frame _,by rw [ByteArray.size_append,fr_size],?_,?_⟩
 ·rw [fr_eq];exact ext_right hd2 _
 ·rw [fr_eq2]
  have:=ext_right (hd2++t) (sm s++z)
  rw [show (hd2++t).size=2+t.size by rw [ByteArray.size_append,hd2_size]] at this
  exact this
theorem zwhole_any (s:ByteArray) (w:World) (hs:s.size≤5000) :
  Calls Tryz.prog 12 #[.string s] w fun r w'=>∃t,r=.returned (.string (fr t s))∧wholeOut ⟨#[]⟩ s t∧Below w.heap.size w w':=by
 have CD:=hid (fun w=>Go.Proofs.YthbjllabgpaaaaaGreat.Dfl.whole_any ⟨#[]⟩ s w (by decide) hs)
 have CA:=hid (sum_new [s] 1 9 w rfl (by omega) (by intro t ht;simp at ht;subst ht;omega) #[.string s] rfl)
 have CP:=hid (fun w=>put_any 4 (sumV [s]) w)
 have e1:sumV [s]=moreV 1 s.data.toList:=rfl;have e2:putE 4 (sumV [s])=0:=(sm_ok s).2.2;have e3:putS 4 (sumV [s])=sm s:=rfl;rw [e2,e3] at CP;generalize sumV [s]=v at *;have hz:=(sm_ok s).1;have HSM:=hid hz;have HS:=hid hs;have bl:Below w.heap.size w (w.alloc (.cells #[.string s] 9)):=(Below.refl _ _).alloc (Nat.le_refl _) _;have BL:=hid bl;obtain ⟨S4,hS4⟩:∃S4,sm s=S4:=⟨_,rfl⟩;rw [hS4] at CP hz;have HS4:=hid hS4;have hz2:(S4.size:Int)=4:=by omega
 clear e1 e2 e3 bl hs hS4
 go_enter Tryz.func12,Tryz.ntmps12
 go_wp2_with fail
 refine CA.out.mono ?_;rintro r w1 ⟨rfl,rfl⟩
 go_wp2_with fail
 refine (CP.out _).mono ?_;rintro r w2 ⟨rfl,b2⟩;have B2:=hid (BL.out.trans (b2.mono BL.out.size));clear b2 CP CA
 go_wp2_with fail
 refine (CD.out w2).mono ?_;rintro r w3 ⟨t,rfl,hw,b3⟩;have HW:=hid hw;have tz:=hw.2.1;have B3:=hid (B2.out.trans (b3.mono B2.out.size));have tz1:t.size≤6000:=by have:=HS.out;omega
 have tz2:(t.size:Int)≤6000:=by omega
 have hc1:¬(9223372036854775807<2+t.size):=by omega
 clear hw tz b3 CD
 go_wp2_with fail
 go_ret;refine ⟨t,?_,HW.out,B3.out⟩;unfold fr;rw [HS4.out]
 rfl
theorem zopen_any (t s z:ByteArray) (most:Int) (q:Nat) (w:World) (ht:t.size≤10000) (hz:z.size≤10000) (hq:Wh (tb t) [] 0 [] s.data.toList q∧(q+7)/8=t.size) (hm:(s.size:Int)≤most∧most≤100000) :
  Calls Tryz.prog 18 #[.string (fr t s++z),.int .i64 most] w fun r w'=>r=.returned (.tuple #[.string s,.int .i64 ((fr t s).size:Nat),.int .i64 0])∧Below w.heap.size w w':=by
 obtain ⟨f1,f2,f3,f4⟩:=fr_facts t s z;have hWh:Wh (tb (t++(sm s++z))) [] 0 [] s.data.toList q:=by rw [tb_append];exact Wh.wide hq.1 _
 have hsm:=sm_ok s;have hfs:=fr_size t s;have hzz:(sm s++z).size=4+z.size:=by rw [ByteArray.size_append,hsm.1]
 obtain ⟨i1,i2,i3,_⟩:=num_mid (x:=⟨#[]⟩) (y:=sm s) (z:=z) (n:=4) (by decide) (by rw [hsm.1];rfl)
 have ee:(⟨#[]⟩:ByteArray)++sm s=sm s:=Go.Proofs.YthbjllabgpaaaaaGreat.Oct.emp_append _;rw [ee] at i1 i2 i3;have i0:((⟨#[]⟩:ByteArray).size:Int)=0:=rfl;rw [i0] at i1 i2 i3;rw [hsm.1,show (0:Int)+((4:Nat):Int)=4 from rfl] at i2
 rw [hsm.2.1] at i3;rw [hfs];generalize fr t s++z=x at *;have CH:=hid (header_any x w (by rw [f2];omega))
 rw [f1] at CH;have bz:(t++(sm s++z)).size≤100000:=by rw [ByteArray.size_append,hzz];omega
 have CW:=hid (fun w=>whole_in ⟨#[]⟩ (t++(sm s++z)) s most q w (by decide) bz hm hWh)
 rw [hq.2] at CW;have CI:=hid (fun w b h=>int_any b (sm s++z) 0 0 4 w h (by omega) (by omega) (by omega))
 have hms:moreV 1 s.data.toList=sumV [s]:=rfl;rw [i1,i2,i3,hms] at CI;have CA:=hid (fun w=>sum_new [s] 1 9 w rfl (by omega) (by intro t ht;simp at ht;subst ht;omega) #[.string s] rfl)
 have CN:=hid (fun w=>new_any (sm s++z) w)
 generalize sumV [s]=v at *;generalize sm s++z=u at *;obtain ⟨n,hn⟩:∃n,t.size=n:=⟨_,rfl⟩;rw [hn] at f2 f4 CW ⊢;have hx2:(2:Int)≤x.size:=by omega
 have hxn:(n:Int)+2=((2+n:Nat):Int):=by omega
 have hxl:2+n≤x.size:=by omega
 have hn1:n≤10000:=by omega
 have hxs:(x.size:Int)≤30000:=by omega
 clear i1 i2 i3 hWh hq f1 f2 ht hz hn hfs hzz hsm ee i0 hms hm bz
 go_enter Tryz.func18,Tryz.ntmps18
 go_wp2_with fail
 refine CH.out.mono ?_;rintro r w1 ⟨rfl,b1⟩;have B1:=hid b1;clear b1 CH
 go_wp2_with fail
 refine (CW.out w1).mono ?_;rintro r w2 ⟨rfl,b2⟩;have B2:=hid (B1.out.trans (b2.mono B1.out.size));clear b2 CW B1 f3
 go_wp2_with fail
 refine (CN.out w2).mono ?_;rintro r w3 ⟨rfl,c3,b3⟩;have B3:=hid (B2.out.trans (b3.mono B2.out.size));have CI2:=hid (CI.out w3 w2.heap.size c3);have HP:=hid B2.out.size;clear c3 b3 CN CI B2 f4;generalize w2.heap.size=cb at *
 go_wp2_with fail
 refine CI2.out.mono ?_;rintro r w4 ⟨rfl,c4,g4⟩;have B4:=hid (B3.out.grown g4 B3.out.size (fun j hj=>by cases hj;exact HP.out))
 have CE:=hid (err_any cb u 4 0 w4 c4);have bl:Below w4.heap.size w4 (w4.alloc (.cells #[.string s] 9)):=(Below.refl _ _).alloc (Nat.le_refl _) _;have C5:Hid (CurAt 80 (w4.alloc (.cells #[.string s] 9)) cb u 4 0):=hid ((bl.block cb c4.lt).trans c4);have B5:=hid (B4.out.trans (bl.mono B4.out.size));have CA2:=hid (CA.out w4);clear c4 g4 bl CI2 B3 B4 CA
 go_wp2_with fail
 refine CE.out.mono ?_;rintro r w5 ⟨rfl,rfl⟩;clear CE
 go_wp2_with fail
 refine CA2.out.mono ?_;rintro r w6 ⟨rfl,rfl⟩;clear CA2;have CT:=hid (at_any cb u 4 0 _ C5.out)
 go_wp2_with fail
 refine CT.out.mono ?_;rintro r w7 ⟨rfl,rfl⟩;clear CT
 go_wp2_with fail
 go_ret3
 refine ⟨?_,B5.out⟩;rw [show ((n+6:Nat):Int)=2+(n:Int)+4 by omega]
 rfl
end Go.Proofs.YthbjllabgpaaaaaGreat.Zst
namespace Go.Proofs.YthbjllabgpaaaaaGreat.Zst
open Go.Lib (hid)
set_option maxHeartbeats 8000000
open Go.ChangeShapes Go.WideShapes Go.ChangeAt Go.RowKit
open Go.Proofs.YthbjllabgpaaaaaGreat.Lz (tailB tailB_size tailB_small)
open Go.Proofs.YthbjllabgpaaaaaGreat.Bit (tb tb_length rgrown_trans)
open Go.Proofs.YthbjllabgpaaaaaGreat.Def
set_option linter.unusedVariables false
set_option maxRecDepth 100000
theorem emp_app (x:ByteArray):(⟨#[]⟩:ByteArray)++x=x:=by apply ByteArray.ext;simp
theorem seg_okHd (bg:Bool) (t:ByteArray):okHd bg (hdOf bg++t):=by
 cases bg with
 | true=>exact .inl rfl
 | false=>exact .inr (hd_frame t)
theorem seg_body (bg:Bool) (t:ByteArray):bodyOf bg (hdOf bg++t)=t:=by
 cases bg with
 | true=>show (⟨#[]⟩:ByteArray)++t=t;exact emp_app t
 | false=>show (hd2++t).extract 2 (hd2++t).size=t;exact ext_right hd2 t
theorem hdOf_size (bg:Bool):(hdOf bg).size≤2:=by cases bg <;> decide
theorem seg_size {win s t:ByteArray} (bg:Bool) (h:segOut win s t) (hs:s.size≤5000):(hdOf bg++t).size≤6000:=by
 have:=h.2.1
 have:=hdOf_size bg
 rw [ByteArray.size_append];omega
theorem Wh.far {T:List Bool} {win out tot:List UInt8} {p q:Nat} (h:Wh T win p out tot q):3≤q:=by
 induction h with
 | last p out s K q hb=>have:=hb.far;omega
 | more p out s tot K q q' hb _ ih=>exact ih
theorem pass_small {win s:ByteArray} (h:win.size+s.size≤32768):tailB (win++tailB s)=win++s:=by
 rw [tailB_small s (by omega),tailB_small _ (by rw [ByteArray.size_append];omega)]
theorem round_any (b:Nat) (bg:Bool) (win s t:ByteArray) (most:Int) (w:World) (h:SdAt w b 45 bg win [.int .i64 0]) (hw:win.size+s.size≤32768) (hs:s.size≤5000) (ht:segOut win s t) (hm:(s.size:Int)≤most∧most≤100000) :
  Calls Tryz.prog 16 #[.pointer (some ⟨b,0,none⟩),.string (hdOf bg++t),.int .i64 most] w fun r w'=>r=.returned (.tuple #[.string s,.int .i64 0])∧SdAt w' b 45 true (win++s) [.int .i64 0]∧w.grownBy w' (some b):=by
 refine (useg_any b bg win (hdOf bg++t) most w h (by omega) (by have:=seg_size bg ht hs;omega) (by omega)).mono ?_
 rintro r w' ⟨u,e,rfl,h1,h2,h3,h4⟩;obtain ⟨rfl,rfl⟩:=h3 s (seg_okHd bg t) (by rw [seg_body];exact ht.1) hm.1
 have:=(h2 rfl).2
 rw [pass_small hw] at this;exact ⟨rfl,this,h4⟩
theorem pack_any (b:Nat) (bg:Bool) (win s:ByteArray) (w:World) (h:SdAt w b 31 bg win []) (hw:win.size+s.size≤32768) (hs:s.size≤5000) :
  Calls Tryz.prog 10 #[.pointer (some ⟨b,0,none⟩),.string s] w fun r w'=>∃t,r=.returned (.string (hdOf bg++t))∧segOut win s t∧SdAt w' b 31 true (win++s) []∧w.grownBy w' (some b):=by
 refine (pseg_any b bg win s w h (by omega) hs).mono ?_
 rintro r w' ⟨t,rfl,h1,h2,h3⟩;rw [pass_small hw] at h2;exact ⟨t,rfl,h1,h2,h3⟩
theorem SdAt.other {w w':World} {b c:Nat} {T:TypeId} {bg:Bool} {win:ByteArray} {xs:List Value} (h:SdAt w b T bg win xs) (hg:w.grownBy w' (some c)) (hc:b≠c):SdAt w' b T bg win xs:=(hg.block b h.lt (fun e=>hc (by cases e;rfl))).trans h
theorem hd_yes:hdE ⟨#[120,156]⟩=0:=by decide +kernel
theorem hd_no:hdE ⟨#[120,157]⟩=100:=by decide +kernel
theorem works_any (W:World):Calls Tryz.prog 7 #[] W fun r w'=>r=.returned (.bool true)∧Below W.heap.size W w':=by
 have CP1:=hid (fun b w h=>pack_any b false ⟨#[]⟩ ⟨#[97,98,99]⟩ w h (by decide) (by decide))
 have CP2:=hid (fun b w h=>pack_any b true (⟨#[]⟩++⟨#[97,98,99]⟩) ⟨#[97,98,99,97,98,99]⟩ w h (by decide) (by decide))
 have CU1:=hid (fun b t w h ht=>round_any b false ⟨#[]⟩ ⟨#[97,98,99]⟩ t 9 w h (by decide) (by decide) ht (by decide))
 have CU2:=hid (fun b t w h ht=>round_any b true (⟨#[]⟩++⟨#[97,98,99]⟩) ⟨#[97,98,99,97,98,99]⟩ t 9 w h (by decide) (by decide) ht (by decide))
 have CW:=hid (fun w=>zwhole_any ⟨#[97,98,99]⟩ w (by decide))
 have CH1:=hid (fun w=>header_any ⟨#[120,156]⟩ w (by decide))
 have CH2:=hid (fun w=>header_any ⟨#[120,157]⟩ w (by decide))
 rw [hd_yes] at CH1;rw [hd_no] at CH2;have bP:Below W.heap.size W (W.alloc (.cells #[.bool false,.string ⟨#[]⟩] 31)):=(Below.refl _ _).alloc (Nat.le_refl _) _;have hP:SdAt (W.alloc (.cells #[.bool false,.string ⟨#[]⟩] 31)) W.heap.size 31 false ⟨#[]⟩ []:=heap_alloc_new _ _;have bU:Below (W.alloc (.cells #[.bool false,.string ⟨#[]⟩] 31)).heap.size (W.alloc (.cells #[.bool false,.string ⟨#[]⟩] 31)) ((W.alloc (.cells #[.bool false,.string ⟨#[]⟩] 31)).alloc (.cells #[.bool false,.string ⟨#[]⟩,.int .i64 0] 45)):=(Below.refl _ _).alloc (Nat.le_refl _) _;have hU:SdAt ((W.alloc (.cells #[.bool false,.string ⟨#[]⟩] 31)).alloc (.cells #[.bool false,.string ⟨#[]⟩,.int .i64 0] 45)) (W.alloc (.cells #[.bool false,.string ⟨#[]⟩] 31)).heap.size 45 false ⟨#[]⟩ [.int .i64 0]:=heap_alloc_new _ _;have HP:=hid (hP.below bU);have B0:=hid (bP.trans (bU.mono bP.size));have hbc:(W.alloc (.cells #[.bool false,.string ⟨#[]⟩] 31)).heap.size=W.heap.size+1:=by simp
 rw [hbc] at hU;have HU:=hid hU;clear bP hP bU hU hbc
 go_enter Tryz.func7,Tryz.ntmps7
 go_wp2_with fail
 generalize ((W.alloc (.cells #[.bool false,.string ⟨#[]⟩] 31)).alloc (.cells #[.bool false,.string ⟨#[]⟩,.int .i64 0] 45))=w0 at *;generalize hbc:W.heap.size+1=c at *;have HBC:=hid hbc.symm;clear hbc;refine (CP1.out W.heap.size w0 HP.out).mono ?_;rintro r w1 ⟨t1,rfl,s1,p1,g1⟩;have S1:=hid s1;have P1:=hid p1;have U1:=hid (HU.out.other g1 (by have:=HBC.out;omega))
 have B1:=hid (B0.out.grown g1 B0.out.size (fun j hj=>by cases hj;omega))
 have CV:=hid (CU1.out c t1 w1 U1.out S1.out);clear s1 p1 g1 CP1 HP HU B0 CU1 S1;generalize hdOf false++t1=X1 at *
 go_wp2_with fail
 refine CV.out.mono ?_;rintro r w2 ⟨rfl,u2,g2⟩;have U2:=hid u2;have P2:=hid (P1.out.other g2 (by have:=HBC.out;omega))
 have B2:=hid (B1.out.grown g2 B1.out.size (fun j hj=>by cases hj;have:=HBC.out;omega))
 clear u2 g2 CV P1 U1 B1
 go_wp2_with fail
 refine (CP2.out W.heap.size w2 P2.out).mono ?_;rintro r w3 ⟨t3,rfl,s3,p3,g3⟩;have S3:=hid s3;have U3:=hid (U2.out.other g3 (by have:=HBC.out;omega))
 have B3:=hid (B2.out.grown g3 B2.out.size (fun j hj=>by cases hj;omega))
 have CV:=hid (CU2.out c t3 w3 U3.out S3.out);clear s3 p3 g3 CP2 P2 U2 B2 CU2 S3;generalize hdOf true++t3=X3 at *
 go_wp2_with fail
 refine CV.out.mono ?_;rintro r w4 ⟨rfl,u4,g4⟩;have U4:=hid u4;have B4:=hid (B3.out.grown g4 B3.out.size (fun j hj=>by cases hj;have:=HBC.out;omega))
 clear u4 g4 CV U3 B3
 go_wp2_with fail
 refine (CW.out w4).mono ?_;rintro r w5 ⟨t5,rfl,hw5,b5⟩;obtain ⟨⟨q,hq1,hq2⟩,hz,_⟩:=hw5;have hz':t5.size≤23:=hz;have U5:=hid (U4.out.below b5);have B5:=hid (B4.out.trans (b5.mono B4.out.size));have CO:=hid (fun w=>zopen_any t5 ⟨#[97,98,99]⟩ ⟨#[120]⟩ 9 q w (by omega) (by decide) ⟨hq1,hq2⟩ (by decide))
 have hfz:=fr_size t5 ⟨#[97,98,99]⟩;have hfar:=Wh.far hq1;obtain ⟨n,hn⟩:∃n,(fr t5 ⟨#[97,98,99]⟩).size=n:=⟨_,rfl⟩;have hn1:n≤30:=by omega
 have hn6:(6:Int)<(n:Int):=by omega
 have hn7:decide ((6:Int)<(n:Int))=true:=by simp;omega
 have hn8:decide (6<n)=true:=by simp;omega
 rw [hn] at CO;obtain ⟨F,hF⟩:∃F,fr t5 ⟨#[97,98,99]⟩=F:=⟨_,rfl⟩;rw [hF] at CO hn ⊢;have hFz:(F.size:Int)≤30:=by omega
 have hcat:¬(9223372036854775807<F.size+1):=by omega
 clear hq1 hq2 hz hz' hfz hfar hn hF b5 CW U4 B4
 go_wp2_with fail
 refine (CO.out w5).mono ?_;rintro r w6 ⟨rfl,b6⟩;have U6:=hid (U5.out.below b6);have B6:=hid (B5.out.trans (b6.mono B5.out.size));clear b6 CO U5 B5 hcat hFz
 go_wp2_with fail
 refine (CH1.out w6).mono ?_;rintro r w7 ⟨rfl,b7⟩;have U7:=hid (U6.out.below b7);have B7:=hid (B6.out.trans (b7.mono B6.out.size));clear b7 CH1 U6 B6
 go_wp2_with fail
 refine (CH2.out w7).mono ?_;rintro r w8 ⟨rfl,b8⟩;have U8:=hid (U7.out.below b8);have B8:=hid (B7.out.trans (b8.mono B7.out.size));clear b8 CH2 U7 B7;have CE:=hid (uerr_any c true _ 0 w8 U8.out)
 go_wp2_with fail
 refine CE.out.mono ?_;rintro r w9 ⟨rfl,rfl⟩;clear CE
 go_wp2_with fail
 go_ret;exact ⟨rfl,B8.out⟩
end Go.Proofs.YthbjllabgpaaaaaGreat.Zst
