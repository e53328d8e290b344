/-
  Texts put together: Width, Marks, Ref.
-/
import Derived.Test.YtcekbbkidipbnaaGreatP10
import Derived.Lib.Hide
import Derived.Test.YtcekbbkidipbnaaGreatP12
import Derived.Lib.Strings
set_option maxRecDepth 100000
set_option maxHeartbeats 8000000
namespace Go.Proofs.YtcekbbkidipbnaaGreat.dec
open Go.RowKit Go.Lib
def WidthGoal (s:ByteArray) (i:Nat) (w:World):Prop:=
 Calls Tryz.prog 172 #[.string s,.int .i64 i] w fun e w'=>e=.returned (.int .i64 (widthS s i))∧w=w'
theorem zqm (s:ByteArray) (i:Nat) (w:World) (hi:i<s.size) (c:UInt8) (hc:s[i]=c) (h:(c.toNat:Int)<128):WidthGoal s i w:=by
 have W:=@zoK s i zdX
 unfold WidthGoal
 rw[W]
 clear W
 have ql128:decide ((c.toNat:Int)<128)=true:=decide_eq_true zdC
 clear h
 go_enter Tryz.func172,Tryz.ntmps172
 exact zcj
theorem zsP (s:ByteArray) (i:Nat) (w:World) (hi:i<s.size) (c:UInt8) (hc:s[i]=c) (h:128≤(c.toNat:Int)) (h':(c.toNat:Int)<194):WidthGoal s i w:=by
 have W:=@ztH s i zdX zdX
 unfold WidthGoal
 rw[W]
 clear W
 have ql128:decide ((c.toNat:Int)<128)=false:=decide_eq_false zdC
 have ql194:decide ((c.toNat:Int)<194)=true:=decide_eq_true zdC
 clear h
 clear h'
 go_enter Tryz.func172,Tryz.ntmps172
 exact zcj
theorem zrw (s:ByteArray) (i:Nat) (w:World) (hi:i<s.size) (c:UInt8) (hc:s[i]=c) (h:244<(c.toNat:Int)):WidthGoal s i w:=by
 have W:=@ztH s i zdX zdX
 unfold WidthGoal
 rw[W]
 clear W
 have ql128:decide ((c.toNat:Int)<128)=false:=decide_eq_false zdC
 have ql194:decide ((c.toNat:Int)<194)=false:=decide_eq_false zdC
 have qg244:decide (244<(c.toNat:Int))=true:=decide_eq_true zdC
 clear h
 go_enter Tryz.func172,Tryz.ntmps172
 exact zcj
theorem zst (s:ByteArray) (i:Nat) (w:World) (hs:s.size≤1073741824) (hi:i<s.size) (c:UInt8) (hc:s[i]=c) (h:194≤(c.toNat:Int)) (h':(c.toNat:Int)<224):WidthGoal s i w:=by
 have W:=@zwT s i hi zdX zdX
 unfold WidthGoal
 have ql128:decide ((c.toNat:Int)<128)=false:=decide_eq_false zdC
 have ql194:decide ((c.toNat:Int)<194)=false:=decide_eq_false zdC
 have qg244:decide (244<(c.toNat:Int))=false:=decide_eq_false zdC
 have ql224:decide ((c.toNat:Int)<224)=true:=decide_eq_true zdC
 clear h
 clear h'
 cases m1:moreB s (i+1) 128 191 with
 |false=>
  have z1:moreZ s (↑i+1) 128 191=false:=m1
  have W0:widthS s i=0:=by rw[W,m1];simp
  rw[W0]
  clear W W0 m1
  exact zaF
 |true=>
  have z1:moreZ s (↑i+1) 128 191=true:=m1
  have W0:widthS s i=2:=by rw[W,m1];rfl
  rw[W0]
  clear W W0 m1
  exact zaF
theorem zvk (s:ByteArray) (i:Nat) (w:World) (hs:s.size≤1073741824) (hi:i<s.size) (c:UInt8) (hc:s[i]=c) (h:(c.toNat:Int)=224):WidthGoal s i w:=by
 have W:=@ws_E0 s i hi zdX
 unfold WidthGoal
 cases m1:moreB s (i+1) 160 191 with
 |false=>
  have z1:moreZ s (↑i+1) 160 191=false:=m1
  have W0:widthS s i=0:=by rw[W,m1];simp
  rw[W0]
  clear W W0 m1
  exact zaF
 |true=>
  have z1:moreZ s (↑i+1) 160 191=true:=m1
  cases m2:moreB s (i+2) 128 191 with
  |false=>
   have z2:moreZ s (↑i+2) 128 191=false:=m2
   have W0:widthS s i=0:=by rw[W,m2];simp
   rw[W0]
   clear W W0 m1 m2
   exact zaF
  |true=>
   have z2:moreZ s (↑i+2) 128 191=true:=m2
   have W0:widthS s i=3:=by rw[W,m1,m2];rfl
   rw[W0]
   clear W W0 m1 m2
   exact zaF
theorem zuL (s:ByteArray) (i:Nat) (w:World) (hs:s.size≤1073741824) (hi:i<s.size) (c:UInt8) (hc:s[i]=c) (h:(c.toNat:Int)=237):WidthGoal s i w:=by
 have W:=@ws_ED s i hi zdX
 unfold WidthGoal
 cases m1:moreB s (i+1) 128 159 with
 |false=>
  have z1:moreZ s (↑i+1) 128 159=false:=m1
  have W0:widthS s i=0:=by rw[W,m1];simp
  rw[W0]
  clear W W0 m1
  exact zaF
 |true=>
  have z1:moreZ s (↑i+1) 128 159=true:=m1
  cases m2:moreB s (i+2) 128 191 with
  |false=>
   have z2:moreZ s (↑i+2) 128 191=false:=m2
   have W0:widthS s i=0:=by rw[W,m2];simp
   rw[W0]
   clear W W0 m1 m2
   exact zaF
  |true=>
   have z2:moreZ s (↑i+2) 128 191=true:=m2
   have W0:widthS s i=3:=by rw[W,m1,m2];rfl
   rw[W0]
   clear W W0 m1 m2
   exact zaF
theorem zvs (s:ByteArray) (i:Nat) (w:World) (hs:s.size≤1073741824) (hi:i<s.size) (c:UInt8) (hc:s[i]=c) (h:(c.toNat:Int)=240):WidthGoal s i w:=by
 have W:=@ws_F0 s i hi zdX
 unfold WidthGoal
 cases m1:moreB s (i+1) 144 191 with
 |false=>
  have z1:moreZ s (↑i+1) 144 191=false:=m1
  have W0:widthS s i=0:=by rw[W,m1];simp
  rw[W0]
  clear W W0 m1
  exact zaF
 |true=>
  have z1:moreZ s (↑i+1) 144 191=true:=m1
  cases m2:moreB s (i+2) 128 191 with
  |false=>
   have z2:moreZ s (↑i+2) 128 191=false:=m2
   have W0:widthS s i=0:=by rw[W,m2];simp
   rw[W0]
   clear W W0 m1 m2
   exact zaF
  |true=>
   have z2:moreZ s (↑i+2) 128 191=true:=m2
   cases m3:moreB s (i+3) 128 191 with
   |false=>
    have z3:moreZ s (↑i+3) 128 191=false:=m3
    have W0:widthS s i=0:=by rw[W,m3];simp
    rw[W0]
    clear W W0 m1 m2 m3
    exact zaF
   |true=>
    have z3:moreZ s (↑i+3) 128 191=true:=m3
    have W0:widthS s i=4:=by rw[W,m1,m2,m3];rfl
    rw[W0]
    clear W W0 m1 m2 m3
    exact zaF
theorem zvw (s:ByteArray) (i:Nat) (w:World) (hs:s.size≤1073741824) (hi:i<s.size) (c:UInt8) (hc:s[i]=c) (h:(c.toNat:Int)=244):WidthGoal s i w:=by
 have W:=@ws_F4 s i hi zdX
 unfold WidthGoal
 cases m1:moreB s (i+1) 128 143 with
 |false=>
  have z1:moreZ s (↑i+1) 128 143=false:=m1
  have W0:widthS s i=0:=by rw[W,m1];simp
  rw[W0]
  clear W W0 m1
  exact zaF
 |true=>
  have z1:moreZ s (↑i+1) 128 143=true:=m1
  cases m2:moreB s (i+2) 128 191 with
  |false=>
   have z2:moreZ s (↑i+2) 128 191=false:=m2
   have W0:widthS s i=0:=by rw[W,m2];simp
   rw[W0]
   clear W W0 m1 m2
   exact zaF
  |true=>
   have z2:moreZ s (↑i+2) 128 191=true:=m2
   cases m3:moreB s (i+3) 128 191 with
   |false=>
    have z3:moreZ s (↑i+3) 128 191=false:=m3
    have W0:widthS s i=0:=by rw[W,m3];simp
    rw[W0]
    clear W W0 m1 m2 m3
    exact zaF
   |true=>
    have z3:moreZ s (↑i+3) 128 191=true:=m3
    have W0:widthS s i=4:=by rw[W,m1,m2,m3];rfl
    rw[W0]
    clear W W0 m1 m2 m3
    exact zaF
theorem zuS (s:ByteArray) (i:Nat) (w:World) (hs:s.size≤1073741824) (hi:i<s.size) (c:UInt8) (hc:s[i]=c) (h:224<(c.toNat:Int)) (h':(c.toNat:Int)<240) (hn:(c.toNat:Int)≠237):WidthGoal s i w:=by
 have W:=@ws_E1 s i hi zdX zdX zdX
 unfold WidthGoal
 have ql128:decide ((c.toNat:Int)<128)=false:=decide_eq_false zdC
 have ql194:decide ((c.toNat:Int)<194)=false:=decide_eq_false zdC
 have qg244:decide (244<(c.toNat:Int))=false:=decide_eq_false zdC
 have ql224:decide ((c.toNat:Int)<224)=false:=decide_eq_false zdC
 have qe224:((c.toNat:Int) == 224)=false:=beq_eq_false_iff_ne.2 zdC
 have qe237:((c.toNat:Int) == 237)=false:=beq_eq_false_iff_ne.2 zdC
 have qe240:((c.toNat:Int) == 240)=false:=beq_eq_false_iff_ne.2 zdC
 have qe244:((c.toNat:Int) == 244)=false:=beq_eq_false_iff_ne.2 zdC
 have ql240:decide ((c.toNat:Int)<240)=true:=decide_eq_true zdC
 clear h
 clear h'
 clear hn
 cases m1:moreB s (i+1) 128 191 with
 |false=>
  have z1:moreZ s (↑i+1) 128 191=false:=m1
  have W0:widthS s i=0:=by rw[W,m1];simp
  rw[W0]
  clear W W0 m1
  exact zaF
 |true=>
  have z1:moreZ s (↑i+1) 128 191=true:=m1
  cases m2:moreB s (i+2) 128 191 with
  |false=>
   have z2:moreZ s (↑i+2) 128 191=false:=m2
   have W0:widthS s i=0:=by rw[W,m2];simp
   rw[W0]
   clear W W0 m1 m2
   exact zaF
  |true=>
   have z2:moreZ s (↑i+2) 128 191=true:=m2
   have W0:widthS s i=3:=by rw[W,m1,m2];rfl
   rw[W0]
   clear W W0 m1 m2
   exact zaF
theorem zvp (s:ByteArray) (i:Nat) (w:World) (hs:s.size≤1073741824) (hi:i<s.size) (c:UInt8) (hc:s[i]=c) (h:240<(c.toNat:Int)) (h':(c.toNat:Int)<244):WidthGoal s i w:=by
 have W:=@ws_F1 s i hi zdX zdX
 unfold WidthGoal
 have ql128:decide ((c.toNat:Int)<128)=false:=decide_eq_false zdC
 have ql194:decide ((c.toNat:Int)<194)=false:=decide_eq_false zdC
 have qg244:decide (244<(c.toNat:Int))=false:=decide_eq_false zdC
 have ql224:decide ((c.toNat:Int)<224)=false:=decide_eq_false zdC
 have qe224:((c.toNat:Int) == 224)=false:=beq_eq_false_iff_ne.2 zdC
 have qe237:((c.toNat:Int) == 237)=false:=beq_eq_false_iff_ne.2 zdC
 have qe240:((c.toNat:Int) == 240)=false:=beq_eq_false_iff_ne.2 zdC
 have qe244:((c.toNat:Int) == 244)=false:=beq_eq_false_iff_ne.2 zdC
 have ql240:decide ((c.toNat:Int)<240)=false:=decide_eq_false zdC
 clear h
 clear h'
 cases m1:moreB s (i+1) 128 191 with
 |false=>
  have z1:moreZ s (↑i+1) 128 191=false:=m1
  have W0:widthS s i=0:=by rw[W,m1];simp
  rw[W0]
  clear W W0 m1
  exact zaF
 |true=>
  have z1:moreZ s (↑i+1) 128 191=true:=m1
  cases m2:moreB s (i+2) 128 191 with
  |false=>
   have z2:moreZ s (↑i+2) 128 191=false:=m2
   have W0:widthS s i=0:=by rw[W,m2];simp
   rw[W0]
   clear W W0 m1 m2
   exact zaF
  |true=>
   have z2:moreZ s (↑i+2) 128 191=true:=m2
   cases m3:moreB s (i+3) 128 191 with
   |false=>
    have z3:moreZ s (↑i+3) 128 191=false:=m3
    have W0:widthS s i=0:=by rw[W,m3];simp
    rw[W0]
    clear W W0 m1 m2 m3
    exact zaF
   |true=>
    have z3:moreZ s (↑i+3) 128 191=true:=m3
    have W0:widthS s i=4:=by rw[W,m1,m2,m3];rfl
    rw[W0]
    clear W W0 m1 m2 m3
    exact zaF
theorem zsG (s:ByteArray) (i:Nat) (w:World) (hs:s.size≤1073741824) (hi:i<s.size):WidthGoal s i w:=by
 obtain⟨c,hc⟩:∃ c,s[i]=c:=⟨_,rfl⟩
 have hb:c.toNat<256:=UInt8.toNat_lt _
 by_cases a:(c.toNat:Int)<128
 ·exact zqm s i w hi c hc a
 by_cases b:(c.toNat:Int)<194
 ·exact zsP s i w hi c hc zdC b
 by_cases d:244<(c.toNat:Int)
 ·exact zrw s i w hi c hc d
 by_cases g:(c.toNat:Int)<224
 ·exact zst s i w hs hi c hc zdC g
 by_cases e0:(c.toNat:Int)=224
 ·exact zvk s i w hs hi c hc e0
 by_cases ed:(c.toNat:Int)=237
 ·exact zuL s i w hs hi c hc ed
 by_cases e1:(c.toNat:Int)<240
 ·exact zuS s i w hs hi c hc zdC e1 ed
 by_cases f0:(c.toNat:Int)=240
 ·exact zvs s i w hs hi c hc f0
 by_cases f4:(c.toNat:Int)=244
 ·exact zvw s i w hs hi c hc f4
 ·exact zvp s i w hs hi c hc zdC zdC
open Go.RowKit Go.Lib
theorem zlv (s:ByteArray) (i:Nat) (h:i+2<s.size):(s.extract i (i+3)).toList=[s.get! i,s.get! (i+1),s.get! (i+2)]:=by
 rw[Lib.toList_data,extract_data,get_lt s i zdC,get_lt s (i+1) zdC,get_lt s (i+2) zdC]
 have hl:s.data.toList.length=s.size:=by rw[Array.length_toList];rfl
 rw[show i+3 - i=3 by omega,List.drop_eq_getElem_cons zdC,List.take_succ_cons,List.drop_eq_getElem_cons zdC,List.take_succ_cons,List.drop_eq_getElem_cons zdC,List.take_succ_cons,List.take_zero]
 rfl
theorem zsj {s:ByteArray} {i:Nat} (h:runeAt s i=65279):wideAt s i=3:=by
 obtain⟨a,b,c,d⟩:=mark_iff.1 h
 unfold wideAt
 rw[decode_bytes,b,c,d]
 unfold decodeN
 rw[if_neg zdC,if_neg zdC,if_pos zdC,if_pos zdC]
theorem mark_yes {s:ByteArray} {i:Nat} (hw:widthS s i≠0) (h:runeAt s i=65279):((s.extract i (i+widthS s i)).toList == [239,187,191])=true:=by
 have hwd:=zsj h
 obtain⟨a,b,c,d⟩:=mark_iff.1 h
 rw[← (wide_good hw).1,hwd,zlv s i zdC]
 rw[beq_iff_eq]
 have e1:s.get! i=239:=UInt8.toNat_inj.1 b
 have e2:s.get! (i+1)=187:=UInt8.toNat_inj.1 c
 have e3:s.get! (i+2)=191:=UInt8.toNat_inj.1 d
 rw[e1,e2,e3]
theorem mark_no {s:ByteArray} {i:Nat} (hi:i<s.size) (hw:widthS s i≠0) (h:runeAt s i≠65279):((s.extract i (i+widthS s i)).toList == [239,187,191])=false:=by
 rw[beq_eq_false_iff_ne]
 intro e
 have hle:=wide_le s i hi
 rw[(wide_good hw).1] at hle
 have hl:s.data.toList.length=s.size:=by rw[Array.length_toList];rfl
 have hlen:widthS s i=3:=by
  have:=congrArg List.length e
  rw[Lib.toList_data,extract_data] at this
  simp only[List.length_take,List.length_drop,List.length_cons,List.length_nil] at this
  omega
 rw[hlen] at e hle
 rw[zlv s i zdC] at e
 simp only[List.cons.injEq,and_true] at e
 refine h (mark_iff.2 ⟨by omega,?_,?_,?_⟩)
 ·rw[e.1];rfl
 ·rw[e.2.1];rfl
 ·rw[e.2.2];rfl
theorem code_nul {s:ByteArray} {i:Nat} (hw:widthS s i≠0) (h:(s.get! i).toNat=0):codeAt s i=102∧widthS s i=1:=by
 have hr:=nul_iff.2 h
 have hg:=wide_good hw
 refine⟨?_,?_⟩
 ·unfold codeAt faultZ
  rw[if_neg zdC,if_pos zdC]
 ·exact zoK zdC
theorem code_none {s:ByteArray} {i:Nat} (hw:widthS s i≠0) (h0:(s.get! i).toNat≠0) (h:runeAt s i≠65279∨i=0):codeAt s i=0:=by
 have hg:=wide_good hw
 have hr:runeAt s i≠0:=fun e=>h0 (nul_iff.1 e)
 unfold codeAt faultZ
 rw[if_neg zdC,if_neg zdC,if_neg zdC]
open Go.RowKit
theorem width_is {s:ByteArray} {i n:Nat} {z:Int} (w:World) (hs:s.size≤1073741824) (hi:i<s.size) (h:widthS s i=n) (hz:z=n) :
  Calls Tryz.prog 172 #[.string s,.int .i64 i] w fun e w'=>e=.returned (.int .i64 z)∧w=w':=by
 have:=zsG s i w hs hi
 unfold WidthGoal at this
 rw[h] at this
 rw[hz]
 exact this
end Go.Proofs.YtcekbbkidipbnaaGreat.dec
