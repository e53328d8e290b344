/-
  Texts put together: Width, Marks, Ref.
-/
import Derived.Test.YtcekbbkidipbnaaGreatL26
import Derived.Lib.Hide
import Derived.Test.YtcekbbkidipbnaaGreatL28
import Derived.Lib.Strings
set_option maxRecDepth 100000
set_option maxHeartbeats 8000000
namespace Go.Proofs.YtcekbbkidipbnaaGreat.dec
open Go.RowKit Go.Lib
def WidthGoal (s:ByteArray) (i:Nat) (w:World):Prop:=
 Calls Tryz.prog 172 #[.string s,.int .i64 i] w fun e w'=>e=.returned (.int .i64 (widthS s i))∧w=w'
theorem width_ascii (s:ByteArray) (i:Nat) (w:World) (hi:i<s.size) (c:UInt8) (hc:s[i]=c) (h:(c.toNat:Int)<128):WidthGoal s i w:=by
 have W:=@ws_ascii s i (by rw[get_lt s i hi,hc];omega)
 unfold WidthGoal
 rw[W]
 clear W
 have ql128:decide ((c.toNat:Int)<128)=true:=decide_eq_true (by omega)
 clear h
 go_enter Tryz.func172,Tryz.ntmps172
 go_wp2_with fail
 go_ret
 exact⟨rfl,rfl⟩
theorem width_low (s:ByteArray) (i:Nat) (w:World) (hi:i<s.size) (c:UInt8) (hc:s[i]=c) (h:128≤(c.toNat:Int)) (h':(c.toNat:Int)<194):WidthGoal s i w:=by
 have W:=@ws_bad s i (by rw[get_lt s i hi,hc];omega) (by rw[get_lt s i hi,hc];omega)
 unfold WidthGoal
 rw[W]
 clear W
 have ql128:decide ((c.toNat:Int)<128)=false:=decide_eq_false (by omega)
 have ql194:decide ((c.toNat:Int)<194)=true:=decide_eq_true (by omega)
 clear h
 clear h'
 go_enter Tryz.func172,Tryz.ntmps172
 go_wp2_with fail
 go_ret
 exact⟨rfl,rfl⟩
theorem width_high (s:ByteArray) (i:Nat) (w:World) (hi:i<s.size) (c:UInt8) (hc:s[i]=c) (h:244<(c.toNat:Int)):WidthGoal s i w:=by
 have W:=@ws_bad s i (by rw[get_lt s i hi,hc];omega) (by rw[get_lt s i hi,hc];omega)
 unfold WidthGoal
 rw[W]
 clear W
 have ql128:decide ((c.toNat:Int)<128)=false:=decide_eq_false (by omega)
 have ql194:decide ((c.toNat:Int)<194)=false:=decide_eq_false (by omega)
 have qg244:decide (244<(c.toNat:Int))=true:=decide_eq_true (by omega)
 clear h
 go_enter Tryz.func172,Tryz.ntmps172
 go_wp2_with fail
 go_ret
 exact⟨rfl,rfl⟩
theorem width_two (s:ByteArray) (i:Nat) (w:World) (hs:s.size≤1073741824) (hi:i<s.size) (c:UInt8) (hc:s[i]=c) (h:194≤(c.toNat:Int)) (h':(c.toNat:Int)<224):WidthGoal s i w:=by
 have W:=@ws_two s i hi (by rw[get_lt s i hi,hc];omega) (by rw[get_lt s i hi,hc];omega)
 unfold WidthGoal
 have ql128:decide ((c.toNat:Int)<128)=false:=decide_eq_false (by omega)
 have ql194:decide ((c.toNat:Int)<194)=false:=decide_eq_false (by omega)
 have qg244:decide (244<(c.toNat:Int))=false:=decide_eq_false (by omega)
 have ql224:decide ((c.toNat:Int)<224)=true:=decide_eq_true (by omega)
 clear h
 clear h'
 cases m1:moreB s (i+1) 128 191 with
 |false=>
  have z1:moreZ s (↑i+1) 128 191=false:=m1
  have W0:widthS s i=0:=by rw[W,m1];simp
  rw[W0]
  clear W W0 m1
  go_enter Tryz.func172,Tryz.ntmps172
  go_wp2_with (go_at_call 188;refine(more_any s _ _ _ _ (by omega) (by omega) (by omega)).mono ?_;rintro e w' ⟨rfl,rfl⟩)
  go_ret
  exact⟨rfl,rfl⟩
 |true=>
  have z1:moreZ s (↑i+1) 128 191=true:=m1
  have W0:widthS s i=2:=by rw[W,m1];rfl
  rw[W0]
  clear W W0 m1
  go_enter Tryz.func172,Tryz.ntmps172
  go_wp2_with (go_at_call 188;refine(more_any s _ _ _ _ (by omega) (by omega) (by omega)).mono ?_;rintro e w' ⟨rfl,rfl⟩)
  go_ret
  exact⟨rfl,rfl⟩
theorem width_E0 (s:ByteArray) (i:Nat) (w:World) (hs:s.size≤1073741824) (hi:i<s.size) (c:UInt8) (hc:s[i]=c) (h:(c.toNat:Int)=224):WidthGoal s i w:=by
 have W:=@ws_E0 s i hi (by rw[get_lt s i hi,hc];omega)
 unfold WidthGoal
 cases m1:moreB s (i+1) 160 191 with
 |false=>
  have z1:moreZ s (↑i+1) 160 191=false:=m1
  have W0:widthS s i=0:=by rw[W,m1];simp
  rw[W0]
  clear W W0 m1
  go_enter Tryz.func172,Tryz.ntmps172
  go_wp2_with (go_at_call 188;refine(more_any s _ _ _ _ (by omega) (by omega) (by omega)).mono ?_;rintro e w' ⟨rfl,rfl⟩)
  go_ret
  exact⟨rfl,rfl⟩
 |true=>
  have z1:moreZ s (↑i+1) 160 191=true:=m1
  cases m2:moreB s (i+2) 128 191 with
  |false=>
   have z2:moreZ s (↑i+2) 128 191=false:=m2
   have W0:widthS s i=0:=by rw[W,m2];simp
   rw[W0]
   clear W W0 m1 m2
   go_enter Tryz.func172,Tryz.ntmps172
   go_wp2_with (go_at_call 188;refine(more_any s _ _ _ _ (by omega) (by omega) (by omega)).mono ?_;rintro e w' ⟨rfl,rfl⟩)
   go_ret
   exact⟨rfl,rfl⟩
  |true=>
   have z2:moreZ s (↑i+2) 128 191=true:=m2
   have W0:widthS s i=3:=by rw[W,m1,m2];rfl
   rw[W0]
   clear W W0 m1 m2
   go_enter Tryz.func172,Tryz.ntmps172
   go_wp2_with (go_at_call 188;refine(more_any s _ _ _ _ (by omega) (by omega) (by omega)).mono ?_;rintro e w' ⟨rfl,rfl⟩)
   go_ret
   exact⟨rfl,rfl⟩
theorem width_ED (s:ByteArray) (i:Nat) (w:World) (hs:s.size≤1073741824) (hi:i<s.size) (c:UInt8) (hc:s[i]=c) (h:(c.toNat:Int)=237):WidthGoal s i w:=by
 have W:=@ws_ED s i hi (by rw[get_lt s i hi,hc];omega)
 unfold WidthGoal
 cases m1:moreB s (i+1) 128 159 with
 |false=>
  have z1:moreZ s (↑i+1) 128 159=false:=m1
  have W0:widthS s i=0:=by rw[W,m1];simp
  rw[W0]
  clear W W0 m1
  go_enter Tryz.func172,Tryz.ntmps172
  go_wp2_with (go_at_call 188;refine(more_any s _ _ _ _ (by omega) (by omega) (by omega)).mono ?_;rintro e w' ⟨rfl,rfl⟩)
  go_ret
  exact⟨rfl,rfl⟩
 |true=>
  have z1:moreZ s (↑i+1) 128 159=true:=m1
  cases m2:moreB s (i+2) 128 191 with
  |false=>
   have z2:moreZ s (↑i+2) 128 191=false:=m2
   have W0:widthS s i=0:=by rw[W,m2];simp
   rw[W0]
   clear W W0 m1 m2
   go_enter Tryz.func172,Tryz.ntmps172
   go_wp2_with (go_at_call 188;refine(more_any s _ _ _ _ (by omega) (by omega) (by omega)).mono ?_;rintro e w' ⟨rfl,rfl⟩)
   go_ret
   exact⟨rfl,rfl⟩
  |true=>
   have z2:moreZ s (↑i+2) 128 191=true:=m2
   have W0:widthS s i=3:=by rw[W,m1,m2];rfl
   rw[W0]
   clear W W0 m1 m2
   go_enter Tryz.func172,Tryz.ntmps172
   go_wp2_with (go_at_call 188;refine(more_any s _ _ _ _ (by omega) (by omega) (by omega)).mono ?_;rintro e w' ⟨rfl,rfl⟩)
   go_ret
   exact⟨rfl,rfl⟩
theorem width_F0 (s:ByteArray) (i:Nat) (w:World) (hs:s.size≤1073741824) (hi:i<s.size) (c:UInt8) (hc:s[i]=c) (h:(c.toNat:Int)=240):WidthGoal s i w:=by
 have W:=@ws_F0 s i hi (by rw[get_lt s i hi,hc];omega)
 unfold WidthGoal
 cases m1:moreB s (i+1) 144 191 with
 |false=>
  have z1:moreZ s (↑i+1) 144 191=false:=m1
  have W0:widthS s i=0:=by rw[W,m1];simp
  rw[W0]
  clear W W0 m1
  go_enter Tryz.func172,Tryz.ntmps172
  go_wp2_with (go_at_call 188;refine(more_any s _ _ _ _ (by omega) (by omega) (by omega)).mono ?_;rintro e w' ⟨rfl,rfl⟩)
  go_ret
  exact⟨rfl,rfl⟩
 |true=>
  have z1:moreZ s (↑i+1) 144 191=true:=m1
  cases m2:moreB s (i+2) 128 191 with
  |false=>
   have z2:moreZ s (↑i+2) 128 191=false:=m2
   have W0:widthS s i=0:=by rw[W,m2];simp
   rw[W0]
   clear W W0 m1 m2
   go_enter Tryz.func172,Tryz.ntmps172
   go_wp2_with (go_at_call 188;refine(more_any s _ _ _ _ (by omega) (by omega) (by omega)).mono ?_;rintro e w' ⟨rfl,rfl⟩)
   go_ret
   exact⟨rfl,rfl⟩
  |true=>
   have z2:moreZ s (↑i+2) 128 191=true:=m2
   cases m3:moreB s (i+3) 128 191 with
   |false=>
    have z3:moreZ s (↑i+3) 128 191=false:=m3
    have W0:widthS s i=0:=by rw[W,m3];simp
    rw[W0]
    clear W W0 m1 m2 m3
    go_enter Tryz.func172,Tryz.ntmps172
    go_wp2_with (go_at_call 188;refine(more_any s _ _ _ _ (by omega) (by omega) (by omega)).mono ?_;rintro e w' ⟨rfl,rfl⟩)
    go_ret
    exact⟨rfl,rfl⟩
   |true=>
    have z3:moreZ s (↑i+3) 128 191=true:=m3
    have W0:widthS s i=4:=by rw[W,m1,m2,m3];rfl
    rw[W0]
    clear W W0 m1 m2 m3
    go_enter Tryz.func172,Tryz.ntmps172
    go_wp2_with (go_at_call 188;refine(more_any s _ _ _ _ (by omega) (by omega) (by omega)).mono ?_;rintro e w' ⟨rfl,rfl⟩)
    go_ret
    exact⟨rfl,rfl⟩
theorem width_F4 (s:ByteArray) (i:Nat) (w:World) (hs:s.size≤1073741824) (hi:i<s.size) (c:UInt8) (hc:s[i]=c) (h:(c.toNat:Int)=244):WidthGoal s i w:=by
 have W:=@ws_F4 s i hi (by rw[get_lt s i hi,hc];omega)
 unfold WidthGoal
 cases m1:moreB s (i+1) 128 143 with
 |false=>
  have z1:moreZ s (↑i+1) 128 143=false:=m1
  have W0:widthS s i=0:=by rw[W,m1];simp
  rw[W0]
  clear W W0 m1
  go_enter Tryz.func172,Tryz.ntmps172
  go_wp2_with (go_at_call 188;refine(more_any s _ _ _ _ (by omega) (by omega) (by omega)).mono ?_;rintro e w' ⟨rfl,rfl⟩)
  go_ret
  exact⟨rfl,rfl⟩
 |true=>
  have z1:moreZ s (↑i+1) 128 143=true:=m1
  cases m2:moreB s (i+2) 128 191 with
  |false=>
   have z2:moreZ s (↑i+2) 128 191=false:=m2
   have W0:widthS s i=0:=by rw[W,m2];simp
   rw[W0]
   clear W W0 m1 m2
   go_enter Tryz.func172,Tryz.ntmps172
   go_wp2_with (go_at_call 188;refine(more_any s _ _ _ _ (by omega) (by omega) (by omega)).mono ?_;rintro e w' ⟨rfl,rfl⟩)
   go_ret
   exact⟨rfl,rfl⟩
  |true=>
   have z2:moreZ s (↑i+2) 128 191=true:=m2
   cases m3:moreB s (i+3) 128 191 with
   |false=>
    have z3:moreZ s (↑i+3) 128 191=false:=m3
    have W0:widthS s i=0:=by rw[W,m3];simp
    rw[W0]
    clear W W0 m1 m2 m3
    go_enter Tryz.func172,Tryz.ntmps172
    go_wp2_with (go_at_call 188;refine(more_any s _ _ _ _ (by omega) (by omega) (by omega)).mono ?_;rintro e w' ⟨rfl,rfl⟩)
    go_ret
    exact⟨rfl,rfl⟩
   |true=>
    have z3:moreZ s (↑i+3) 128 191=true:=m3
    have W0:widthS s i=4:=by rw[W,m1,m2,m3];rfl
    rw[W0]
    clear W W0 m1 m2 m3
    go_enter Tryz.func172,Tryz.ntmps172
    go_wp2_with (go_at_call 188;refine(more_any s _ _ _ _ (by omega) (by omega) (by omega)).mono ?_;rintro e w' ⟨rfl,rfl⟩)
    go_ret
    exact⟨rfl,rfl⟩
theorem width_E1 (s:ByteArray) (i:Nat) (w:World) (hs:s.size≤1073741824) (hi:i<s.size) (c:UInt8) (hc:s[i]=c) (h:224<(c.toNat:Int)) (h':(c.toNat:Int)<240) (hn:(c.toNat:Int)≠237):WidthGoal s i w:=by
 have W:=@ws_E1 s i hi (by rw[get_lt s i hi,hc];omega) (by rw[get_lt s i hi,hc];omega) (by rw[get_lt s i hi,hc];omega)
 unfold WidthGoal
 have ql128:decide ((c.toNat:Int)<128)=false:=decide_eq_false (by omega)
 have ql194:decide ((c.toNat:Int)<194)=false:=decide_eq_false (by omega)
 have qg244:decide (244<(c.toNat:Int))=false:=decide_eq_false (by omega)
 have ql224:decide ((c.toNat:Int)<224)=false:=decide_eq_false (by omega)
 have qe224:((c.toNat:Int) == 224)=false:=beq_eq_false_iff_ne.2 (by omega)
 have qe237:((c.toNat:Int) == 237)=false:=beq_eq_false_iff_ne.2 (by omega)
 have qe240:((c.toNat:Int) == 240)=false:=beq_eq_false_iff_ne.2 (by omega)
 have qe244:((c.toNat:Int) == 244)=false:=beq_eq_false_iff_ne.2 (by omega)
 have ql240:decide ((c.toNat:Int)<240)=true:=decide_eq_true (by omega)
 clear h
 clear h'
 clear hn
 cases m1:moreB s (i+1) 128 191 with
 |false=>
  have z1:moreZ s (↑i+1) 128 191=false:=m1
  have W0:widthS s i=0:=by rw[W,m1];simp
  rw[W0]
  clear W W0 m1
  go_enter Tryz.func172,Tryz.ntmps172
  go_wp2_with (go_at_call 188;refine(more_any s _ _ _ _ (by omega) (by omega) (by omega)).mono ?_;rintro e w' ⟨rfl,rfl⟩)
  go_ret
  exact⟨rfl,rfl⟩
 |true=>
  have z1:moreZ s (↑i+1) 128 191=true:=m1
  cases m2:moreB s (i+2) 128 191 with
  |false=>
   have z2:moreZ s (↑i+2) 128 191=false:=m2
   have W0:widthS s i=0:=by rw[W,m2];simp
   rw[W0]
   clear W W0 m1 m2
   go_enter Tryz.func172,Tryz.ntmps172
   go_wp2_with (go_at_call 188;refine(more_any s _ _ _ _ (by omega) (by omega) (by omega)).mono ?_;rintro e w' ⟨rfl,rfl⟩)
   go_ret
   exact⟨rfl,rfl⟩
  |true=>
   have z2:moreZ s (↑i+2) 128 191=true:=m2
   have W0:widthS s i=3:=by rw[W,m1,m2];rfl
   rw[W0]
   clear W W0 m1 m2
   go_enter Tryz.func172,Tryz.ntmps172
   go_wp2_with (go_at_call 188;refine(more_any s _ _ _ _ (by omega) (by omega) (by omega)).mono ?_;rintro e w' ⟨rfl,rfl⟩)
   go_ret
   exact⟨rfl,rfl⟩
theorem width_F1 (s:ByteArray) (i:Nat) (w:World) (hs:s.size≤1073741824) (hi:i<s.size) (c:UInt8) (hc:s[i]=c) (h:240<(c.toNat:Int)) (h':(c.toNat:Int)<244):WidthGoal s i w:=by
 have W:=@ws_F1 s i hi (by rw[get_lt s i hi,hc];omega) (by rw[get_lt s i hi,hc];omega)
 unfold WidthGoal
 have ql128:decide ((c.toNat:Int)<128)=false:=decide_eq_false (by omega)
 have ql194:decide ((c.toNat:Int)<194)=false:=decide_eq_false (by omega)
 have qg244:decide (244<(c.toNat:Int))=false:=decide_eq_false (by omega)
 have ql224:decide ((c.toNat:Int)<224)=false:=decide_eq_false (by omega)
 have qe224:((c.toNat:Int) == 224)=false:=beq_eq_false_iff_ne.2 (by omega)
 have qe237:((c.toNat:Int) == 237)=false:=beq_eq_false_iff_ne.2 (by omega)
 have qe240:((c.toNat:Int) == 240)=false:=beq_eq_false_iff_ne.2 (by omega)
 have qe244:((c.toNat:Int) == 244)=false:=beq_eq_false_iff_ne.2 (by omega)
 have ql240:decide ((c.toNat:Int)<240)=false:=decide_eq_false (by omega)
 clear h
 clear h'
 cases m1:moreB s (i+1) 128 191 with
 |false=>
  have z1:moreZ s (↑i+1) 128 191=false:=m1
  have W0:widthS s i=0:=by rw[W,m1];simp
  rw[W0]
  clear W W0 m1
  go_enter Tryz.func172,Tryz.ntmps172
  go_wp2_with (go_at_call 188;refine(more_any s _ _ _ _ (by omega) (by omega) (by omega)).mono ?_;rintro e w' ⟨rfl,rfl⟩)
  go_ret
  exact⟨rfl,rfl⟩
 |true=>
  have z1:moreZ s (↑i+1) 128 191=true:=m1
  cases m2:moreB s (i+2) 128 191 with
  |false=>
   have z2:moreZ s (↑i+2) 128 191=false:=m2
   have W0:widthS s i=0:=by rw[W,m2];simp
   rw[W0]
   clear W W0 m1 m2
   go_enter Tryz.func172,Tryz.ntmps172
   go_wp2_with (go_at_call 188;refine(more_any s _ _ _ _ (by omega) (by omega) (by omega)).mono ?_;rintro e w' ⟨rfl,rfl⟩)
   go_ret
   exact⟨rfl,rfl⟩
  |true=>
   have z2:moreZ s (↑i+2) 128 191=true:=m2
   cases m3:moreB s (i+3) 128 191 with
   |false=>
    have z3:moreZ s (↑i+3) 128 191=false:=m3
    have W0:widthS s i=0:=by rw[W,m3];simp
    rw[W0]
    clear W W0 m1 m2 m3
    go_enter Tryz.func172,Tryz.ntmps172
    go_wp2_with (go_at_call 188;refine(more_any s _ _ _ _ (by omega) (by omega) (by omega)).mono ?_;rintro e w' ⟨rfl,rfl⟩)
    go_ret
    exact⟨rfl,rfl⟩
   |true=>
    have z3:moreZ s (↑i+3) 128 191=true:=m3
    have W0:widthS s i=4:=by rw[W,m1,m2,m3];rfl
    rw[W0]
    clear W W0 m1 m2 m3
    go_enter Tryz.func172,Tryz.ntmps172
    go_wp2_with (go_at_call 188;refine(more_any s _ _ _ _ (by omega) (by omega) (by omega)).mono ?_;rintro e w' ⟨rfl,rfl⟩)
    go_ret
    exact⟨rfl,rfl⟩
theorem width_any (s:ByteArray) (i:Nat) (w:World) (hs:s.size≤1073741824) (hi:i<s.size):WidthGoal s i w:=by
 obtain⟨c,hc⟩:∃ c,s[i]=c:=⟨_,rfl⟩
 have hb:c.toNat<256:=UInt8.toNat_lt _
 by_cases a:(c.toNat:Int)<128
 ·exact width_ascii s i w hi c hc a
 by_cases b:(c.toNat:Int)<194
 ·exact width_low s i w hi c hc (by omega) b
 by_cases d:244<(c.toNat:Int)
 ·exact width_high s i w hi c hc d
 by_cases g:(c.toNat:Int)<224
 ·exact width_two s i w hs hi c hc (by omega) g
 by_cases e0:(c.toNat:Int)=224
 ·exact width_E0 s i w hs hi c hc e0
 by_cases ed:(c.toNat:Int)=237
 ·exact width_ED s i w hs hi c hc ed
 by_cases e1:(c.toNat:Int)<240
 ·exact width_E1 s i w hs hi c hc (by omega) e1 ed
 by_cases f0:(c.toNat:Int)=240
 ·exact width_F0 s i w hs hi c hc f0
 by_cases f4:(c.toNat:Int)=244
 ·exact width_F4 s i w hs hi c hc f4
 ·exact width_F1 s i w hs hi c hc (by omega) (by omega)
open Go.RowKit Go.Lib
theorem three_bytes (s:ByteArray) (i:Nat) (h:i+2<s.size):(s.extract i (i+3)).toList=[s.get! i,s.get! (i+1),s.get! (i+2)]:=by
 rw[Lib.toList_data,extract_data,get_lt s i (by omega),get_lt s (i+1) (by omega),get_lt s (i+2) (by omega)]
 have hl:s.data.toList.length=s.size:=by rw[Array.length_toList];rfl
 rw[show i+3 - i=3 by omega,List.drop_eq_getElem_cons (by omega),List.take_succ_cons,List.drop_eq_getElem_cons (by omega),List.take_succ_cons,List.drop_eq_getElem_cons (by omega),List.take_succ_cons,List.take_zero]
 rfl
theorem wide_mark {s:ByteArray} {i:Nat} (h:runeAt s i=65279):wideAt s i=3:=by
 obtain⟨a,b,c,d⟩:=mark_iff.1 h
 unfold wideAt
 rw[decode_bytes,b,c,d]
 unfold decodeN
 rw[if_neg (by omega),if_neg (by omega),if_pos (by omega),if_pos (by omega)]
theorem mark_yes {s:ByteArray} {i:Nat} (hw:widthS s i≠0) (h:runeAt s i=65279):((s.extract i (i+widthS s i)).toList == [239,187,191])=true:=by
 have hwd:=wide_mark h
 obtain⟨a,b,c,d⟩:=mark_iff.1 h
 rw[← (wide_good hw).1,hwd,three_bytes s i (by omega)]
 rw[beq_iff_eq]
 have e1:s.get! i=239:=UInt8.toNat_inj.1 b
 have e2:s.get! (i+1)=187:=UInt8.toNat_inj.1 c
 have e3:s.get! (i+2)=191:=UInt8.toNat_inj.1 d
 rw[e1,e2,e3]
theorem mark_no {s:ByteArray} {i:Nat} (hi:i<s.size) (hw:widthS s i≠0) (h:runeAt s i≠65279):((s.extract i (i+widthS s i)).toList == [239,187,191])=false:=by
 rw[beq_eq_false_iff_ne]
 intro e
 have hle:=wide_le s i hi
 rw[(wide_good hw).1] at hle
 have hl:s.data.toList.length=s.size:=by rw[Array.length_toList];rfl
 have hlen:widthS s i=3:=by
  have:=congrArg List.length e
  rw[Lib.toList_data,extract_data] at this
  simp only[List.length_take,List.length_drop,List.length_cons,List.length_nil] at this
  omega
 rw[hlen] at e hle
 rw[three_bytes s i (by omega)] at e
 simp only[List.cons.injEq,and_true] at e
 refine h (mark_iff.2 ⟨by omega,?_,?_,?_⟩)
 ·rw[e.1];rfl
 ·rw[e.2.1];rfl
 ·rw[e.2.2];rfl
theorem code_nul {s:ByteArray} {i:Nat} (hw:widthS s i≠0) (h:(s.get! i).toNat=0):codeAt s i=102∧widthS s i=1:=by
 have hr:=nul_iff.2 h
 have hg:=wide_good hw
 refine⟨?_,?_⟩
 ·unfold codeAt faultZ
  rw[if_neg (by omega),if_pos (by omega)]
 ·exact ws_ascii (by omega)
theorem code_none {s:ByteArray} {i:Nat} (hw:widthS s i≠0) (h0:(s.get! i).toNat≠0) (h:runeAt s i≠65279∨i=0):codeAt s i=0:=by
 have hg:=wide_good hw
 have hr:runeAt s i≠0:=fun e=>h0 (nul_iff.1 e)
 unfold codeAt faultZ
 rw[if_neg (by omega),if_neg (by omega),if_neg (by omega)]
open Go.RowKit
theorem width_is {s:ByteArray} {i n:Nat} {z:Int} (w:World) (hs:s.size≤1073741824) (hi:i<s.size) (h:widthS s i=n) (hz:z=n) :
  Calls Tryz.prog 172 #[.string s,.int .i64 i] w fun e w'=>e=.returned (.int .i64 z)∧w=w':=by
 have:=width_any s i w hs hi
 unfold WidthGoal at this
 rw[h] at this
 rw[hz]
 exact this
end Go.Proofs.YtcekbbkidipbnaaGreat.dec
