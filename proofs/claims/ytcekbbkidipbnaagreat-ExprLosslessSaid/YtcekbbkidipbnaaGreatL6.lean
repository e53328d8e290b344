/-
  Texts put together: Ha, Hb, Hc, He, Hj, Hg.
-/
import Derived.Test.YtcekbbkidipbnaaGreatL5
set_option maxRecDepth 100000
set_option maxHeartbeats 8000000
namespace Go.Proofs.YtcekbbkidipbnaaGreat.rd
open Go.RowKit
def P0 (f n:Nat) (p:Pc):Prop:=∀ (C:Kc) (w:World) (b:Nat) (x y:Res),Hid (CAt C w b x)→Hid (run n p x=some y)→Calls Tryz.prog f #[.pointer (some ⟨b,0,none⟩)] w (CPost C b y)
def PB (f n:Nat) (p:Bool→Pc):Prop:=∀ (C:Kc) (w:World) (b:Nat) (x y:Res) (h:Bool),Hid (CAt C w b x)→Hid (run n (p h) x=some y)→Calls Tryz.prog f #[.pointer (some ⟨b,0,none⟩),.bool h] w (CPost C b y)
def PM (f n:Nat) (p:Nat→Pc):Prop:=∀ (C:Kc) (w:World) (b:Nat) (x y:Res) (m:Int) (m':Nat),Hid (CAt C w b x)→(x.bad=false→m=(m':Int))→(x.bad=false→C.low≤m')→Hid (run n (p m') x=some y)→Calls Tryz.prog f #[.pointer (some ⟨b,0,none⟩),.int .i64 m] w (CPost C b y)
def PBin (f n:Nat):Prop:=∀ (C:Kc) (w:World) (b:Nat) (x y:Res) (p:Int) (h:Bool),Hid (CAt C w b x)→Hid (run n (.binary p h) x=some y)→Calls Tryz.prog f #[.pointer (some ⟨b,0,none⟩),.bool h,.int .i64 p] w (CPost C b y)
def PArr (f n:Nat):Prop:=∀ (C:Kc) (w:World) (b:Nat) (s:St) (y:Res),Hid (CAt C w b (.ok s))→Hid (run n (.array s.R.length) (.ok s)=some y)→Calls Tryz.prog f #[.pointer (some ⟨b,0,none⟩)] w (CPost C b y)
def PVal (f n:Nat):Prop:=∀ (C:Kc) (w:World) (b:Nat) (x z y:Res) (m m' k:Int),Hid (CAt C w b x)→(x.bad=false→m=m')→(x.bad=false→(C.low:Int)≤m')→Hid (run n .values x=some z)→Hid (rClose m' k z=some y)→Calls Tryz.prog f #[.pointer (some ⟨b,0,none⟩),.int .i64 m,.int .i64 k] w (CPost C b y)
def PUni (f n:Nat):Prop:=∀ (C:Kc) (w:World) (b:Nat) (x z y:Res),Hid (CAt C w b x)→Hid (run n .term x=some z)→Hid (run n .unionL z=some y)→Calls Tryz.prog f #[.pointer (some ⟨b,0,none⟩)] w fun e w'=>∃ c:Int,e=.returned (.int .i64 c)∧Hid (CAt C w' b y)∧(y.bad=false→decide (1<c)=(z.kind == 26))
structure AllC (n:Nat):Prop where
 X:PB 22 n .X
 unary:PB 113 n .unary
 primary:PB 137 n .primary
 binary:PBin 71 n
 period:PM 154 n .period
 index:PM 155 n .index
 cut:PM 176 n .cut
 call:PM 156 n .call
 value:P0 190 n .value
 operand:P0 153 n .operand
 flat:P0 189 n .flat
 type:P0 23 n .type
 field:P0 79 n .field
 element:P0 81 n .element
 term:P0 140 n .term
 sig:P0 24 n .sig
 params:P0 53 n .params
 group:P0 82 n .group
 values:PVal 158 n
 array:PArr 75 n
theorem Res.kind_fail (a b c:Int):(Res.fail a b c).kind=0:=rfl
section
variable {C:Kc} {w:World} {b:Nat} {x y:Res}
theorem cname_at (h:Hid (CAt C w b x)) (hy:Hid (rName x=some y)):Calls Tryz.prog 47 #[.pointer (some ⟨b,0,none⟩)] w (CPost C b y):=by
 have hy:=hy.out
 cases x with
 |fail d0 d1 d2=>
  obtain rfl:=Option.some.inj hy
  clear hy
  have hk0:(Res.fail d0 d1 d2).kind=0:=rfl
  all_goals go_enter Tryz.func47,Tryz.ntmps47
  all_goals go_wp2_with (first|(go_at_call 61;first|(refine(cmark_at ‹_›).mono ?_;rintro e w' ⟨rfl,rfl⟩)|(refine(cmark_bad ‹_›).mono ?_;rintro e w' ⟨⟨v,_,rfl⟩,rfl⟩))|(go_at_call 33;refine(cexpect_at ‹_› _ (by first|with_reducible assumption|exact Lib.hid rfl|assumption|exact run_hid _ _ _ _ _)).mono ?_;rintro e w' ⟨rfl,hat⟩)|(go_at_call 37;refine(cclose_at _ _ _ _ _ _ _ _ ‹_› (by first|exact fun _=>rfl|assumption|exact fun hb=>by cases hb) (by first|exact fun _=>low_ok ‹_›|(intro _;omega)|(intro hb;cases hb;done)|assumption) (by first|with_reducible assumption|exact Lib.hid rfl|assumption|exact run_hid _ _ _ _ _)).mono ?_;rintro e w' ⟨v,rfl,hat⟩))
  all_goals(first|go_end0|go_ret)
  all_goals exact⟨_,rfl,by assumption⟩
 |ok s=>
  unfold rName at hy
  try dsimp only at hy
  iterate 16 (all_goals try(first|split at hy|(rw[bind_iff] at hy;obtain⟨z,hz,hy⟩:=hy;try(rw[some_hid] at hz;subst hz))))
  all_goals(first|(obtain rfl:=Option.some.inj hy)|(replace hy:=Lib.hid hy))
  iterate 2 (all_goals try(rename _∧_=>ho;obtain⟨_,_⟩:=ho))
  iterate 7 (all_goals try(rename _∨_=>ho;rcases ho with ho|ho))
  all_goals(repeat (rename ¬ (_∨_)=>ho;rw[not_or] at ho;obtain⟨_,_⟩:=ho))
  all_goals go_enter Tryz.func47,Tryz.ntmps47
  all_goals go_wp2_with (first|(go_at_call 61;first|(refine(cmark_at ‹_›).mono ?_;rintro e w' ⟨rfl,rfl⟩)|(refine(cmark_bad ‹_›).mono ?_;rintro e w' ⟨⟨v,_,rfl⟩,rfl⟩))|(go_at_call 33;refine(cexpect_at ‹_› _ (by first|with_reducible assumption|exact Lib.hid rfl|assumption|exact run_hid _ _ _ _ _)).mono ?_;rintro e w' ⟨rfl,hat⟩)|(go_at_call 37;refine(cclose_at _ _ _ _ _ _ _ _ ‹_› (by first|exact fun _=>rfl|assumption|exact fun hb=>by cases hb) (by first|exact fun _=>low_ok ‹_›|(intro _;omega)|(intro hb;cases hb;done)|assumption) (by first|with_reducible assumption|exact Lib.hid rfl|assumption|exact run_hid _ _ _ _ _)).mono ?_;rintro e w' ⟨v,rfl,hat⟩))
  all_goals(first|go_end0|go_ret)
  all_goals exact⟨_,rfl,by assumption⟩
theorem cqualified_at (h:Hid (CAt C w b x)) (hy:Hid (rQualified x=some y)):Calls Tryz.prog 115 #[.pointer (some ⟨b,0,none⟩)] w (CPost C b y):=by
 have hy:=hy.out
 cases x with
 |fail d0 d1 d2=>
  obtain rfl:=Option.some.inj hy
  clear hy
  have hk0:(Res.fail d0 d1 d2).kind=0:=rfl
  all_goals go_enter Tryz.func115,Tryz.ntmps115
  all_goals go_wp2_with (first|(go_at_call 61;first|(refine(cmark_at ‹_›).mono ?_;rintro e w' ⟨rfl,rfl⟩)|(refine(cmark_bad ‹_›).mono ?_;rintro e w' ⟨⟨v,_,rfl⟩,rfl⟩))|(go_at_call 47;refine(cname_at ‹_› (by first|with_reducible assumption|exact Lib.hid rfl|assumption|exact run_hid _ _ _ _ _)).mono ?_;rintro e w' ⟨v,rfl,hat⟩)|(go_at_call 83;first|(refine(ccame_yes ‹_› ‹_› (by first|with_reducible assumption|exact Lib.hid rfl|assumption|exact run_hid _ _ _ _ _)).mono ?_;rintro e w' ⟨rfl,hat⟩)|(refine(ccame_no ‹_› ?hno).mono ?_;(case hno=>first|assumption|rfl|simp [*]);rintro e w' ⟨rfl,hat⟩))|(go_at_call 37;refine(cclose_at _ _ _ _ _ _ _ _ ‹_› (by first|exact fun _=>rfl|assumption|exact fun hb=>by cases hb) (by first|exact fun _=>low_ok ‹_›|(intro _;omega)|(intro hb;cases hb;done)|assumption) (by first|with_reducible assumption|exact Lib.hid rfl|assumption|exact run_hid _ _ _ _ _)).mono ?_;rintro e w' ⟨v,rfl,hat⟩))
  all_goals(first|go_end0|go_ret)
  all_goals exact⟨_,rfl,by assumption⟩
 |ok s=>
  unfold rQualified at hy
  try dsimp only at hy
  iterate 16 (all_goals try(first|split at hy|(rw[bind_iff] at hy;obtain⟨z,hz,hy⟩:=hy;try(rw[some_hid] at hz;subst hz))))
  all_goals(first|(obtain rfl:=Option.some.inj hy)|(replace hy:=Lib.hid hy))
  iterate 2 (all_goals try(rename _∧_=>ho;obtain⟨_,_⟩:=ho))
  iterate 7 (all_goals try(rename _∨_=>ho;rcases ho with ho|ho))
  all_goals(repeat (rename ¬ (_∨_)=>ho;rw[not_or] at ho;obtain⟨_,_⟩:=ho))
  all_goals go_enter Tryz.func115,Tryz.ntmps115
  all_goals go_wp2_with (first|(go_at_call 61;first|(refine(cmark_at ‹_›).mono ?_;rintro e w' ⟨rfl,rfl⟩)|(refine(cmark_bad ‹_›).mono ?_;rintro e w' ⟨⟨v,_,rfl⟩,rfl⟩))|(go_at_call 47;refine(cname_at ‹_› (by first|with_reducible assumption|exact Lib.hid rfl|assumption|exact run_hid _ _ _ _ _)).mono ?_;rintro e w' ⟨v,rfl,hat⟩)|(go_at_call 83;first|(refine(ccame_yes ‹_› ‹_› (by first|with_reducible assumption|exact Lib.hid rfl|assumption|exact run_hid _ _ _ _ _)).mono ?_;rintro e w' ⟨rfl,hat⟩)|(refine(ccame_no ‹_› ?hno).mono ?_;(case hno=>first|assumption|rfl|simp [*]);rintro e w' ⟨rfl,hat⟩))|(go_at_call 37;refine(cclose_at _ _ _ _ _ _ _ _ ‹_› (by first|exact fun _=>rfl|assumption|exact fun hb=>by cases hb) (by first|exact fun _=>low_ok ‹_›|(intro _;omega)|(intro hb;cases hb;done)|assumption) (by first|with_reducible assumption|exact Lib.hid rfl|assumption|exact run_hid _ _ _ _ _)).mono ?_;rintro e w' ⟨v,rfl,hat⟩))
  all_goals(first|go_end0|go_ret)
  all_goals exact⟨_,rfl,by assumption⟩
end
open Go.RowKit
theorem cX_f:∀ (C:Kc) (w:World) (b:Nat) (d0 d1 d2:Int) (h:Bool),Hid (CAt C w b (.fail d0 d1 d2))→Calls Tryz.prog 22 #[.pointer (some ⟨b,0,none⟩),.bool h] w (CPost C b (.fail d0 d1 d2)):=by
 intro C w b d0 d1 d2 h hat
 have hk0:(Res.fail d0 d1 d2).kind=0:=rfl
 go_enter Tryz.func22,Tryz.ntmps22
 go_wp2_with (first|(go_at_call 41;refine(cdown_at ‹_› (by first|with_reducible assumption|exact Lib.hid rfl|assumption|exact run_hid _ _ _ _ _)).mono ?_;rintro e w' ⟨rfl,hat⟩))
 all_goals(first|go_end0|go_ret)
 all_goals exact⟨_,rfl,by assumption⟩
theorem cinside_f:∀ (C:Kc) (w:World) (b:Nat) (d0 d1 d2:Int),Hid (CAt C w b (.fail d0 d1 d2))→Calls Tryz.prog 139 #[.pointer (some ⟨b,0,none⟩)] w (CPost C b (.fail d0 d1 d2)):=by
 intro C w b d0 d1 d2 hat
 have hk0:(Res.fail d0 d1 d2).kind=0:=rfl
 go_enter Tryz.func139,Tryz.ntmps139
 go_wp2_with (first|(go_at_call 22;refine(cX_f _ _ _ _ _ _ _ ‹_›).mono ?_;rintro e w' ⟨v,rfl,hat⟩))
 all_goals(first|go_end0|go_ret)
 all_goals exact⟨_,rfl,by assumption⟩
theorem cType_f:∀ (C:Kc) (w:World) (b:Nat) (d0 d1 d2:Int),Hid (CAt C w b (.fail d0 d1 d2))→Calls Tryz.prog 23 #[.pointer (some ⟨b,0,none⟩)] w (CPost C b (.fail d0 d1 d2)):=by
 intro C w b d0 d1 d2 hat
 have hk0:(Res.fail d0 d1 d2).kind=0:=rfl
 go_enter Tryz.func23,Tryz.ntmps23
 go_wp2_with (first|(go_at_call 41;refine(cdown_at (by first|assumption|exact CAt.alloc ‹_› _) (by first|with_reducible assumption|exact Lib.hid rfl|assumption|exact run_hid _ _ _ _ _)).mono ?_;rintro e w' ⟨rfl,hat⟩))
 all_goals(first|go_end0|go_ret)
 all_goals exact⟨_,rfl,by assumption⟩
theorem coperand_f:∀ (C:Kc) (w:World) (b:Nat) (d0 d1 d2:Int),Hid (CAt C w b (.fail d0 d1 d2))→Calls Tryz.prog 153 #[.pointer (some ⟨b,0,none⟩)] w (CPost C b (.fail d0 d1 d2)):=by
 intro C w b d0 d1 d2 hat
 have hk0:(Res.fail d0 d1 d2).kind=0:=rfl
 go_enter Tryz.func153,Tryz.ntmps153
 go_wp2_with (first|(go_at_call 61;first|(refine(cmark_at ‹_›).mono ?_;rintro e w' ⟨rfl,rfl⟩)|(refine(cmark_bad ‹_›).mono ?_;rintro e w' ⟨⟨v,_,rfl⟩,rfl⟩))|(go_at_call 57;first|(refine(ckind_is ‹_› ‹_›).mono ?_;rintro e w' ⟨rfl,hat⟩)|(refine(ckind_at ‹_›).mono ?_;rintro e w' ⟨rfl,hat⟩))|(go_at_call 45;refine(cfail_at ‹_› _ (by first|with_reducible assumption|exact Lib.hid rfl|assumption|exact run_hid _ _ _ _ _)).mono ?_;rintro e w' ⟨v,rfl,hat⟩))
 all_goals(first|go_end0|go_ret)
 all_goals exact⟨_,rfl,by assumption⟩
theorem cprimary_f:∀ (C:Kc) (w:World) (b:Nat) (d0 d1 d2:Int) (h:Bool),Hid (CAt C w b (.fail d0 d1 d2))→Calls Tryz.prog 137 #[.pointer (some ⟨b,0,none⟩),.bool h] w (CPost C b (.fail d0 d1 d2)):=by
 intro C w b d0 d1 d2 h hat
 have hk0:(Res.fail d0 d1 d2).kind=0:=rfl
 go_enter Tryz.func137,Tryz.ntmps137
 go_wp2_with (first|(go_at_call 61;first|(refine(cmark_at ‹_›).mono ?_;rintro e w' ⟨rfl,rfl⟩)|(refine(cmark_bad ‹_›).mono ?_;rintro e w' ⟨⟨v,_,rfl⟩,rfl⟩))|(go_at_call 153;refine(coperand_f _ _ _ _ _ _ ‹_›).mono ?_;rintro e w' ⟨v,rfl,hat⟩)|(go_at_call 57;first|(refine(ckind_is ‹_› ‹_›).mono ?_;rintro e w' ⟨rfl,hat⟩)|(refine(ckind_at ‹_›).mono ?_;rintro e w' ⟨rfl,hat⟩)))
 go_step3
 go_wp2_with (first|(go_at_call 61;first|(refine(cmark_at ‹_›).mono ?_;rintro e w' ⟨rfl,rfl⟩)|(refine(cmark_bad ‹_›).mono ?_;rintro e w' ⟨⟨v,_,rfl⟩,rfl⟩))|(go_at_call 153;refine(coperand_f _ _ _ _ _ _ ‹_›).mono ?_;rintro e w' ⟨v,rfl,hat⟩)|(go_at_call 57;first|(refine(ckind_is ‹_› ‹_›).mono ?_;rintro e w' ⟨rfl,hat⟩)|(refine(ckind_at ‹_›).mono ?_;rintro e w' ⟨rfl,hat⟩)))
 go_step3
 go_wp2_with (first|(go_at_call 61;first|(refine(cmark_at ‹_›).mono ?_;rintro e w' ⟨rfl,rfl⟩)|(refine(cmark_bad ‹_›).mono ?_;rintro e w' ⟨⟨v,_,rfl⟩,rfl⟩))|(go_at_call 153;refine(coperand_f _ _ _ _ _ _ ‹_›).mono ?_;rintro e w' ⟨v,rfl,hat⟩)|(go_at_call 57;first|(refine(ckind_is ‹_› ‹_›).mono ?_;rintro e w' ⟨rfl,hat⟩)|(refine(ckind_at ‹_›).mono ?_;rintro e w' ⟨rfl,hat⟩)))
 go_loopw [] (fun wr=>Hid (CAt C wr b (.fail d0 d1 d2))) (fun _=>0)
 case atStart=>assumption
 case round=>
  have hat:=hrel
  go_wp2_with (first|(go_at_call 61;first|(refine(cmark_at ‹_›).mono ?_;rintro e w' ⟨rfl,rfl⟩)|(refine(cmark_bad ‹_›).mono ?_;rintro e w' ⟨⟨v,_,rfl⟩,rfl⟩))|(go_at_call 153;refine(coperand_f _ _ _ _ _ _ ‹_›).mono ?_;rintro e w' ⟨v,rfl,hat⟩)|(go_at_call 57;first|(refine(ckind_is ‹_› ‹_›).mono ?_;rintro e w' ⟨rfl,hat⟩)|(refine(ckind_at ‹_›).mono ?_;rintro e w' ⟨rfl,hat⟩)))
  all_goals(try rw[Exit.noGoto_ret])
  all_goals(first|go_end0|go_ret)
  all_goals exact⟨_,rfl,by assumption⟩
theorem cunary_f:∀ (C:Kc) (w:World) (b:Nat) (d0 d1 d2:Int) (h:Bool),Hid (CAt C w b (.fail d0 d1 d2))→Calls Tryz.prog 113 #[.pointer (some ⟨b,0,none⟩),.bool h] w (CPost C b (.fail d0 d1 d2)):=by
 intro C w b d0 d1 d2 h hat
 have hk0:(Res.fail d0 d1 d2).kind=0:=rfl
 go_enter Tryz.func113,Tryz.ntmps113
 go_wp2_with (first|(go_at_call 57;first|(refine(ckind_is ‹_› ‹_›).mono ?_;rintro e w' ⟨rfl,hat⟩)|(refine(ckind_at ‹_›).mono ?_;rintro e w' ⟨rfl,hat⟩))|(go_at_call 137;refine(cprimary_f _ _ _ _ _ _ _ ‹_›).mono ?_;rintro e w' ⟨v,rfl,hat⟩))
 all_goals(first|go_end0|go_ret)
 all_goals exact⟨_,rfl,by assumption⟩
theorem cbinary_f:∀ (C:Kc) (w:World) (b:Nat) (d0 d1 d2:Int) (p:Int) (h:Bool),Hid (CAt C w b (.fail d0 d1 d2))→Calls Tryz.prog 71 #[.pointer (some ⟨b,0,none⟩),.bool h,.int .i64 p] w (CPost C b (.fail d0 d1 d2)):=by
 intro C w b d0 d1 d2 p h hat
 have hk0:(Res.fail d0 d1 d2).kind=0:=rfl
 go_enter Tryz.func71,Tryz.ntmps71
 go_wp2_with (first|(go_at_call 61;first|(refine(cmark_at ‹_›).mono ?_;rintro e w' ⟨rfl,rfl⟩)|(refine(cmark_bad ‹_›).mono ?_;rintro e w' ⟨⟨v,_,rfl⟩,rfl⟩))|(go_at_call 113;refine(cunary_f _ _ _ _ _ _ _ ‹_›).mono ?_;rintro e w' ⟨v,rfl,hat⟩)|(go_at_call 57;first|(refine(ckind_is ‹_› ‹_›).mono ?_;rintro e w' ⟨rfl,hat⟩)|(refine(ckind_at ‹_›).mono ?_;rintro e w' ⟨rfl,hat⟩))|(go_at_call 114;refine(cPrec_any _ _).mono ?_;rintro e w' ⟨rfl,rfl⟩))
 go_loopw [] (fun wr=>Hid (CAt C wr b (.fail d0 d1 d2))) (fun _=>0)
 case atStart=>assumption
 case round=>
  have hat:=hrel
  go_wp2_with (first|(go_at_call 61;first|(refine(cmark_at ‹_›).mono ?_;rintro e w' ⟨rfl,rfl⟩)|(refine(cmark_bad ‹_›).mono ?_;rintro e w' ⟨⟨v,_,rfl⟩,rfl⟩))|(go_at_call 113;refine(cunary_f _ _ _ _ _ _ _ ‹_›).mono ?_;rintro e w' ⟨v,rfl,hat⟩)|(go_at_call 57;first|(refine(ckind_is ‹_› ‹_›).mono ?_;rintro e w' ⟨rfl,hat⟩)|(refine(ckind_at ‹_›).mono ?_;rintro e w' ⟨rfl,hat⟩))|(go_at_call 114;refine(cPrec_any _ _).mono ?_;rintro e w' ⟨rfl,rfl⟩))
  all_goals(first|go_end0|go_ret)
  all_goals exact⟨_,rfl,by assumption⟩
theorem cvalue_f:∀ (C:Kc) (w:World) (b:Nat) (d0 d1 d2:Int),Hid (CAt C w b (.fail d0 d1 d2))→Calls Tryz.prog 190 #[.pointer (some ⟨b,0,none⟩)] w (CPost C b (.fail d0 d1 d2)):=by
 intro C w b d0 d1 d2 hat
 have hk0:(Res.fail d0 d1 d2).kind=0:=rfl
 go_enter Tryz.func190,Tryz.ntmps190
 go_wp2_with (first|(go_at_call 57;first|(refine(ckind_is ‹_› ‹_›).mono ?_;rintro e w' ⟨rfl,hat⟩)|(refine(ckind_at ‹_›).mono ?_;rintro e w' ⟨rfl,hat⟩))|(go_at_call 139;refine(cinside_f _ _ _ _ _ _ ‹_›).mono ?_;rintro e w' ⟨v,rfl,hat⟩))
 all_goals(first|go_end0|go_ret)
 all_goals exact⟨_,rfl,by assumption⟩
theorem cdotted_f:∀ (C:Kc) (w:World) (b:Nat) (d0 d1 d2:Int),Hid (CAt C w b (.fail d0 d1 d2))→Calls Tryz.prog 129 #[.pointer (some ⟨b,0,none⟩)] w (CPost C b (.fail d0 d1 d2)):=by
 intro C w b d0 d1 d2 hat
 have hk0:(Res.fail d0 d1 d2).kind=0:=rfl
 go_enter Tryz.func129,Tryz.ntmps129
 go_wp2_with (first|(go_at_call 57;first|(refine(ckind_is ‹_› ‹_›).mono ?_;rintro e w' ⟨rfl,hat⟩)|(refine(ckind_at ‹_›).mono ?_;rintro e w' ⟨rfl,hat⟩))|(go_at_call 23;refine(cType_f _ _ _ _ _ _ ‹_›).mono ?_;rintro e w' ⟨v,rfl,hat⟩))
 all_goals(first|go_end0|go_ret)
 all_goals exact⟨_,rfl,by assumption⟩
open Go.RowKit
theorem cinside_at {n:Nat} {C:Kc} {w:World} {b:Nat} {x y:Res} (ih:AllC n) (h:Hid (CAt C w b x)) (hy:Hid (run n (.X false) x=some y)):Calls Tryz.prog 139 #[.pointer (some ⟨b,0,none⟩)] w (CPost C b y):=by
 go_enter Tryz.func139,Tryz.ntmps139
 go_wp2_with (go_at_call 22;refine(ih.X _ _ _ _ _ _ h hy).mono ?_;rintro e w' ⟨v,rfl,hat⟩)
 go_end0
 exact⟨_,rfl,by assumption⟩
theorem cX_s {n:Nat} (ih:∀ k,k≤n→AllC k):PB 22 (n+1) .X:=by
 have _:=ih
 intro C w b x y h hat hy
 have hy:=hy.out
 cases x with
 |fail d0 d1 d2=>
  rw[run_fail] at hy
  obtain rfl:=Option.some.inj hy
  exact cX_f _ _ _ _ _ _ _ hat
 |ok s=>
  have hlo:C.low≤s.R.length:=low_nat hat
  rw[run] at hy
  try dsimp only at hy
  obtain⟨z,hz,hy⟩:=bind_some hy
  cases z with
  |fail a0 a1 a2=>
   simp only[run_fail,rUp_f,Option.bind_eq_bind,Option.bind_some] at hy
   obtain rfl:=Option.some.inj hy
   clear hy
   all_goals go_enter Tryz.func22,Tryz.ntmps22
   all_goals go_wp2_with (first|(go_at_call 41;refine(cdown_at ‹_› (by first|with_reducible assumption|exact Lib.hid rfl|assumption|exact run_hid _ _ _ _ _)).mono ?_;rintro e w' ⟨rfl,hat⟩)|(go_at_call 71;first|(refine((ih _ ?hk).binary _ _ _ _ _ _ _ ‹_› ‹_›).mono ?_;(case hk=>omega);rintro e w' ⟨v,rfl,hat⟩)|(refine(cbinary_f _ _ _ _ _ _ _ _ ‹_›).mono ?_;rintro e w' ⟨v,rfl,hat⟩))|(go_at_call 43;refine(cup_at ‹_› (by first|with_reducible assumption|exact Lib.hid rfl|assumption|exact run_hid _ _ _ _ _)).mono ?_;rintro e w' ⟨v,rfl,hat⟩))
   all_goals(first|go_end0|go_ret)
   all_goals exact⟨_,rfl,by assumption⟩
  |ok t=>
   iterate 16 (all_goals try(first|split at hy|(rw[bind_iff] at hy;obtain⟨z,hz,hy⟩:=hy;try(rw[some_hid] at hz;subst hz))))
   all_goals(first|(obtain rfl:=Option.some.inj hy)|(replace hy:=Lib.hid hy))
   iterate 2 (all_goals try(rename _∧_=>ho;obtain⟨_,_⟩:=ho))
   iterate 7 (all_goals try(rename _∨_=>ho;rcases ho with ho|ho))
   all_goals(repeat (rename ¬ (_∨_)=>ho;rw[not_or] at ho;obtain⟨_,_⟩:=ho))
   all_goals go_enter Tryz.func22,Tryz.ntmps22
   all_goals go_wp2_with (first|(go_at_call 41;refine(cdown_at ‹_› (by first|with_reducible assumption|exact Lib.hid rfl|assumption|exact run_hid _ _ _ _ _)).mono ?_;rintro e w' ⟨rfl,hat⟩)|(go_at_call 71;first|(refine((ih _ ?hk).binary _ _ _ _ _ _ _ ‹_› ‹_›).mono ?_;(case hk=>omega);rintro e w' ⟨v,rfl,hat⟩)|(refine(cbinary_f _ _ _ _ _ _ _ _ ‹_›).mono ?_;rintro e w' ⟨v,rfl,hat⟩))|(go_at_call 43;refine(cup_at ‹_› (by first|with_reducible assumption|exact Lib.hid rfl|assumption|exact run_hid _ _ _ _ _)).mono ?_;rintro e w' ⟨v,rfl,hat⟩))
   all_goals(first|go_end0|go_ret)
   all_goals exact⟨_,rfl,by assumption⟩
theorem coperated_s {n:Nat} (ih:∀ k,k≤n→AllC k) {C:Kc} {w:World} {b:Nat} {s:St} {z1 z2 z3 z4 y:Res} {h:Bool} {k:Int} (hat:Hid (CAt C w b (.ok s))) (h1:Hid (rTake (.ok s)=some z1)) (h2:Hid (rDown z1=some z2)) (h3:Hid (run n (.unary h) z2=some z3)) (h4:Hid (rUp z3=some z4)) (h5:Hid (rClose s.R.length k z4=some y)):Calls Tryz.prog 136 #[.pointer (some ⟨b,0,none⟩),.bool h,.int .i64 k] w (CPost C b y):=by
 have _:=ih
 cases z2 with
 |fail a0 a1 a2=>
  have e3:=h3.out
  rw[run_fail] at e3
  obtain rfl:=Option.some.inj e3
  have e4:=h4.out
  obtain rfl:=Option.some.inj e4
  clear e3 e4
  all_goals go_enter Tryz.func136,Tryz.ntmps136
  all_goals go_wp2_with (first|(go_at_call 61;first|(refine(cmark_at ‹_›).mono ?_;rintro e w' ⟨rfl,rfl⟩)|(refine(cmark_bad ‹_›).mono ?_;rintro e w' ⟨⟨v,_,rfl⟩,rfl⟩))|(go_at_call 31;refine(ctake_at ‹_› (by first|with_reducible assumption|exact Lib.hid rfl|assumption|exact run_hid _ _ _ _ _)).mono ?_;rintro e w' ⟨v,rfl,hat⟩)|(go_at_call 41;refine(cdown_at ‹_› (by first|with_reducible assumption|exact Lib.hid rfl|assumption|exact run_hid _ _ _ _ _)).mono ?_;rintro e w' ⟨rfl,hat⟩)|(go_at_call 113;first|(refine((ih _ ?hk).unary _ _ _ _ _ _ ‹_› ‹_›).mono ?_;(case hk=>omega);rintro e w' ⟨v,rfl,hat⟩)|(refine(cunary_f _ _ _ _ _ _ _ ‹_›).mono ?_;rintro e w' ⟨v,rfl,hat⟩))|(go_at_call 43;refine(cup_at ‹_› (by first|with_reducible assumption|exact Lib.hid rfl|assumption|exact run_hid _ _ _ _ _)).mono ?_;rintro e w' ⟨v,rfl,hat⟩)|(go_at_call 37;refine(cclose_at _ _ _ _ _ _ _ _ ‹_› (by first|exact fun _=>rfl|assumption|exact fun hb=>by cases hb) (by first|exact fun _=>low_ok ‹_›|(intro _;omega)|(intro hb;cases hb;done)|assumption) (by first|with_reducible assumption|exact Lib.hid rfl|assumption|exact run_hid _ _ _ _ _)).mono ?_;rintro e w' ⟨v,rfl,hat⟩))
  all_goals(first|go_end0|go_ret)
  all_goals exact⟨_,rfl,by assumption⟩
 |ok t=>
  all_goals go_enter Tryz.func136,Tryz.ntmps136
  all_goals go_wp2_with (first|(go_at_call 61;first|(refine(cmark_at ‹_›).mono ?_;rintro e w' ⟨rfl,rfl⟩)|(refine(cmark_bad ‹_›).mono ?_;rintro e w' ⟨⟨v,_,rfl⟩,rfl⟩))|(go_at_call 31;refine(ctake_at ‹_› (by first|with_reducible assumption|exact Lib.hid rfl|assumption|exact run_hid _ _ _ _ _)).mono ?_;rintro e w' ⟨v,rfl,hat⟩)|(go_at_call 41;refine(cdown_at ‹_› (by first|with_reducible assumption|exact Lib.hid rfl|assumption|exact run_hid _ _ _ _ _)).mono ?_;rintro e w' ⟨rfl,hat⟩)|(go_at_call 113;first|(refine((ih _ ?hk).unary _ _ _ _ _ _ ‹_› ‹_›).mono ?_;(case hk=>omega);rintro e w' ⟨v,rfl,hat⟩)|(refine(cunary_f _ _ _ _ _ _ _ ‹_›).mono ?_;rintro e w' ⟨v,rfl,hat⟩))|(go_at_call 43;refine(cup_at ‹_› (by first|with_reducible assumption|exact Lib.hid rfl|assumption|exact run_hid _ _ _ _ _)).mono ?_;rintro e w' ⟨v,rfl,hat⟩)|(go_at_call 37;refine(cclose_at _ _ _ _ _ _ _ _ ‹_› (by first|exact fun _=>rfl|assumption|exact fun hb=>by cases hb) (by first|exact fun _=>low_ok ‹_›|(intro _;omega)|(intro hb;cases hb;done)|assumption) (by first|with_reducible assumption|exact Lib.hid rfl|assumption|exact run_hid _ _ _ _ _)).mono ?_;rintro e w' ⟨v,rfl,hat⟩))
  all_goals(first|go_end0|go_ret)
  all_goals exact⟨_,rfl,by assumption⟩
theorem cunary_s {n:Nat} (ih:∀ k,k≤n→AllC k):PB 113 (n+1) .unary:=by
 have _:=ih
 intro C w b x y h hat hy
 have hy:=hy.out
 cases x with
 |fail d0 d1 d2=>
  rw[run_fail] at hy
  obtain rfl:=Option.some.inj hy
  exact cunary_f _ _ _ _ _ _ _ hat
 |ok s=>
  have hlo:C.low≤s.R.length:=low_nat hat
  rw[run] at hy
  try dsimp only at hy
  iterate 16 (all_goals try(first|split at hy|(rw[bind_iff] at hy;obtain⟨z,hz,hy⟩:=hy;try(rw[some_hid] at hz;subst hz))))
  all_goals(first|(obtain rfl:=Option.some.inj hy)|(replace hy:=Lib.hid hy))
  iterate 2 (all_goals try(rename _∧_=>ho;obtain⟨_,_⟩:=ho))
  iterate 7 (all_goals try(rename _∨_=>ho;rcases ho with ho|ho))
  all_goals(repeat (rename ¬ (_∨_)=>ho;rw[not_or] at ho;obtain⟨_,_⟩:=ho))
  all_goals(try have e20:((Res.ok s).kind == 20)=false:=by simp [*])
  all_goals(try have e21:((Res.ok s).kind == 21)=false:=by simp [*])
  all_goals(try have e50:((Res.ok s).kind == 50)=false:=by simp [*])
  all_goals(try have e27:((Res.ok s).kind == 27)=false:=by simp [*])
  all_goals(try have e25:((Res.ok s).kind == 25)=false:=by simp [*])
  all_goals(try have e22:((Res.ok s).kind == 22)=false:=by simp [*])
  all_goals go_enter Tryz.func113,Tryz.ntmps113
  all_goals go_wp2_with (first|(go_at_call 57;first|(refine(ckind_is ‹_› ‹_›).mono ?_;rintro e w' ⟨rfl,hat⟩)|(refine(ckind_at ‹_›).mono ?_;rintro e w' ⟨rfl,hat⟩))|(go_at_call 137;first|(refine((ih _ ?hk).primary _ _ _ _ _ _ ‹_› ‹_›).mono ?_;(case hk=>omega);rintro e w' ⟨v,rfl,hat⟩)|(refine(cprimary_f _ _ _ _ _ _ _ ‹_›).mono ?_;rintro e w' ⟨v,rfl,hat⟩))|(go_at_call 136;refine(coperated_s (n:=n) (fun k hk=>ih k (by omega)) ‹_› ‹_› ‹_› ‹_› ‹_› ‹_›).mono ?_;rintro e w' ⟨v,rfl,hat⟩))
  all_goals(first|go_end0|go_ret)
  all_goals exact⟨_,rfl,by assumption⟩
open Go.RowKit
theorem rNone_kind {x z:Res} (h:Hid (rNone x=some z)):z.kind=x.kind:=by
 have h:=h.out
 cases x with
 |fail a b c=>obtain rfl:=Option.some.inj h;rfl
 |ok s=>obtain⟨rfl,_⟩:=chk_ok h;rfl
theorem rNone_fail {x z y:Res} (h:Hid (rNone x=some z)) (c:Int) (hy:rFail c z=some y):rFail c x=some y:=by
 have h:=h.out
 cases x with
 |fail a b c=>obtain rfl:=Option.some.inj h;exact hy
 |ok s=>obtain⟨rfl,_⟩:=chk_ok h;exact hy
theorem rExpect_take {x y:Res} {k:Int} (hk:x.kind=k) (h0:k≠0) (h:Hid (rTake x=some y)):Hid (rExpect k x=some y):=by
 have h:=h.out
 cases x with
 |fail a b c=>exact absurd hk.symm h0
 |ok s=>
  refine Lib.hid ?_
  unfold rExpect lift St.expect
  simp only[]
  rw[if_pos ⟨h0,hk⟩]
  exact h
theorem inside_enters:Enters Tryz.prog 139:=enters_of Tryz.func139 (by kernel_rfl) rfl
theorem ccloseX_s {n:Nat} {C:Kc} {w:World} {b:Nat} {x z y:Res} (hat:Hid (CAt C w b x)) (h1:Hid (run n .idxL x=some z)) (h2:Hid (rExpect 63 z=some y)) (ih:∀ k,k≤n→AllC k):Calls Tryz.prog 116 #[.pointer (some ⟨b,0,none⟩),.func (.func 139) #[.pointer (some ⟨b,0,none⟩)] #[]] w (CPost C b y):=
 closeList_any (p:=.idxL) (n:=n) (g:=fun k=>run k (.X false)) inside_enters (fun k hk w x y h hy=>by rw[Array.append_empty];exact cinside_at (ih k hk) h hy) (fun k s=>by rw[run]) hat h1 h2
theorem ckeyed_s {n:Nat} {C:Kc} {w:World} {b:Nat} {s:St} {z:Res} {y:Res} (hat:Hid (CAt C w b (.ok s))) (h1:Hid (run n .value (.ok s)=some z)) (h2:Hid ((if z.kind=65 then(rTake z >>= fun u=>run n .value u >>= fun v=>rClose s.R.length 215 v) else some z)=some y)) (ih:∀ k,k≤n→AllC k):Calls Tryz.prog 177 #[.pointer (some ⟨b,0,none⟩)] w (CPost C b y):=by
 have _:=ih
 have hy:=h2.out
 clear h2
 iterate 16 (all_goals try(first|split at hy|(rw[bind_iff] at hy;obtain⟨z,hz,hy⟩:=hy;try(rw[some_hid] at hz;subst hz))))
 all_goals(first|(obtain rfl:=Option.some.inj hy)|(replace hy:=Lib.hid hy))
 iterate 2 (all_goals try(rename _∧_=>ho;obtain⟨_,_⟩:=ho))
 iterate 7 (all_goals try(rename _∨_=>ho;rcases ho with ho|ho))
 all_goals(repeat (rename ¬ (_∨_)=>ho;rw[not_or] at ho;obtain⟨_,_⟩:=ho))
 all_goals go_enter Tryz.func177,Tryz.ntmps177
 all_goals go_wp2_with (first|(go_at_call 61;first|(refine(cmark_at ‹_›).mono ?_;rintro e w' ⟨rfl,rfl⟩)|(refine(cmark_bad ‹_›).mono ?_;rintro e w' ⟨⟨v,_,rfl⟩,rfl⟩))|(go_at_call 190;first|(refine((ih _ ?hk).value _ _ _ _ _ ‹_› ‹_›).mono ?_;(case hk=>omega);rintro e w' ⟨v,rfl,hat⟩)|(refine(cvalue_f _ _ _ _ _ _ ‹_›).mono ?_;rintro e w' ⟨v,rfl,hat⟩))|(go_at_call 83;first|(refine(ccame_yes ‹_› ‹_› (by first|with_reducible assumption|exact Lib.hid rfl|assumption|exact run_hid _ _ _ _ _)).mono ?_;rintro e w' ⟨rfl,hat⟩)|(refine(ccame_no ‹_› ?hno).mono ?_;(case hno=>first|assumption|rfl|simp [*]);rintro e w' ⟨rfl,hat⟩))|(go_at_call 37;refine(cclose_at _ _ _ _ _ _ _ _ ‹_› (by first|exact fun _=>rfl|assumption|exact fun hb=>by cases hb) (by first|exact fun _=>low_ok ‹_›|(intro _;omega)|(intro hb;cases hb;done)|assumption) (by first|with_reducible assumption|exact Lib.hid rfl|assumption|exact run_hid _ _ _ _ _)).mono ?_;rintro e w' ⟨v,rfl,hat⟩))
 all_goals(first|go_end0|go_ret)
 all_goals exact⟨_,rfl,by assumption⟩
theorem ckeyed_f:∀ (C:Kc) (w:World) (b:Nat) (d0 d1 d2:Int),Hid (CAt C w b (.fail d0 d1 d2))→Calls Tryz.prog 177 #[.pointer (some ⟨b,0,none⟩)] w (CPost C b (.fail d0 d1 d2)):=by
 intro C w b d0 d1 d2 hat
 have hk0:(Res.fail d0 d1 d2).kind=0:=rfl
 go_enter Tryz.func177,Tryz.ntmps177
 go_wp2_with (first|(go_at_call 61;first|(refine(cmark_at ‹_›).mono ?_;rintro e w' ⟨rfl,rfl⟩)|(refine(cmark_bad ‹_›).mono ?_;rintro e w' ⟨⟨v,_,rfl⟩,rfl⟩))|(go_at_call 190;refine(cvalue_f _ _ _ _ _ _ ‹_›).mono ?_;rintro e w' ⟨v,rfl,hat⟩)|(go_at_call 83;first|(refine(ccame_yes ‹_› ‹_› (by first|with_reducible assumption|exact Lib.hid rfl|assumption|exact run_hid _ _ _ _ _)).mono ?_;rintro e w' ⟨rfl,hat⟩)|(refine(ccame_no ‹_› ?hno).mono ?_;(case hno=>first|assumption|rfl|simp [*]);rintro e w' ⟨rfl,hat⟩)))
 all_goals(first|go_end0|go_ret)
 all_goals exact⟨_,rfl,by assumption⟩
open Go.RowKit
theorem cassertion_s {n:Nat} {C:Kc} {w:World} {b:Nat} {s:St} {z:Res} {m:Int} {y:Res} (hat:Hid (CAt C w b (.ok s))) (h1:Hid (rTake (.ok s)=some z)) (hy0:Hid ((if z.kind=89 then(rTake z >>= fun u=>rExpect 62 u >>= fun v=>rClose m 212 v) else(run n .type z >>= fun u=>rExpect 62 u >>= fun v=>rClose m 211 v))=some y)) (hlm:(C.low:Int)≤m) (ih:∀ k,k≤n→AllC k):Calls Tryz.prog 175 #[.pointer (some ⟨b,0,none⟩),.int .i64 m] w (CPost C b y):=by
 have _:=ih
 have hy:=hy0.out
 clear hy0
 iterate 16 (all_goals try(first|split at hy|(rw[bind_iff] at hy;obtain⟨z,hz,hy⟩:=hy;try(rw[some_hid] at hz;subst hz))))
 all_goals(first|(obtain rfl:=Option.some.inj hy)|(replace hy:=Lib.hid hy))
 iterate 2 (all_goals try(rename _∧_=>ho;obtain⟨_,_⟩:=ho))
 iterate 7 (all_goals try(rename _∨_=>ho;rcases ho with ho|ho))
 all_goals(repeat (rename ¬ (_∨_)=>ho;rw[not_or] at ho;obtain⟨_,_⟩:=ho))
 all_goals(try have e89:(z.kind == 89)=false:=by simp [*])
 all_goals go_enter Tryz.func175,Tryz.ntmps175
 all_goals go_wp2_with (first|(go_at_call 31;refine(ctake_at ‹_› (by first|with_reducible assumption|exact Lib.hid rfl|assumption|exact run_hid _ _ _ _ _)).mono ?_;rintro e w' ⟨v,rfl,hat⟩)|(go_at_call 83;first|(refine(ccame_yes ‹_› ‹_› (by first|with_reducible assumption|exact Lib.hid rfl|assumption|exact run_hid _ _ _ _ _)).mono ?_;rintro e w' ⟨rfl,hat⟩)|(refine(ccame_no ‹_› ?hno).mono ?_;(case hno=>first|assumption|rfl|simp [*]);rintro e w' ⟨rfl,hat⟩))|(go_at_call 23;first|(refine((ih _ ?hk).type _ _ _ _ _ ‹_› ‹_›).mono ?_;(case hk=>omega);rintro e w' ⟨v,rfl,hat⟩)|(refine(cType_f _ _ _ _ _ _ ‹_›).mono ?_;rintro e w' ⟨v,rfl,hat⟩))|(go_at_call 33;refine(cexpect_at ‹_› _ (by first|with_reducible assumption|exact Lib.hid rfl|assumption|exact run_hid _ _ _ _ _)).mono ?_;rintro e w' ⟨rfl,hat⟩)|(go_at_call 37;refine(cclose_at _ _ _ _ _ _ _ _ ‹_› (by first|exact fun _=>rfl|assumption|exact fun hb=>by cases hb) (by first|exact fun _=>low_ok ‹_›|(intro _;omega)|(intro hb;cases hb;done)|assumption) (by first|with_reducible assumption|exact Lib.hid rfl|assumption|exact run_hid _ _ _ _ _)).mono ?_;rintro e w' ⟨v,rfl,hat⟩))
 all_goals(first|go_end0|go_ret)
 all_goals exact⟨_,rfl,by assumption⟩
theorem cselection_s {n:Nat} (ih:∀ k,k≤n→AllC k):PM 154 (n+1) .period:=by
 have _:=ih
 intro C w b x y m m' hat hm hlw hy
 have hy:=hy.out
 cases x with
 |fail d0 d1 d2=>
  rw[run_fail] at hy
  obtain rfl:=Option.some.inj hy
  clear hy
  have hk0:(Res.fail d0 d1 d2).kind=0:=rfl
  all_goals go_enter Tryz.func154,Tryz.ntmps154
  all_goals go_wp2_with (first|(go_at_call 31;refine(ctake_at ‹_› (by first|with_reducible assumption|exact Lib.hid rfl|assumption|exact run_hid _ _ _ _ _)).mono ?_;rintro e w' ⟨v,rfl,hat⟩)|(go_at_call 57;first|(refine(ckind_is ‹_› ‹_›).mono ?_;rintro e w' ⟨rfl,hat⟩)|(refine(ckind_at ‹_›).mono ?_;rintro e w' ⟨rfl,hat⟩))|(go_at_call 47;refine(cname_at ‹_› (by first|with_reducible assumption|exact Lib.hid rfl|assumption|exact run_hid _ _ _ _ _)).mono ?_;rintro e w' ⟨v,rfl,hat⟩)|(go_at_call 37;refine(cclose_at _ _ _ _ _ _ _ _ ‹_› (by first|exact fun _=>rfl|assumption|exact fun hb=>by cases hb) (by first|exact fun _=>low_ok ‹_›|(intro _;omega)|(intro hb;cases hb;done)|assumption) (by first|with_reducible assumption|exact Lib.hid rfl|assumption|exact run_hid _ _ _ _ _)).mono ?_;rintro e w' ⟨v,rfl,hat⟩)|(go_at_call 45;refine(cfail_at ‹_› _ (by first|with_reducible assumption|exact Lib.hid rfl|assumption|exact run_hid _ _ _ _ _)).mono ?_;rintro e w' ⟨v,rfl,hat⟩)|(go_at_call 175;refine(cassertion_s ‹_› ‹_› ‹_› (by omega) (fun j hj=>ih j (by omega))).mono ?_;rintro e w' ⟨v,rfl,hat⟩))
  all_goals(first|go_end0|go_ret)
  all_goals exact⟨_,rfl,by assumption⟩
 |ok s=>
  have hlo:C.low≤s.R.length:=low_nat hat
  rw[run] at hy
  try dsimp only at hy
  have hm':=hm rfl
  subst hm'
  clear hm
  have hlm:=hlw rfl
  clear hlw
  rw[bind_iff] at hy
  obtain⟨z1,hz1,hy⟩:=hy
  by_cases h57:z1.kind=57
  ·rw[if_neg (by rw[h57];decide),if_pos h57] at hy
   obtain⟨t,rfl⟩:=ok_of_kind h57 (by decide)
   rw[bind_iff] at hy
   obtain⟨z2,hz2,hy⟩:=hy
   replace hy:=Lib.hid hy
   all_goals go_enter Tryz.func154,Tryz.ntmps154
   all_goals go_wp2_with (first|(go_at_call 31;refine(ctake_at ‹_› (by first|with_reducible assumption|exact Lib.hid rfl|assumption|exact run_hid _ _ _ _ _)).mono ?_;rintro e w' ⟨v,rfl,hat⟩)|(go_at_call 57;first|(refine(ckind_is ‹_› ‹_›).mono ?_;rintro e w' ⟨rfl,hat⟩)|(refine(ckind_at ‹_›).mono ?_;rintro e w' ⟨rfl,hat⟩))|(go_at_call 47;refine(cname_at ‹_› (by first|with_reducible assumption|exact Lib.hid rfl|assumption|exact run_hid _ _ _ _ _)).mono ?_;rintro e w' ⟨v,rfl,hat⟩)|(go_at_call 37;refine(cclose_at _ _ _ _ _ _ _ _ ‹_› (by first|exact fun _=>rfl|assumption|exact fun hb=>by cases hb) (by first|exact fun _=>low_ok ‹_›|(intro _;omega)|(intro hb;cases hb;done)|assumption) (by first|with_reducible assumption|exact Lib.hid rfl|assumption|exact run_hid _ _ _ _ _)).mono ?_;rintro e w' ⟨v,rfl,hat⟩)|(go_at_call 45;refine(cfail_at ‹_› _ (by first|with_reducible assumption|exact Lib.hid rfl|assumption|exact run_hid _ _ _ _ _)).mono ?_;rintro e w' ⟨v,rfl,hat⟩)|(go_at_call 175;refine(cassertion_s ‹_› ‹_› ‹_› (by omega) (fun j hj=>ih j (by omega))).mono ?_;rintro e w' ⟨v,rfl,hat⟩))
   all_goals(first|go_end0|go_ret)
   all_goals exact⟨_,rfl,by assumption⟩
  ·rw[if_neg (c:=z1.kind=57) h57] at hy
   have e57:(z1.kind == 57)=false:=by simp [*]
   iterate 16 (all_goals try(first|split at hy|(rw[bind_iff] at hy;obtain⟨z,hz,hy⟩:=hy;try(rw[some_hid] at hz;subst hz))))
   all_goals(first|(obtain rfl:=Option.some.inj hy)|(replace hy:=Lib.hid hy))
   iterate 2 (all_goals try(rename _∧_=>ho;obtain⟨_,_⟩:=ho))
   iterate 7 (all_goals try(rename _∨_=>ho;rcases ho with ho|ho))
   all_goals(repeat (rename ¬ (_∨_)=>ho;rw[not_or] at ho;obtain⟨_,_⟩:=ho))
   all_goals(try have e10:(z1.kind == 10)=false:=by simp [*])
   all_goals go_enter Tryz.func154,Tryz.ntmps154
   all_goals go_wp2_with (first|(go_at_call 31;refine(ctake_at ‹_› (by first|with_reducible assumption|exact Lib.hid rfl|assumption|exact run_hid _ _ _ _ _)).mono ?_;rintro e w' ⟨v,rfl,hat⟩)|(go_at_call 57;first|(refine(ckind_is ‹_› ‹_›).mono ?_;rintro e w' ⟨rfl,hat⟩)|(refine(ckind_at ‹_›).mono ?_;rintro e w' ⟨rfl,hat⟩))|(go_at_call 47;refine(cname_at ‹_› (by first|with_reducible assumption|exact Lib.hid rfl|assumption|exact run_hid _ _ _ _ _)).mono ?_;rintro e w' ⟨v,rfl,hat⟩)|(go_at_call 37;refine(cclose_at _ _ _ _ _ _ _ _ ‹_› (by first|exact fun _=>rfl|assumption|exact fun hb=>by cases hb) (by first|exact fun _=>low_ok ‹_›|(intro _;omega)|(intro hb;cases hb;done)|assumption) (by first|with_reducible assumption|exact Lib.hid rfl|assumption|exact run_hid _ _ _ _ _)).mono ?_;rintro e w' ⟨v,rfl,hat⟩)|(go_at_call 45;refine(cfail_at ‹_› _ (by first|with_reducible assumption|exact Lib.hid rfl|assumption|exact run_hid _ _ _ _ _)).mono ?_;rintro e w' ⟨v,rfl,hat⟩)|(go_at_call 175;refine(cassertion_s ‹_› ‹_› ‹_› (by omega) (fun j hj=>ih j (by omega))).mono ?_;rintro e w' ⟨v,rfl,hat⟩))
   all_goals(first|go_end0|go_ret)
   all_goals exact⟨_,rfl,by assumption⟩
open Go.RowKit
theorem ccall_s {n:Nat} (ih:∀ k,k≤n→AllC k):PM 156 (n+1) .call:=by
 have _:=ih
 intro C w b x y m m' hat hm hlw hy
 have hy:=hy.out
 cases x with
 |fail d0 d1 d2=>
  rw[run_fail] at hy
  obtain rfl:=Option.some.inj hy
  clear hy
  have hk0:(Res.fail d0 d1 d2).kind=0:=rfl
  go_enter Tryz.func156,Tryz.ntmps156
  go_wp2_with (first|(go_at_call 31;refine(ctake_at ‹_› (by first|with_reducible assumption|exact Lib.hid rfl|assumption|exact run_hid _ _ _ _ _)).mono ?_;rintro e w' ⟨v,rfl,hat⟩)|(go_at_call 57;first|(refine(ckind_is ‹_› ‹_›).mono ?_;rintro e w' ⟨rfl,hat⟩)|(refine(ckind_at ‹_›).mono ?_;rintro e w' ⟨rfl,hat⟩))|(go_at_call 139;first|(refine(cinside_at (ih:=ih _ ?hk) ‹_› ‹_›).mono ?_;(case hk=>omega);rintro e w' ⟨v,rfl,hat⟩)|(refine(cinside_f _ _ _ _ _ _ ‹_›).mono ?_;rintro e w' ⟨v,rfl,hat⟩))|(go_at_call 83;first|(refine(ccame_yes ‹_› ‹_› (by first|with_reducible assumption|exact Lib.hid rfl|assumption|exact run_hid _ _ _ _ _)).mono ?_;rintro e w' ⟨rfl,hat⟩)|(refine(ccame_no ‹_› ?hno).mono ?_;(case hno=>first|assumption|rfl|simp [*]);rintro e w' ⟨rfl,hat⟩))|(go_at_call 33;refine(cexpect_at ‹_› _ (by first|with_reducible assumption|exact Lib.hid rfl|assumption|exact run_hid _ _ _ _ _)).mono ?_;rintro e w' ⟨rfl,hat⟩)|(go_at_call 37;refine(cclose_at _ _ _ _ _ _ _ _ ‹_› (by first|exact fun _=>rfl|assumption|exact fun hb=>by cases hb) (by first|exact fun _=>low_ok ‹_›|(intro _;omega)|(intro hb;cases hb;done)|assumption) (by first|with_reducible assumption|exact Lib.hid rfl|assumption|exact run_hid _ _ _ _ _)).mono ?_;rintro e w' ⟨v,rfl,hat⟩))
  go_loopw [] (fun wr=>Hid (CAt C wr b (.fail d0 d1 d2))) (fun _=>0)
  case atStart=>assumption
  case round=>
   have hat:=hrel
   go_wp2_with (first|(go_at_call 31;refine(ctake_at ‹_› (by first|with_reducible assumption|exact Lib.hid rfl|assumption|exact run_hid _ _ _ _ _)).mono ?_;rintro e w' ⟨v,rfl,hat⟩)|(go_at_call 57;first|(refine(ckind_is ‹_› ‹_›).mono ?_;rintro e w' ⟨rfl,hat⟩)|(refine(ckind_at ‹_›).mono ?_;rintro e w' ⟨rfl,hat⟩))|(go_at_call 139;first|(refine(cinside_at (ih:=ih _ ?hk) ‹_› ‹_›).mono ?_;(case hk=>omega);rintro e w' ⟨v,rfl,hat⟩)|(refine(cinside_f _ _ _ _ _ _ ‹_›).mono ?_;rintro e w' ⟨v,rfl,hat⟩))|(go_at_call 83;first|(refine(ccame_yes ‹_› ‹_› (by first|with_reducible assumption|exact Lib.hid rfl|assumption|exact run_hid _ _ _ _ _)).mono ?_;rintro e w' ⟨rfl,hat⟩)|(refine(ccame_no ‹_› ?hno).mono ?_;(case hno=>first|assumption|rfl|simp [*]);rintro e w' ⟨rfl,hat⟩))|(go_at_call 33;refine(cexpect_at ‹_› _ (by first|with_reducible assumption|exact Lib.hid rfl|assumption|exact run_hid _ _ _ _ _)).mono ?_;rintro e w' ⟨rfl,hat⟩)|(go_at_call 37;refine(cclose_at _ _ _ _ _ _ _ _ ‹_› (by first|exact fun _=>rfl|assumption|exact fun hb=>by cases hb) (by first|exact fun _=>low_ok ‹_›|(intro _;omega)|(intro hb;cases hb;done)|assumption) (by first|with_reducible assumption|exact Lib.hid rfl|assumption|exact run_hid _ _ _ _ _)).mono ?_;rintro e w' ⟨v,rfl,hat⟩))
   all_goals(first|go_end0|go_ret)
   all_goals exact⟨_,rfl,by assumption⟩
 |ok s=>
  have hlo:C.low≤s.R.length:=low_nat hat
  rw[run] at hy
  try dsimp only at hy
  have hm':=hm rfl
  subst hm'
  clear hm
  have hlm:=hlw rfl
  clear hlw
  rw[bind_iff] at hy
  obtain⟨z1,hz1,hy⟩:=hy
  rw[bind_iff] at hy
  obtain⟨z2,hz2,hy⟩:=hy
  rw[bind_iff] at hy
  obtain⟨z3,hz3,hy⟩:=hy
  replace hy:=Lib.hid hy
  all_goals go_enter Tryz.func156,Tryz.ntmps156
  all_goals go_wp2_with (first|(go_at_call 31;refine(ctake_at ‹_› (by first|with_reducible assumption|exact Lib.hid rfl|assumption|exact run_hid _ _ _ _ _)).mono ?_;rintro e w' ⟨v,rfl,hat⟩)|(go_at_call 57;first|(refine(ckind_is ‹_› ‹_›).mono ?_;rintro e w' ⟨rfl,hat⟩)|(refine(ckind_at ‹_›).mono ?_;rintro e w' ⟨rfl,hat⟩))|(go_at_call 139;first|(refine(cinside_at (ih:=ih _ ?hk) ‹_› ‹_›).mono ?_;(case hk=>omega);rintro e w' ⟨v,rfl,hat⟩)|(refine(cinside_f _ _ _ _ _ _ ‹_›).mono ?_;rintro e w' ⟨v,rfl,hat⟩))|(go_at_call 83;first|(refine(ccame_yes ‹_› ‹_› (by first|with_reducible assumption|exact Lib.hid rfl|assumption|exact run_hid _ _ _ _ _)).mono ?_;rintro e w' ⟨rfl,hat⟩)|(refine(ccame_no ‹_› ?hno).mono ?_;(case hno=>first|assumption|rfl|simp [*]);rintro e w' ⟨rfl,hat⟩))|(go_at_call 33;refine(cexpect_at ‹_› _ (by first|with_reducible assumption|exact Lib.hid rfl|assumption|exact run_hid _ _ _ _ _)).mono ?_;rintro e w' ⟨rfl,hat⟩)|(go_at_call 37;refine(cclose_at _ _ _ _ _ _ _ _ ‹_› (by first|exact fun _=>rfl|assumption|exact fun hb=>by cases hb) (by first|exact fun _=>low_ok ‹_›|(intro _;omega)|(intro hb;cases hb;done)|assumption) (by first|with_reducible assumption|exact Lib.hid rfl|assumption|exact run_hid _ _ _ _ _)).mono ?_;rintro e w' ⟨v,rfl,hat⟩))
  all_goals first|(go_end0;exact⟨_,rfl,by assumption⟩)|skip
  go_loopw [] (fun wr=>Mq C b z2 .callL n wr) (fun wr=>mpOf C b z2 .callL wr)
  case atStart=>exact Mq.at ‹_› ‹_›
  case round=>
   rcases hrel.out with⟨d0,d1,d2,hu,hat⟩|⟨k,s',hk,hq,hat,hy'⟩
   ·subst hu
    have hk0:(Res.fail d0 d1 d2).kind=0:=rfl
    go_wp2_with (first
   |(go_at_call 31;refine(ctake_at ‹_› (by first|with_reducible assumption|exact Lib.hid rfl|assumption|exact run_hid _ _ _ _ _)).mono ?_;rintro e w' ⟨v,rfl,hat⟩)
   |(go_at_call 57;first|(refine(ckind_is ‹_› ‹_›).mono ?_;rintro e w' ⟨rfl,hat⟩)|(refine(ckind_at ‹_›).mono ?_;rintro e w' ⟨rfl,hat⟩))
   |(go_at_call 139;first|(refine(cinside_at (ih:=ih _ ?hk) ‹_› ‹_›).mono ?_;(case hk=>omega);rintro e w' ⟨v,rfl,hat⟩)|(refine(cinside_f _ _ _ _ _ _ ‹_›).mono ?_;rintro e w' ⟨v,rfl,hat⟩))
   |(go_at_call 83;first|(refine(ccame_yes ‹_› ‹_› (by first|with_reducible assumption|exact Lib.hid rfl|assumption|exact run_hid _ _ _ _ _)).mono ?_;rintro e w' ⟨rfl,hat⟩)|(refine(ccame_no ‹_› ?hno).mono ?_;(case hno=>first|assumption|rfl|simp [*]);rintro e w' ⟨rfl,hat⟩))
   |(go_at_call 33;refine(cexpect_at ‹_› _ (by first|with_reducible assumption|exact Lib.hid rfl|assumption|exact run_hid _ _ _ _ _)).mono ?_;rintro e w' ⟨rfl,hat⟩)
   |(go_at_call 37;refine(cclose_at _ _ _ _ _ _ _ _ ‹_› (by first|exact fun _=>rfl|assumption|exact fun hb=>by cases hb) (by first|exact fun _=>low_ok ‹_›|(intro _;omega)|(intro hb;cases hb;done)|assumption) (by first|with_reducible assumption|exact Lib.hid rfl|assumption|exact run_hid _ _ _ _ _)).mono ?_;rintro e w' ⟨v,rfl,hat⟩))
    all_goals(first|(go_roundw;(case rel=>exact(Mq.less (by omega) ‹_› ‹_› hq).1);(case measure=>exact(Mq.less (n:=n) (by omega) ‹_› ‹_› hq).2))|(go_end0;exact⟨_,rfl,by assumption⟩)|(go_ret;exact⟨_,rfl,by assumption⟩))
   ·rw[run] at hy'
    try dsimp only at hy'
    have hy2:=hy'
    clear hy'
    iterate 16 (all_goals try(first|split at hy2|(rw[bind_iff] at hy2;obtain⟨z,hz,hy2⟩:=hy2;try(rw[some_hid] at hz;subst hz))))
    all_goals(first|(obtain rfl:=Option.some.inj hy2)|(replace hy2:=Lib.hid hy2))
    iterate 2 (all_goals try(rename _∧_=>ho;obtain⟨_,_⟩:=ho))
    iterate 7 (all_goals try(rename _∨_=>ho;rcases ho with ho|ho))
    all_goals(repeat (rename ¬ (_∨_)=>ho;rw[not_or] at ho;obtain⟨_,_⟩:=ho))
    all_goals go_wp2_with (first
   |(go_at_call 31;refine(ctake_at ‹_› (by first|with_reducible assumption|exact Lib.hid rfl|assumption|exact run_hid _ _ _ _ _)).mono ?_;rintro e w' ⟨v,rfl,hat⟩)
   |(go_at_call 57;first|(refine(ckind_is ‹_› ‹_›).mono ?_;rintro e w' ⟨rfl,hat⟩)|(refine(ckind_at ‹_›).mono ?_;rintro e w' ⟨rfl,hat⟩))
   |(go_at_call 139;first|(refine(cinside_at (ih:=ih _ ?hk) ‹_› ‹_›).mono ?_;(case hk=>omega);rintro e w' ⟨v,rfl,hat⟩)|(refine(cinside_f _ _ _ _ _ _ ‹_›).mono ?_;rintro e w' ⟨v,rfl,hat⟩))
   |(go_at_call 83;first|(refine(ccame_yes ‹_› ‹_› (by first|with_reducible assumption|exact Lib.hid rfl|assumption|exact run_hid _ _ _ _ _)).mono ?_;rintro e w' ⟨rfl,hat⟩)|(refine(ccame_no ‹_› ?hno).mono ?_;(case hno=>first|assumption|rfl|simp [*]);rintro e w' ⟨rfl,hat⟩))
   |(go_at_call 33;refine(cexpect_at ‹_› _ (by first|with_reducible assumption|exact Lib.hid rfl|assumption|exact run_hid _ _ _ _ _)).mono ?_;rintro e w' ⟨rfl,hat⟩)
   |(go_at_call 37;refine(cclose_at _ _ _ _ _ _ _ _ ‹_› (by first|exact fun _=>rfl|assumption|exact fun hb=>by cases hb) (by first|exact fun _=>low_ok ‹_›|(intro _;omega)|(intro hb;cases hb;done)|assumption) (by first|with_reducible assumption|exact Lib.hid rfl|assumption|exact run_hid _ _ _ _ _)).mono ?_;rintro e w' ⟨v,rfl,hat⟩))
    all_goals(first|(go_roundw;(case rel=>exact(Mq.less (by omega) ‹_› ‹_› hq).1);(case measure=>exact(Mq.less (n:=n) (by omega) ‹_› ‹_› hq).2))|(go_end0;exact⟨_,rfl,by assumption⟩)|(go_ret;exact⟨_,rfl,by assumption⟩))
end Go.Proofs.YtcekbbkidipbnaaGreat.rd
