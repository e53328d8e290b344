/-
  Texts put together: Hf, Hk, Hm, Hq.
-/
import Derived.Test.YtmelbeefjgjdhaaGreatP20
set_option maxRecDepth 100000
set_option maxHeartbeats 8000000
namespace Go.Proofs.YtmelbeefjgjdhaaGreat.rd
open Go.RowKit
theorem cvalues_s {n:Nat} (ih:∀ k,k≤n→AllC k):PVal 158 (n+1):=by
 intro C w b x z0 y m m' kind hat hm hlw hz0 hy
 have hz:=hz0.out
 clear hz0
 cases x with
 |fail d0 d1 d2=>
  rw[run_fail] at hz
  obtain rfl:=Option.some.inj hz
  have hk0:(Res.fail d0 d1 d2).kind=0:=rfl
  have e:=hy.out
  obtain rfl:=Option.some.inj e
  clear e hz hy
  go_enter Tryz.func158,Tryz.ntmps158
  go_wp2_with (first|(go_at_call 33;refine(cexpect_at ‹_› _ (by first|with_reducible assumption|exact Lib.hid rfl|assumption|exact run_hid _ _ _ _ _)).mono ?_;rintro e w' ⟨rfl,hat⟩)|(go_at_call 57;first|(refine(ckind_is ‹_› ‹_›).mono ?_;rintro e w' ⟨rfl,hat⟩)|(refine(ckind_at ‹_›).mono ?_;rintro e w' ⟨rfl,hat⟩))|(go_at_call 177;first|(refine(ckeyed_s ‹_› ‹_› ‹_› (fun j hj=>ih j (by omega))).mono ?_;rintro e w' ⟨v,rfl,hat⟩)|(refine(ckeyed_f _ _ _ _ _ _ ‹_›).mono ?_;rintro e w' ⟨v,rfl,hat⟩))|(go_at_call 83;first|(refine(ccame_yes ‹_› ‹_› (by first|with_reducible assumption|exact Lib.hid rfl|assumption|exact run_hid _ _ _ _ _)).mono ?_;rintro e w' ⟨rfl,hat⟩)|(refine(ccame_no ‹_› ?hno).mono ?_;(case hno=>first|assumption|rfl|simp [*]);rintro e w' ⟨rfl,hat⟩))|(go_at_call 37;refine(cclose_at _ _ _ _ _ _ _ _ ‹_› (by first|exact fun _=>rfl|assumption|exact fun hb=>by cases hb) (by first|exact fun _=>low_ok ‹_›|(intro _;omega)|(intro hb;cases hb;done)|assumption) (by first|with_reducible assumption|exact Lib.hid rfl|assumption|exact run_hid _ _ _ _ _)).mono ?_;rintro e w' ⟨v,rfl,hat⟩))
  go_loopw [] (fun wr=>Hid (CAt C wr b (.fail d0 d1 d2))) (fun _=>0)
  case atStart=>assumption
  case round=>
   have hat:=hrel
   go_wp2_with (first|(go_at_call 33;refine(cexpect_at ‹_› _ (by first|with_reducible assumption|exact Lib.hid rfl|assumption|exact run_hid _ _ _ _ _)).mono ?_;rintro e w' ⟨rfl,hat⟩)|(go_at_call 57;first|(refine(ckind_is ‹_› ‹_›).mono ?_;rintro e w' ⟨rfl,hat⟩)|(refine(ckind_at ‹_›).mono ?_;rintro e w' ⟨rfl,hat⟩))|(go_at_call 177;first|(refine(ckeyed_s ‹_› ‹_› ‹_› (fun j hj=>ih j (by omega))).mono ?_;rintro e w' ⟨v,rfl,hat⟩)|(refine(ckeyed_f _ _ _ _ _ _ ‹_›).mono ?_;rintro e w' ⟨v,rfl,hat⟩))|(go_at_call 83;first|(refine(ccame_yes ‹_› ‹_› (by first|with_reducible assumption|exact Lib.hid rfl|assumption|exact run_hid _ _ _ _ _)).mono ?_;rintro e w' ⟨rfl,hat⟩)|(refine(ccame_no ‹_› ?hno).mono ?_;(case hno=>first|assumption|rfl|simp [*]);rintro e w' ⟨rfl,hat⟩))|(go_at_call 37;refine(cclose_at _ _ _ _ _ _ _ _ ‹_› (by first|exact fun _=>rfl|assumption|exact fun hb=>by cases hb) (by first|exact fun _=>low_ok ‹_›|(intro _;omega)|(intro hb;cases hb;done)|assumption) (by first|with_reducible assumption|exact Lib.hid rfl|assumption|exact run_hid _ _ _ _ _)).mono ?_;rintro e w' ⟨v,rfl,hat⟩))
   all_goals(first|go_end0|go_ret)
   all_goals exact⟨_,rfl,by assumption⟩
 |ok s=>
  have hm:=hm rfl
  subst hm
  have hlm:=hlw rfl
  clear hlw
  rw[run] at hz
  rw[bind_iff] at hz
  obtain⟨z1,hz1,hz⟩:=hz
  rw[bind_iff] at hz
  obtain⟨z2,hz2,hz⟩:=hz
  replace hz:=Lib.hid hz
  go_enter Tryz.func158,Tryz.ntmps158
  go_wp2_with (first|(go_at_call 33;refine(cexpect_at ‹_› _ (by first|with_reducible assumption|exact Lib.hid rfl|assumption|exact run_hid _ _ _ _ _)).mono ?_;rintro e w' ⟨rfl,hat⟩)|(go_at_call 57;first|(refine(ckind_is ‹_› ‹_›).mono ?_;rintro e w' ⟨rfl,hat⟩)|(refine(ckind_at ‹_›).mono ?_;rintro e w' ⟨rfl,hat⟩))|(go_at_call 177;first|(refine(ckeyed_s ‹_› ‹_› ‹_› (fun j hj=>ih j (by omega))).mono ?_;rintro e w' ⟨v,rfl,hat⟩)|(refine(ckeyed_f _ _ _ _ _ _ ‹_›).mono ?_;rintro e w' ⟨v,rfl,hat⟩))|(go_at_call 83;first|(refine(ccame_yes ‹_› ‹_› (by first|with_reducible assumption|exact Lib.hid rfl|assumption|exact run_hid _ _ _ _ _)).mono ?_;rintro e w' ⟨rfl,hat⟩)|(refine(ccame_no ‹_› ?hno).mono ?_;(case hno=>first|assumption|rfl|simp [*]);rintro e w' ⟨rfl,hat⟩))|(go_at_call 37;refine(cclose_at _ _ _ _ _ _ _ _ ‹_› (by first|exact fun _=>rfl|assumption|exact fun hb=>by cases hb) (by first|exact fun _=>low_ok ‹_›|(intro _;omega)|(intro hb;cases hb;done)|assumption) (by first|with_reducible assumption|exact Lib.hid rfl|assumption|exact run_hid _ _ _ _ _)).mono ?_;rintro e w' ⟨v,rfl,hat⟩))
  go_loopw [] (fun wr=>Mq C b z2 .valL n wr) (fun wr=>mpOf C b z2 .valL wr)
  case atStart=>exact Mq.at ‹_› ‹_›
  case round=>
   rcases hrel.out with⟨d0,d1,d2,hu,hat⟩|⟨k,s',hk,hq,hat,hy'⟩
   ·subst hu
    have hk0:(Res.fail d0 d1 d2).kind=0:=rfl
    go_wp2_with (first
   |(go_at_call 33;refine(cexpect_at ‹_› _ (by first|with_reducible assumption|exact Lib.hid rfl|assumption|exact run_hid _ _ _ _ _)).mono ?_;rintro e w' ⟨rfl,hat⟩)
   |(go_at_call 57;first|(refine(ckind_is ‹_› ‹_›).mono ?_;rintro e w' ⟨rfl,hat⟩)|(refine(ckind_at ‹_›).mono ?_;rintro e w' ⟨rfl,hat⟩))
   |(go_at_call 177;first|(refine(ckeyed_s ‹_› ‹_› ‹_› (fun j hj=>ih j (by omega))).mono ?_;rintro e w' ⟨v,rfl,hat⟩)|(refine(ckeyed_f _ _ _ _ _ _ ‹_›).mono ?_;rintro e w' ⟨v,rfl,hat⟩))
   |(go_at_call 83;first|(refine(ccame_yes ‹_› ‹_› (by first|with_reducible assumption|exact Lib.hid rfl|assumption|exact run_hid _ _ _ _ _)).mono ?_;rintro e w' ⟨rfl,hat⟩)|(refine(ccame_no ‹_› ?hno).mono ?_;(case hno=>first|assumption|rfl|simp [*]);rintro e w' ⟨rfl,hat⟩))
   |(go_at_call 37;refine(cclose_at _ _ _ _ _ _ _ _ ‹_› (by first|exact fun _=>rfl|assumption|exact fun hb=>by cases hb) (by first|exact fun _=>low_ok ‹_›|(intro _;omega)|(intro hb;cases hb;done)|assumption) (by first|with_reducible assumption|exact Lib.hid rfl|assumption|exact run_hid _ _ _ _ _)).mono ?_;rintro e w' ⟨v,rfl,hat⟩))
    all_goals(first|(go_roundw;(case rel=>exact(Mq.less (by omega) ‹_› ‹_› hq).1);(case measure=>exact(Mq.less (n:=n) (by omega) ‹_› ‹_› hq).2))|(go_end0;exact⟨_,rfl,by assumption⟩)|(go_ret;exact⟨_,rfl,by assumption⟩))
   ·rw[run] at hy'
    try dsimp only at hy'
    have hy2:=hy'
    clear hy'
    split at hy2
    ·obtain rfl:=Option.some.inj hy2
     clear hy2
     go_wp2_with (first
   |(go_at_call 33;refine(cexpect_at ‹_› _ (by first|with_reducible assumption|exact Lib.hid rfl|assumption|exact run_hid _ _ _ _ _)).mono ?_;rintro e w' ⟨rfl,hat⟩)
   |(go_at_call 57;first|(refine(ckind_is ‹_› ‹_›).mono ?_;rintro e w' ⟨rfl,hat⟩)|(refine(ckind_at ‹_›).mono ?_;rintro e w' ⟨rfl,hat⟩))
   |(go_at_call 177;first|(refine(ckeyed_s ‹_› ‹_› ‹_› (fun j hj=>ih j (by omega))).mono ?_;rintro e w' ⟨v,rfl,hat⟩)|(refine(ckeyed_f _ _ _ _ _ _ ‹_›).mono ?_;rintro e w' ⟨v,rfl,hat⟩))
   |(go_at_call 83;first|(refine(ccame_yes ‹_› ‹_› (by first|with_reducible assumption|exact Lib.hid rfl|assumption|exact run_hid _ _ _ _ _)).mono ?_;rintro e w' ⟨rfl,hat⟩)|(refine(ccame_no ‹_› ?hno).mono ?_;(case hno=>first|assumption|rfl|simp [*]);rintro e w' ⟨rfl,hat⟩))
   |(go_at_call 37;refine(cclose_at _ _ _ _ _ _ _ _ ‹_› (by first|exact fun _=>rfl|assumption|exact fun hb=>by cases hb) (by first|exact fun _=>low_ok ‹_›|(intro _;omega)|(intro hb;cases hb;done)|assumption) (by first|with_reducible assumption|exact Lib.hid rfl|assumption|exact run_hid _ _ _ _ _)).mono ?_;rintro e w' ⟨v,rfl,hat⟩))
     all_goals(first|(go_roundw;(case rel=>exact(Mq.less (by omega) ‹_› ‹_› hq).1);(case measure=>exact(Mq.less (n:=n) (by omega) ‹_› ‹_› hq).2))|(go_end0;exact⟨_,rfl,by assumption⟩)|(go_ret;exact⟨_,rfl,by assumption⟩))
    ·rw[bind_iff] at hy2
     obtain⟨y1,hy1,hy2⟩:=hy2
     have hcase:∃ y2,Hid ((if y1.kind=65 then(rTake y1 >>= fun u=>run k .value u >>= fun v=>rClose s'.R.length 215 v) else some y1)=some y2)∧(if y2.kind=60 then(rTake y2 >>= fun u=>run k .valL u) else some y2)=some z2:=by
      split at hy2
      ·rename_i h65
       rw[bind_iff] at hy2
       obtain⟨a1,ha1,hy2⟩:=hy2
       rw[bind_iff] at hy2
       obtain⟨a2,ha2,hy2⟩:=hy2
       rw[bind_iff] at hy2
       obtain⟨a3,ha3,hy2⟩:=hy2
       refine⟨a3,Lib.hid ?_,hy2⟩
       rw[if_pos h65]
       have e1:=ha1.out
       have e2:=ha2.out
       have e3:=ha3.out
       rw[e1]
       show(run k .value a1 >>= _)=_
       rw[e2]
       exact e3
      ·rename_i h65
       exact⟨y1,Lib.hid (by rw[if_neg h65]),hy2⟩
     clear hy2
     obtain⟨y2,hyk,hy2⟩:=hcase
     by_cases h60:y2.kind=60
     ·rw[if_pos h60,bind_iff] at hy2
      obtain⟨y3,hy3,hy2⟩:=hy2
      replace hy2:=Lib.hid hy2
      go_wp2_with (first
   |(go_at_call 33;refine(cexpect_at ‹_› _ (by first|with_reducible assumption|exact Lib.hid rfl|assumption|exact run_hid _ _ _ _ _)).mono ?_;rintro e w' ⟨rfl,hat⟩)
   |(go_at_call 57;first|(refine(ckind_is ‹_› ‹_›).mono ?_;rintro e w' ⟨rfl,hat⟩)|(refine(ckind_at ‹_›).mono ?_;rintro e w' ⟨rfl,hat⟩))
   |(go_at_call 177;first|(refine(ckeyed_s ‹_› ‹_› ‹_› (fun j hj=>ih j (by omega))).mono ?_;rintro e w' ⟨v,rfl,hat⟩)|(refine(ckeyed_f _ _ _ _ _ _ ‹_›).mono ?_;rintro e w' ⟨v,rfl,hat⟩))
   |(go_at_call 83;first|(refine(ccame_yes ‹_› ‹_› (by first|with_reducible assumption|exact Lib.hid rfl|assumption|exact run_hid _ _ _ _ _)).mono ?_;rintro e w' ⟨rfl,hat⟩)|(refine(ccame_no ‹_› ?hno).mono ?_;(case hno=>first|assumption|rfl|simp [*]);rintro e w' ⟨rfl,hat⟩))
   |(go_at_call 37;refine(cclose_at _ _ _ _ _ _ _ _ ‹_› (by first|exact fun _=>rfl|assumption|exact fun hb=>by cases hb) (by first|exact fun _=>low_ok ‹_›|(intro _;omega)|(intro hb;cases hb;done)|assumption) (by first|with_reducible assumption|exact Lib.hid rfl|assumption|exact run_hid _ _ _ _ _)).mono ?_;rintro e w' ⟨v,rfl,hat⟩))
      all_goals(first
    |(go_roundw;(case rel=>exact(Mq.less (by omega) ‹_› ‹_› hq).1);(case measure=>exact(Mq.less (n:=n) (by omega) ‹_› ‹_› hq).2))
    |(go_end0;exact⟨_,rfl,by assumption⟩)
    |(go_ret;exact⟨_,rfl,by assumption⟩))
     ·rw[if_neg h60] at hy2
      obtain rfl:=Option.some.inj hy2
      clear hy2
      go_wp2_with (first
   |(go_at_call 33;refine(cexpect_at ‹_› _ (by first|with_reducible assumption|exact Lib.hid rfl|assumption|exact run_hid _ _ _ _ _)).mono ?_;rintro e w' ⟨rfl,hat⟩)
   |(go_at_call 57;first|(refine(ckind_is ‹_› ‹_›).mono ?_;rintro e w' ⟨rfl,hat⟩)|(refine(ckind_at ‹_›).mono ?_;rintro e w' ⟨rfl,hat⟩))
   |(go_at_call 177;first|(refine(ckeyed_s ‹_› ‹_› ‹_› (fun j hj=>ih j (by omega))).mono ?_;rintro e w' ⟨v,rfl,hat⟩)|(refine(ckeyed_f _ _ _ _ _ _ ‹_›).mono ?_;rintro e w' ⟨v,rfl,hat⟩))
   |(go_at_call 83;first|(refine(ccame_yes ‹_› ‹_› (by first|with_reducible assumption|exact Lib.hid rfl|assumption|exact run_hid _ _ _ _ _)).mono ?_;rintro e w' ⟨rfl,hat⟩)|(refine(ccame_no ‹_› ?hno).mono ?_;(case hno=>first|assumption|rfl|simp [*]);rintro e w' ⟨rfl,hat⟩))
   |(go_at_call 37;refine(cclose_at _ _ _ _ _ _ _ _ ‹_› (by first|exact fun _=>rfl|assumption|exact fun hb=>by cases hb) (by first|exact fun _=>low_ok ‹_›|(intro _;omega)|(intro hb;cases hb;done)|assumption) (by first|with_reducible assumption|exact Lib.hid rfl|assumption|exact run_hid _ _ _ _ _)).mono ?_;rintro e w' ⟨v,rfl,hat⟩))
      all_goals(first|(go_roundw;(case rel=>exact(Mq.less (by omega) ‹_› ‹_› hq).1);(case measure=>exact(Mq.less (n:=n) (by omega) ‹_› ‹_› hq).2))|(go_end0;exact⟨_,rfl,by assumption⟩)|(go_ret;exact⟨_,rfl,by assumption⟩))
theorem cvalue_s {n:Nat} (ih:∀ k,k≤n→AllC k):P0 190 (n+1) .value:=by
 have _:=ih
 intro C w b x y hat hy
 have hy:=hy.out
 cases x with
 |fail d0 d1 d2=>
  rw[run_fail] at hy
  obtain rfl:=Option.some.inj hy
  exact cvalue_f _ _ _ _ _ _ hat
 |ok s=>
  have hlo:C.low≤s.R.length:=low_nat hat
  rw[run] at hy
  try dsimp only at hy
  split at hy
  case isFalse hk=>
   replace hy:=Lib.hid hy
   all_goals go_enter Tryz.func190,Tryz.ntmps190
   all_goals go_wp2_with (first|(go_at_call 57;first|(refine(ckind_is ‹_› ‹_›).mono ?_;rintro e w' ⟨rfl,hat⟩)|(refine(ckind_at ‹_›).mono ?_;rintro e w' ⟨rfl,hat⟩))|(go_at_call 139;first|(refine(cinside_at (ih:=ih _ ?hk) ‹_› ‹_›).mono ?_;(case hk=>omega);rintro e w' ⟨v,rfl,hat⟩)|(refine(cinside_f _ _ _ _ _ _ ‹_›).mono ?_;rintro e w' ⟨v,rfl,hat⟩))|(go_at_call 41;refine(cdown_at ‹_› (by first|with_reducible assumption|exact Lib.hid rfl|assumption|exact run_hid _ _ _ _ _)).mono ?_;rintro e w' ⟨rfl,hat⟩)|(go_at_call 61;first|(refine(cmark_at ‹_›).mono ?_;rintro e w' ⟨rfl,rfl⟩)|(refine(cmark_bad ‹_›).mono ?_;rintro e w' ⟨⟨v,_,rfl⟩,rfl⟩))|(go_at_call 158;refine((ih _ ?hk).values _ _ _ _ _ _ _ _ _ ‹_› (by first|exact fun _=>rfl|assumption|exact fun hb=>by cases hb) (by first|exact fun _=>low_ok ‹_›|(intro _;omega)|(intro hb;cases hb;done)|assumption) ‹_› ‹_›).mono ?_;(case hk=>omega);rintro e w' ⟨v,rfl,hat⟩)|(go_at_call 43;refine(cup_at ‹_› (by first|with_reducible assumption|exact Lib.hid rfl|assumption|exact run_hid _ _ _ _ _)).mono ?_;rintro e w' ⟨v,rfl,hat⟩))
   all_goals(first|go_end0|go_ret)
   all_goals exact⟨_,rfl,by assumption⟩
  case isTrue hk=>
   obtain⟨z,hz,hy⟩:=bind_some hy
   cases z with
   |fail a0 a1 a2=>
    simp only[run_fail,rUp_f,rClose_f,Option.bind_eq_bind,Option.bind_some] at hy
    obtain rfl:=Option.some.inj hy
    clear hy
    all_goals go_enter Tryz.func190,Tryz.ntmps190
    all_goals go_wp2_with (first|(go_at_call 57;first|(refine(ckind_is ‹_› ‹_›).mono ?_;rintro e w' ⟨rfl,hat⟩)|(refine(ckind_at ‹_›).mono ?_;rintro e w' ⟨rfl,hat⟩))|(go_at_call 139;first|(refine(cinside_at (ih:=ih _ ?hk) ‹_› ‹_›).mono ?_;(case hk=>omega);rintro e w' ⟨v,rfl,hat⟩)|(refine(cinside_f _ _ _ _ _ _ ‹_›).mono ?_;rintro e w' ⟨v,rfl,hat⟩))|(go_at_call 41;refine(cdown_at ‹_› (by first|with_reducible assumption|exact Lib.hid rfl|assumption|exact run_hid _ _ _ _ _)).mono ?_;rintro e w' ⟨rfl,hat⟩)|(go_at_call 61;first|(refine(cmark_at ‹_›).mono ?_;rintro e w' ⟨rfl,rfl⟩)|(refine(cmark_bad ‹_›).mono ?_;rintro e w' ⟨⟨v,_,rfl⟩,rfl⟩))|(go_at_call 158;refine((ih _ ?hk).values _ _ _ _ _ _ _ _ _ ‹_› (by first|exact fun _=>rfl|assumption|exact fun hb=>by cases hb) (by first|exact fun _=>low_ok ‹_›|(intro _;omega)|(intro hb;cases hb;done)|assumption) ‹_› ‹_›).mono ?_;(case hk=>omega);rintro e w' ⟨v,rfl,hat⟩)|(go_at_call 43;refine(cup_at ‹_› (by first|with_reducible assumption|exact Lib.hid rfl|assumption|exact run_hid _ _ _ _ _)).mono ?_;rintro e w' ⟨v,rfl,hat⟩))
    all_goals(first|go_end0|go_ret)
    all_goals exact⟨_,rfl,by assumption⟩
   |ok t=>
    iterate 16 (all_goals try(first|split at hy|(rw[bind_iff] at hy;obtain⟨z,hz,hy⟩:=hy;try(rw[some_hid] at hz;subst hz))))
    all_goals(first|(obtain rfl:=Option.some.inj hy)|(replace hy:=Lib.hid hy))
    iterate 2 (all_goals try(rename _∧_=>ho;obtain⟨_,_⟩:=ho))
    iterate 7 (all_goals try(rename _∨_=>ho;rcases ho with ho|ho))
    all_goals(repeat (rename ¬ (_∨_)=>ho;rw[not_or] at ho;obtain⟨_,_⟩:=ho))
    all_goals go_enter Tryz.func190,Tryz.ntmps190
    all_goals go_wp2_with (first|(go_at_call 57;first|(refine(ckind_is ‹_› ‹_›).mono ?_;rintro e w' ⟨rfl,hat⟩)|(refine(ckind_at ‹_›).mono ?_;rintro e w' ⟨rfl,hat⟩))|(go_at_call 139;first|(refine(cinside_at (ih:=ih _ ?hk) ‹_› ‹_›).mono ?_;(case hk=>omega);rintro e w' ⟨v,rfl,hat⟩)|(refine(cinside_f _ _ _ _ _ _ ‹_›).mono ?_;rintro e w' ⟨v,rfl,hat⟩))|(go_at_call 41;refine(cdown_at ‹_› (by first|with_reducible assumption|exact Lib.hid rfl|assumption|exact run_hid _ _ _ _ _)).mono ?_;rintro e w' ⟨rfl,hat⟩)|(go_at_call 61;first|(refine(cmark_at ‹_›).mono ?_;rintro e w' ⟨rfl,rfl⟩)|(refine(cmark_bad ‹_›).mono ?_;rintro e w' ⟨⟨v,_,rfl⟩,rfl⟩))|(go_at_call 158;refine((ih _ ?hk).values _ _ _ _ _ _ _ _ _ ‹_› (by first|exact fun _=>rfl|assumption|exact fun hb=>by cases hb) (by first|exact fun _=>low_ok ‹_›|(intro _;omega)|(intro hb;cases hb;done)|assumption) ‹_› ‹_›).mono ?_;(case hk=>omega);rintro e w' ⟨v,rfl,hat⟩)|(go_at_call 43;refine(cup_at ‹_› (by first|with_reducible assumption|exact Lib.hid rfl|assumption|exact run_hid _ _ _ _ _)).mono ?_;rintro e w' ⟨v,rfl,hat⟩))
    all_goals(first|go_end0|go_ret)
    all_goals exact⟨_,rfl,by assumption⟩
open Go.RowKit
theorem cflat_s {n:Nat} (ih:∀ k,k≤n→AllC k) (hn:n≤1099511627776):P0 189 (n+1) .flat:=by
 have _:=ih
 intro C w b x y hat hy
 have hy:=hy.out
 have hmain:∃ z1 z2,∃ m':Nat,Hid (rExpect 59 x=some z1)∧Hid (run n (.flatL 1) z1=some z2)∧Hid (rClose m' 217 z2=some y)∧(∀ s,x=.ok s→m'=s.R.length):=by
  cases x with
  |fail d0 d1 d2=>
   rw[run_fail] at hy
   obtain rfl:=Option.some.inj hy
   exact⟨_,_,0,Lib.hid rfl,run_hid _ _ _ _ _,Lib.hid rfl,fun s h=>by cases h⟩
  |ok s=>
   rw[run] at hy
   try dsimp only at hy
   rw[bind_iff] at hy
   obtain⟨z1,hz1,hy⟩:=hy
   rw[bind_iff] at hy
   obtain⟨z2,hz2,hy⟩:=hy
   exact⟨z1,z2,s.R.length,hz1,hz2,Lib.hid hy,fun s' h=>by cases h;rfl⟩
 clear hy
 obtain⟨z1,z2,m',hz1,hz2,hy,hmm⟩:=hmain
 have hMK:∃ mv:Int,Hid (Calls Tryz.prog 61 #[.pointer (some ⟨b,0,none⟩)] w fun e w'=>e=.returned (.int .i64 mv)∧w=w')∧(z2.bad=false→mv=(m':Int))∧(z2.bad=false→(C.low:Int)≤mv):=by
  cases x with
  |fail d0 d1 d2=>
   have e1:=hz1.out
   obtain rfl:=Option.some.inj e1
   have e2:=hz2.out
   rw[run_fail] at e2
   obtain rfl:=Option.some.inj e2
   obtain⟨vL,vS,vR,σ,D,hr,_,hi⟩:=hat.out
   exact⟨_,Lib.hid (cmark_any hr),(fun h=>by cases h),(fun h=>by cases h)⟩
  |ok s=>exact⟨_,Lib.hid (cmark_at hat),(fun _=>by rw[hmm s rfl]),fun _=>low_ok hat⟩
 obtain⟨mv,HMK,hmv,hlw⟩:=hMK
 clear hmm
 go_enter Tryz.func189,Tryz.ntmps189
 go_wp2_with (first|(go_at_call 61;refine HMK.out.mono ?_;rintro e w' ⟨rfl,rfl⟩)|(go_at_call 33;refine(cexpect_at ‹_› _ (by first|with_reducible assumption|exact Lib.hid rfl|assumption|exact run_hid _ _ _ _ _)).mono ?_;rintro e w' ⟨rfl,hat⟩))
 go_loopw [3] (fun p wr=>∃ c k:Nat,c+k≤n+1∧p=.int .i64 (c:Int)∧Mp C b z2 (.flatL c) wr k) (fun p wr=>mpOf C b z2 (.flatL (intOf p).toNat) wr)
 case atStart=>exact⟨1,n,by omega,rfl,z1,by assumption,by assumption⟩
 case round=>
  obtain⟨c,k0,hck,rfl,hlp⟩:=hrel
  have hq0:mpOf C b z2 (.flatL (intOf (.int .i64 (c:Int))).toNat) wr=mpOf C b z2 (.flatL c) wr:=by simp [intOf]
  clear hat hz1 hz2 HMK
  rcases Mq.out ⟨k0,Nat.le_refl _,hlp⟩ with⟨d0,d1,d2,hu,hat⟩|⟨k,s',hk,hq,hat,hy2⟩
  ·subst hu
   have hk0:(Res.fail d0 d1 d2).kind=0:=rfl
   have e:=hy.out
   obtain rfl:=Option.some.inj e
   rcases Nat.eq_zero_or_pos c with rfl|hc0
   ·go_wp2_with (first
   |(go_at_call 61;first|(refine(cmark_at ‹_›).mono ?_;rintro e w' ⟨rfl,rfl⟩)|(refine(cmark_bad ‹_›).mono ?_;rintro e w' ⟨⟨v,_,rfl⟩,rfl⟩))
   |(go_at_call 33;refine(cexpect_at ‹_› _ (by first|with_reducible assumption|exact Lib.hid rfl|assumption|exact run_hid _ _ _ _ _)).mono ?_;rintro e w' ⟨rfl,hat⟩)
   |(go_at_call 57;first|(refine(ckind_is ‹_› ‹_›).mono ?_;rintro e w' ⟨rfl,hat⟩)|(refine(ckind_at ‹_›).mono ?_;rintro e w' ⟨rfl,hat⟩))
   |(go_at_call 45;refine(cfail_at ‹_› _ (by first|with_reducible assumption|exact Lib.hid rfl|assumption|exact run_hid _ _ _ _ _)).mono ?_;rintro e w' ⟨v,rfl,hat⟩)
   |(go_at_call 31;refine(ctake_at ‹_› (by first|with_reducible assumption|exact Lib.hid rfl|assumption|exact run_hid _ _ _ _ _)).mono ?_;rintro e w' ⟨v,rfl,hat⟩)
   |(go_at_call 37;refine(cclose_at _ _ _ _ _ _ _ _ ‹_› (by first|exact fun _=>rfl|assumption|exact fun hb=>by cases hb) (by first|exact fun _=>low_ok ‹_›|(intro _;omega)|(intro hb;cases hb;done)|assumption) (by first|with_reducible assumption|exact Lib.hid rfl|assumption|exact run_hid _ _ _ _ _)).mono ?_;rintro e w' ⟨v,rfl,hat⟩))
    go_end0
    exact⟨_,rfl,by assumption⟩
   ·have hd:decide (0<(c:Int))=true:=decide_eq_true (by omega)
    go_wp2_with (first
   |(go_at_call 61;first|(refine(cmark_at ‹_›).mono ?_;rintro e w' ⟨rfl,rfl⟩)|(refine(cmark_bad ‹_›).mono ?_;rintro e w' ⟨⟨v,_,rfl⟩,rfl⟩))
   |(go_at_call 33;refine(cexpect_at ‹_› _ (by first|with_reducible assumption|exact Lib.hid rfl|assumption|exact run_hid _ _ _ _ _)).mono ?_;rintro e w' ⟨rfl,hat⟩)
   |(go_at_call 57;first|(refine(ckind_is ‹_› ‹_›).mono ?_;rintro e w' ⟨rfl,hat⟩)|(refine(ckind_at ‹_›).mono ?_;rintro e w' ⟨rfl,hat⟩))
   |(go_at_call 45;refine(cfail_at ‹_› _ (by first|with_reducible assumption|exact Lib.hid rfl|assumption|exact run_hid _ _ _ _ _)).mono ?_;rintro e w' ⟨v,rfl,hat⟩)
   |(go_at_call 31;refine(ctake_at ‹_› (by first|with_reducible assumption|exact Lib.hid rfl|assumption|exact run_hid _ _ _ _ _)).mono ?_;rintro e w' ⟨v,rfl,hat⟩)
   |(go_at_call 37;refine(cclose_at _ _ _ _ _ _ _ _ ‹_› (by first|exact fun _=>rfl|assumption|exact fun hb=>by cases hb) (by first|exact fun _=>low_ok ‹_›|(intro _;omega)|(intro hb;cases hb;done)|assumption) (by first|with_reducible assumption|exact Lib.hid rfl|assumption|exact run_hid _ _ _ _ _)).mono ?_;rintro e w' ⟨v,rfl,hat⟩))
    all_goals(first|go_end0|go_ret)
    all_goals exact⟨_,rfl,by assumption⟩
  ·rw[run] at hy2
   try dsimp only at hy2
   rcases Nat.eq_zero_or_pos c with rfl|hc0
   ·rw[if_pos rfl] at hy2
    obtain rfl:=Option.some.inj hy2
    have hmv':=hmv rfl
    subst hmv'
    have hlm:=hlw rfl
    go_wp2_with (first
   |(go_at_call 61;first|(refine(cmark_at ‹_›).mono ?_;rintro e w' ⟨rfl,rfl⟩)|(refine(cmark_bad ‹_›).mono ?_;rintro e w' ⟨⟨v,_,rfl⟩,rfl⟩))
   |(go_at_call 33;refine(cexpect_at ‹_› _ (by first|with_reducible assumption|exact Lib.hid rfl|assumption|exact run_hid _ _ _ _ _)).mono ?_;rintro e w' ⟨rfl,hat⟩)
   |(go_at_call 57;first|(refine(ckind_is ‹_› ‹_›).mono ?_;rintro e w' ⟨rfl,hat⟩)|(refine(ckind_at ‹_›).mono ?_;rintro e w' ⟨rfl,hat⟩))
   |(go_at_call 45;refine(cfail_at ‹_› _ (by first|with_reducible assumption|exact Lib.hid rfl|assumption|exact run_hid _ _ _ _ _)).mono ?_;rintro e w' ⟨v,rfl,hat⟩)
   |(go_at_call 31;refine(ctake_at ‹_› (by first|with_reducible assumption|exact Lib.hid rfl|assumption|exact run_hid _ _ _ _ _)).mono ?_;rintro e w' ⟨v,rfl,hat⟩)
   |(go_at_call 37;refine(cclose_at _ _ _ _ _ _ _ _ ‹_› (by first|exact fun _=>rfl|assumption|exact fun hb=>by cases hb) (by first|exact fun _=>low_ok ‹_›|(intro _;omega)|(intro hb;cases hb;done)|assumption) (by first|with_reducible assumption|exact Lib.hid rfl|assumption|exact run_hid _ _ _ _ _)).mono ?_;rintro e w' ⟨v,rfl,hat⟩))
    go_end0
    exact⟨_,rfl,by assumption⟩
   have hd:decide (0<(c:Int))=true:=decide_eq_true (by omega)
   rw[if_neg (by omega)] at hy2
   by_cases h0:(Res.ok s').kind=0
   ·rw[if_pos h0] at hy2
    obtain⟨d0,d1,d2,rfl⟩:=rFail_bad hy2
    replace hy2:=Lib.hid hy2
    have e:=hy.out
    obtain rfl:=Option.some.inj e
    go_wp2_with (first
   |(go_at_call 61;first|(refine(cmark_at ‹_›).mono ?_;rintro e w' ⟨rfl,rfl⟩)|(refine(cmark_bad ‹_›).mono ?_;rintro e w' ⟨⟨v,_,rfl⟩,rfl⟩))
   |(go_at_call 33;refine(cexpect_at ‹_› _ (by first|with_reducible assumption|exact Lib.hid rfl|assumption|exact run_hid _ _ _ _ _)).mono ?_;rintro e w' ⟨rfl,hat⟩)
   |(go_at_call 57;first|(refine(ckind_is ‹_› ‹_›).mono ?_;rintro e w' ⟨rfl,hat⟩)|(refine(ckind_at ‹_›).mono ?_;rintro e w' ⟨rfl,hat⟩))
   |(go_at_call 45;refine(cfail_at ‹_› _ (by first|with_reducible assumption|exact Lib.hid rfl|assumption|exact run_hid _ _ _ _ _)).mono ?_;rintro e w' ⟨v,rfl,hat⟩)
   |(go_at_call 31;refine(ctake_at ‹_› (by first|with_reducible assumption|exact Lib.hid rfl|assumption|exact run_hid _ _ _ _ _)).mono ?_;rintro e w' ⟨v,rfl,hat⟩)
   |(go_at_call 37;refine(cclose_at _ _ _ _ _ _ _ _ ‹_› (by first|exact fun _=>rfl|assumption|exact fun hb=>by cases hb) (by first|exact fun _=>low_ok ‹_›|(intro _;omega)|(intro hb;cases hb;done)|assumption) (by first|with_reducible assumption|exact Lib.hid rfl|assumption|exact run_hid _ _ _ _ _)).mono ?_;rintro e w' ⟨v,rfl,hat⟩))
    all_goals(first|go_end0|go_ret)
    all_goals exact⟨_,rfl,by assumption⟩
   rw[if_neg h0] at hy2
   by_cases h59:(Res.ok s').kind=59
   ·rw[if_pos h59] at hy2
    obtain⟨y1,hy1,hy2⟩:=bind_some hy2
    replace hy2:=Lib.hid hy2
    have hw1:IntKind.i64.wrap ((c:Int)+1)=(c:Int)+1:=IntWalk.i64_in _ (by omega)
    go_wp2_with (first
   |(go_at_call 61;first|(refine(cmark_at ‹_›).mono ?_;rintro e w' ⟨rfl,rfl⟩)|(refine(cmark_bad ‹_›).mono ?_;rintro e w' ⟨⟨v,_,rfl⟩,rfl⟩))
   |(go_at_call 33;refine(cexpect_at ‹_› _ (by first|with_reducible assumption|exact Lib.hid rfl|assumption|exact run_hid _ _ _ _ _)).mono ?_;rintro e w' ⟨rfl,hat⟩)
   |(go_at_call 57;first|(refine(ckind_is ‹_› ‹_›).mono ?_;rintro e w' ⟨rfl,hat⟩)|(refine(ckind_at ‹_›).mono ?_;rintro e w' ⟨rfl,hat⟩))
   |(go_at_call 45;refine(cfail_at ‹_› _ (by first|with_reducible assumption|exact Lib.hid rfl|assumption|exact run_hid _ _ _ _ _)).mono ?_;rintro e w' ⟨v,rfl,hat⟩)
   |(go_at_call 31;refine(ctake_at ‹_› (by first|with_reducible assumption|exact Lib.hid rfl|assumption|exact run_hid _ _ _ _ _)).mono ?_;rintro e w' ⟨v,rfl,hat⟩)
   |(go_at_call 37;refine(cclose_at _ _ _ _ _ _ _ _ ‹_› (by first|exact fun _=>rfl|assumption|exact fun hb=>by cases hb) (by first|exact fun _=>low_ok ‹_›|(intro _;omega)|(intro hb;cases hb;done)|assumption) (by first|with_reducible assumption|exact Lib.hid rfl|assumption|exact run_hid _ _ _ _ _)).mono ?_;rintro e w' ⟨v,rfl,hat⟩))
    go_roundw
    case rel=>exact⟨c+1,k,by omega,by go_num,_,by assumption,by assumption⟩
    case measure=>
     rw[hq0]
     have hq1:mpOf C b z2 (.flatL (intOf (.int .i64 ((c:Int)+1))).toNat) w'=mpOf C b z2 (.flatL (c+1)) w':=by simp only[intOf];rw[show((c:Int)+1).toNat=c+1 by omega]
     show mpOf C b z2 (.flatL (intOf (.int .i64 ((c:Int)+1))).toNat) w'<_
     rw[hq1,hq]
     exact Nat.lt_succ_of_le (least_spec (P:=Mp C b z2 (.flatL (c+1)) w') ⟨_,by assumption,by assumption⟩).2
   rw[if_neg h59] at hy2
   by_cases h64:(Res.ok s').kind=64
   ·rw[if_pos h64] at hy2
    obtain⟨y1,hy1,hy2⟩:=bind_some hy2
    replace hy2:=Lib.hid hy2
    have hw1:IntKind.i64.wrap ((c:Int) - 1)=(c:Int) - 1:=IntWalk.i64_in _ (by omega)
    go_wp2_with (first
   |(go_at_call 61;first|(refine(cmark_at ‹_›).mono ?_;rintro e w' ⟨rfl,rfl⟩)|(refine(cmark_bad ‹_›).mono ?_;rintro e w' ⟨⟨v,_,rfl⟩,rfl⟩))
   |(go_at_call 33;refine(cexpect_at ‹_› _ (by first|with_reducible assumption|exact Lib.hid rfl|assumption|exact run_hid _ _ _ _ _)).mono ?_;rintro e w' ⟨rfl,hat⟩)
   |(go_at_call 57;first|(refine(ckind_is ‹_› ‹_›).mono ?_;rintro e w' ⟨rfl,hat⟩)|(refine(ckind_at ‹_›).mono ?_;rintro e w' ⟨rfl,hat⟩))
   |(go_at_call 45;refine(cfail_at ‹_› _ (by first|with_reducible assumption|exact Lib.hid rfl|assumption|exact run_hid _ _ _ _ _)).mono ?_;rintro e w' ⟨v,rfl,hat⟩)
   |(go_at_call 31;refine(ctake_at ‹_› (by first|with_reducible assumption|exact Lib.hid rfl|assumption|exact run_hid _ _ _ _ _)).mono ?_;rintro e w' ⟨v,rfl,hat⟩)
   |(go_at_call 37;refine(cclose_at _ _ _ _ _ _ _ _ ‹_› (by first|exact fun _=>rfl|assumption|exact fun hb=>by cases hb) (by first|exact fun _=>low_ok ‹_›|(intro _;omega)|(intro hb;cases hb;done)|assumption) (by first|with_reducible assumption|exact Lib.hid rfl|assumption|exact run_hid _ _ _ _ _)).mono ?_;rintro e w' ⟨v,rfl,hat⟩))
    go_roundw
    case rel=>exact⟨c - 1,k,by omega,by go_num,_,by assumption,by assumption⟩
    case measure=>
     rw[hq0]
     have hq1:mpOf C b z2 (.flatL (intOf (.int .i64 ((c:Int) - 1))).toNat) w'=mpOf C b z2 (.flatL (c - 1)) w':=by simp only[intOf];rw[show((c:Int) - 1).toNat=c - 1 by omega]
     show mpOf C b z2 (.flatL (intOf (.int .i64 ((c:Int) - 1))).toNat) w'<_
     rw[hq1,hq]
     exact Nat.lt_succ_of_le (least_spec (P:=Mp C b z2 (.flatL (c - 1)) w') ⟨_,by assumption,by assumption⟩).2
   rw[if_neg h64] at hy2
   obtain⟨y1,hy1,hy2⟩:=bind_some hy2
   replace hy2:=Lib.hid hy2
   have e0:((Res.ok s').kind == 0)=false:=by simp [*]
   have e59:((Res.ok s').kind == 59)=false:=by simp [*]
   have e64:((Res.ok s').kind == 64)=false:=by simp [*]
   go_wp2_with (first|(go_at_call 61;first|(refine(cmark_at ‹_›).mono ?_;rintro e w' ⟨rfl,rfl⟩)|(refine(cmark_bad ‹_›).mono ?_;rintro e w' ⟨⟨v,_,rfl⟩,rfl⟩))|(go_at_call 33;refine(cexpect_at ‹_› _ (by first|with_reducible assumption|exact Lib.hid rfl|assumption|exact run_hid _ _ _ _ _)).mono ?_;rintro e w' ⟨rfl,hat⟩)|(go_at_call 57;first|(refine(ckind_is ‹_› ‹_›).mono ?_;rintro e w' ⟨rfl,hat⟩)|(refine(ckind_at ‹_›).mono ?_;rintro e w' ⟨rfl,hat⟩))|(go_at_call 45;refine(cfail_at ‹_› _ (by first|with_reducible assumption|exact Lib.hid rfl|assumption|exact run_hid _ _ _ _ _)).mono ?_;rintro e w' ⟨v,rfl,hat⟩)|(go_at_call 31;refine(ctake_at ‹_› (by first|with_reducible assumption|exact Lib.hid rfl|assumption|exact run_hid _ _ _ _ _)).mono ?_;rintro e w' ⟨v,rfl,hat⟩)|(go_at_call 37;refine(cclose_at _ _ _ _ _ _ _ _ ‹_› (by first|exact fun _=>rfl|assumption|exact fun hb=>by cases hb) (by first|exact fun _=>low_ok ‹_›|(intro _;omega)|(intro hb;cases hb;done)|assumption) (by first|with_reducible assumption|exact Lib.hid rfl|assumption|exact run_hid _ _ _ _ _)).mono ?_;rintro e w' ⟨v,rfl,hat⟩))
   go_roundw
   case rel=>exact⟨c,k,by omega,rfl,_,by assumption,by assumption⟩
   case measure=>
    rw[hq0,hq]
    show mpOf C b z2 (.flatL (intOf (.int .i64 (c:Int))).toNat) w'<_
    rw[show mpOf C b z2 (.flatL (intOf (.int .i64 (c:Int))).toNat) w'=mpOf C b z2 (.flatL c) w' by simp [intOf]]
    exact Nat.lt_succ_of_le (least_spec (P:=Mp C b z2 (.flatL c) w') ⟨_,by assumption,by assumption⟩).2
open Go.RowKit
theorem Type_enters:Enters Tryz.prog 23:=enters_of Tryz.func23 (by kernel_rfl) rfl
theorem Sig_enters:Enters Tryz.prog 24:=enters_of Tryz.func24 (by kernel_rfl) rfl
theorem mapping_enters:Enters Tryz.prog 76:=enters_of Tryz.func76 (by kernel_rfl) rfl
theorem Type1_enters:Enters Tryz.prog 74:=enters_of Tryz.func74 (by kernel_rfl) rfl
theorem Type2_enters:Enters Tryz.prog 77:=enters_of Tryz.func77 (by kernel_rfl) rfl
theorem Type3_enters:Enters Tryz.prog 80:=enters_of Tryz.func80 (by kernel_rfl) rfl
theorem field_enters:Enters Tryz.prog 79:=enters_of Tryz.func79 (by kernel_rfl) rfl
theorem element_enters:Enters Tryz.prog 81:=enters_of Tryz.func81 (by kernel_rfl) rfl
theorem qualified_enters:Enters Tryz.prog 115:=enters_of Tryz.func115 (by kernel_rfl) rfl
theorem length1_enters:Enters Tryz.prog 138:=enters_of Tryz.func138 (by kernel_rfl) rfl
theorem Name_enters:Enters Tryz.prog 47:=enters_of Tryz.func47 (by kernel_rfl) rfl
theorem term_enters:Enters Tryz.prog 140:=enters_of Tryz.func140 (by kernel_rfl) rfl
theorem ccloseT_s {n:Nat} {C:Kc} {w:World} {b:Nat} {x z y:Res} (hat:Hid (CAt C w b x)) (h1:Hid (run n .tyL x=some z)) (h2:Hid (rExpect 63 z=some y)) (ih:∀ k,k≤n→AllC k):Calls Tryz.prog 116 #[.pointer (some ⟨b,0,none⟩),.func (.func 23) #[.pointer (some ⟨b,0,none⟩)] #[]] w (CPost C b y):=
 closeList_any (p:=.tyL) (n:=n) (g:=fun k=>run k .type) Type_enters (fun k hk w x y h hy=>by rw[Array.append_empty];exact(ih k hk).type _ _ _ _ _ h hy) (fun k s=>by rw[run]) hat h1 h2
theorem ctypeName_s {n:Nat} {C:Kc} {w:World} {b:Nat} {s:St} {z y:Res} (hat:Hid (CAt C w b (.ok s))) (h1:Hid (rQualified (.ok s)=some z)) (h3:Hid ((if z.kind=58 then(rTake z >>= fun u=>run n .type u >>= fun v=>run n .tyL v >>= fun v2=>rExpect 63 v2 >>= fun v3=>rClose s.R.length 208 v3) else some z)=some y)) (ih:∀ k,k≤n→AllC k):Calls Tryz.prog 72 #[.pointer (some ⟨b,0,none⟩)] w (CPost C b y):=by
 have hy:=h3.out
 clear h3
 iterate 16 (all_goals try(first|split at hy|(rw[bind_iff] at hy;obtain⟨z,hz,hy⟩:=hy;try(rw[some_hid] at hz;subst hz))))
 all_goals(first|(obtain rfl:=Option.some.inj hy)|(replace hy:=Lib.hid hy))
 iterate 2 (all_goals try(rename _∧_=>ho;obtain⟨_,_⟩:=ho))
 iterate 7 (all_goals try(rename _∨_=>ho;rcases ho with ho|ho))
 all_goals(repeat (rename ¬ (_∨_)=>ho;rw[not_or] at ho;obtain⟨_,_⟩:=ho))
 all_goals(try have e58:(z.kind == 58)=false:=by simp [*])
 all_goals go_enter Tryz.func72,Tryz.ntmps72
 all_goals go_wp2_with (first|(go_at_call 61;first|(refine(cmark_at ‹_›).mono ?_;rintro e w' ⟨rfl,rfl⟩)|(refine(cmark_bad ‹_›).mono ?_;rintro e w' ⟨⟨v,_,rfl⟩,rfl⟩))|(go_at_call 115;refine(cqualified_at ‹_› (by first|with_reducible assumption|exact Lib.hid rfl|assumption|exact run_hid _ _ _ _ _)).mono ?_;rintro e w' ⟨v,rfl,hat⟩)|(go_at_call 83;first|(refine(ccame_yes ‹_› ‹_› (by first|with_reducible assumption|exact Lib.hid rfl|assumption|exact run_hid _ _ _ _ _)).mono ?_;rintro e w' ⟨rfl,hat⟩)|(refine(ccame_no ‹_› ?hno).mono ?_;(case hno=>first|assumption|rfl|simp [*]);rintro e w' ⟨rfl,hat⟩))|(go_at_call 23;first|(refine((ih _ ?hk).type _ _ _ _ _ ‹_› ‹_›).mono ?_;(case hk=>omega);rintro e w' ⟨v,rfl,hat⟩)|(refine(cType_f _ _ _ _ _ _ ‹_›).mono ?_;rintro e w' ⟨v,rfl,hat⟩))|(go_at_call 37;refine(cclose_at _ _ _ _ _ _ _ _ ‹_› (by first|exact fun _=>rfl|assumption|exact fun hb=>by cases hb) (by first|exact fun _=>low_ok ‹_›|(intro _;omega)|(intro hb;cases hb;done)|assumption) (by first|with_reducible assumption|exact Lib.hid rfl|assumption|exact run_hid _ _ _ _ _)).mono ?_;rintro e w' ⟨v,rfl,hat⟩)|(go_at_call 116;refine(ccloseT_s ‹_› ‹_› ‹_› (fun j hj=>ih j (by omega))).mono ?_;rintro e w' ⟨v,rfl,hat⟩))
 all_goals(first|go_end0|go_ret)
 all_goals exact⟨_,rfl,by assumption⟩
theorem clength1_any (w:World):Calls Tryz.prog 138 #[] w fun e w'=>(∃ v,e=.returned v)∧w=w':=by
 go_enter Tryz.func138,Tryz.ntmps138
 go_wp2_with fail
 go_end0
 exact⟨⟨_,rfl⟩,rfl⟩
theorem clength1_fun {C:Kc} {b:Nat}:CFun C b 138 (#[] ++ #[]) (fun r=>some r):=by
 intro w x y h hy
 rw[Array.append_empty]
 refine(clength1_any w).mono ?_
 rintro e w' ⟨⟨v,rfl⟩,rfl⟩
 have e:=Option.some.inj hy.out
 rw[← e]
 exact⟨v,rfl,h⟩
theorem clength_s {n:Nat} {C:Kc} {w:World} {b:Nat} {s:St} {y:Res} (hat:Hid (CAt C w b (.ok s))) (h3:Hid ((if (Res.ok s).kind=56 then(rTake (.ok s) >>= fun u=>rClose s.R.length 218 u) else run n (.X false) (.ok s))=some y)) (ih:∀ k,k≤n→AllC k):Calls Tryz.prog 117 #[.pointer (some ⟨b,0,none⟩)] w (CPost C b y):=by
 have hy:=h3.out
 clear h3
 iterate 16 (all_goals try(first|split at hy|(rw[bind_iff] at hy;obtain⟨z,hz,hy⟩:=hy;try(rw[some_hid] at hz;subst hz))))
 all_goals(first|(obtain rfl:=Option.some.inj hy)|(replace hy:=Lib.hid hy))
 iterate 2 (all_goals try(rename _∧_=>ho;obtain⟨_,_⟩:=ho))
 iterate 7 (all_goals try(rename _∨_=>ho;rcases ho with ho|ho))
 all_goals(repeat (rename ¬ (_∨_)=>ho;rw[not_or] at ho;obtain⟨_,_⟩:=ho))
 all_goals(try have e56:((Res.ok s).kind == 56)=false:=by simp [*])
 all_goals go_enter Tryz.func117,Tryz.ntmps117
 all_goals go_wp2_with (first|(go_at_call 57;first|(refine(ckind_is ‹_› ‹_›).mono ?_;rintro e w' ⟨rfl,hat⟩)|(refine(ckind_at ‹_›).mono ?_;rintro e w' ⟨rfl,hat⟩))|(go_at_call 139;first|(refine(cinside_at (ih:=ih _ ?hk) ‹_› ‹_›).mono ?_;(case hk=>omega);rintro e w' ⟨v,rfl,hat⟩)|(refine(cinside_f _ _ _ _ _ _ ‹_›).mono ?_;rintro e w' ⟨v,rfl,hat⟩))|(go_at_call 73;refine(wrapped_any (A:=#[]) (B:=#[]) (g:=fun r=>some r) length1_enters clength1_fun ‹_› ‹_› (Lib.hid rfl) ‹_›).mono ?_;rintro e w' ⟨v,rfl,hat⟩))
 all_goals(first|go_end0|go_ret)
 all_goals exact⟨_,rfl,by assumption⟩
open Go.RowKit
theorem cendsName_at {C:Kc} {w:World} {b:Nat} {x:Res} (h:Hid (CAt C w b x)):Calls Tryz.prog 118 #[.pointer (some ⟨b,0,none⟩)] w fun e w'=>e=.returned (.bool (x.ahead 1 == 15 || x.ahead 1 == 16 || x.ahead 1 == 64 || x.ahead 1 == 61))∧Hid (CAt C w' b x):=by
 have HA:=Lib.hid (cahead_at h 1 (by decide))
 clear h
 generalize x.ahead 1=z at *
 have hcase:∃ r:Bool,(z == 15 || z == 16 || z == 64 || z == 61)=r:=⟨_,rfl⟩
 obtain⟨r,hr⟩:=hcase
 by_cases h15:z=15
 ·subst h15
  all_goals go_enter Tryz.func118,Tryz.ntmps118
  all_goals go_wp2_with (go_at_call 59;refine HA.out.mono ?_;rintro e w' ⟨rfl,hat⟩)
  all_goals(first|go_end0|go_ret)
  all_goals exact⟨rfl,hat⟩
 by_cases h16:z=16
 ·subst h16
  all_goals go_enter Tryz.func118,Tryz.ntmps118
  all_goals go_wp2_with (go_at_call 59;refine HA.out.mono ?_;rintro e w' ⟨rfl,hat⟩)
  all_goals(first|go_end0|go_ret)
  all_goals exact⟨rfl,hat⟩
 by_cases h64:z=64
 ·subst h64
  all_goals go_enter Tryz.func118,Tryz.ntmps118
  all_goals go_wp2_with (go_at_call 59;refine HA.out.mono ?_;rintro e w' ⟨rfl,hat⟩)
  all_goals(first|go_end0|go_ret)
  all_goals exact⟨rfl,hat⟩
 by_cases h61:z=61
 ·subst h61
  all_goals go_enter Tryz.func118,Tryz.ntmps118
  all_goals go_wp2_with (go_at_call 59;refine HA.out.mono ?_;rintro e w' ⟨rfl,hat⟩)
  all_goals(first|go_end0|go_ret)
  all_goals exact⟨rfl,hat⟩
 have e15:(z == 15)=false:=beq_eq_false_iff_ne.2 h15
 have e16:(z == 16)=false:=beq_eq_false_iff_ne.2 h16
 have e64:(z == 64)=false:=beq_eq_false_iff_ne.2 h64
 have e61:(z == 61)=false:=beq_eq_false_iff_ne.2 h61
 rw[e15,e16,e64,e61]
 all_goals go_enter Tryz.func118,Tryz.ntmps118
 all_goals go_wp2_with (go_at_call 59;refine HA.out.mono ?_;rintro e w' ⟨rfl,hat⟩)
 all_goals(first|go_end0|go_ret)
 all_goals exact⟨rfl,hat⟩
theorem cendsName_is {C:Kc} {w:World} {b:Nat} {x:Res} (h:Hid (CAt C w b x)) {r:Bool} (hr:(x.ahead 1 == 15 || x.ahead 1 == 16 || x.ahead 1 == 64 || x.ahead 1 == 61)=r):Calls Tryz.prog 118 #[.pointer (some ⟨b,0,none⟩)] w fun e w'=>e=.returned (.bool r)∧Hid (CAt C w' b x):=by
 rw[← hr];exact cendsName_at h
theorem cjoinedName_s {n:Nat} (hn:n≤1099511627776) {C:Kc} {w:World} {b:Nat} {x z y:Res} (hat:Hid (CAt C w b x)) (h1:Hid (rName x=some z)) (h2:Hid (run n .names z=some y)):Calls Tryz.prog 84 #[.pointer (some ⟨b,0,none⟩),.int .i64 60,.func (.func 47) #[.pointer (some ⟨b,0,none⟩)] #[]] w fun e w'=>∃ c:Int,e=.returned (.int .i64 c)∧Hid (CAt C w' b y):=by
 refine(joined_any (p:=.names) (n:=n) (g:=fun _=>rName) (A:=#[.pointer (some ⟨b,0,none⟩)]) (B:=#[]) (by':=60) hn Name_enters (fun k hk w x y h hy=>by rw[Array.append_empty];exact cname_at h hy) (by decide) (fun k s=>by rw[run]) hat h1 h2).mono ?_
 rintro e w' ⟨c,rfl,h,_⟩
 exact⟨c,rfl,h⟩
end Go.Proofs.YtmelbeefjgjdhaaGreat.rd
