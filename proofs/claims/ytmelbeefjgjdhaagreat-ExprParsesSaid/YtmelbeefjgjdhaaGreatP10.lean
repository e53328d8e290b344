/-
  Texts put together: Fn.
-/
import Derived.Test.YtmelbeefjgjdhaaGreatP5
set_option maxRecDepth 100000
set_option maxHeartbeats 8000000
namespace Go.Proofs.YtmelbeefjgjdhaaGreat.rd
open Go.RowKit
theorem unary_s {n:Nat} (HCL:CloseC) (ih:∀ k,k≤n→All k):CB 124 (n+1) .unary:=by
 have _:=HCL
 have _:=ih
 intro C w b x y h hat hy
 have hy:=hy.out
 cases x with
 |fail d0 d1 d2=>
  rw[run_fail] at hy
  obtain rfl:=Option.some.inj hy
  exact unary_f HCL _ _ _ _ _ _ _ hat
 |ok s=>
  rw[run] at hy
  try dsimp only at hy
  split at hy
  ·obtain⟨z1,hz1,hy⟩:=bind_some hy
   obtain⟨z2,hz2,hy⟩:=bind_some hy
   iterate 5 (all_goals try(rename _∨_=>ho;rcases ho with ho|ho))
   all_goals(
    cases z2 with
    |fail a0 a1 a2=>
     simp only[run_fail,rUp_f,rClose_f,Option.bind_eq_bind,Option.bind_some] at hy
     obtain rfl:=Option.some.inj hy
     clear hy
     all_goals go_enter Tryz.func124,Tryz.ntmps124
     all_goals go_wp2_with (first|(go_at_call 62;first|(refine(mark_at ‹_›).mono ?_;rintro e w' ⟨rfl,rfl⟩)|(refine(mark_bad ‹_›).mono ?_;rintro e w' ⟨⟨v,rfl⟩,rfl⟩))|(go_at_call 32;refine(take_at ‹_› (by first|with_reducible assumption|exact Lib.hid rfl|assumption|exact run_hid _ _ _ _ _)).mono ?_;rintro e w' ⟨v,rfl,hat⟩)|(go_at_call 42;refine(down_at ‹_› (by first|with_reducible assumption|exact Lib.hid rfl|assumption|exact run_hid _ _ _ _ _)).mono ?_;rintro e w' ⟨rfl,hat⟩)|(go_at_call 124;first|(refine((ih _ ?hk).unary _ _ _ _ _ _ ‹_› ‹_›).mono ?_;(case hk=>omega);rintro e w' ⟨v,rfl,hat⟩)|(refine(unary_f HCL _ _ _ _ _ _ _ ‹_›).mono ?_;rintro e w' ⟨v,rfl,hat⟩))|(go_at_call 44;refine(up_at ‹_› (by first|with_reducible assumption|exact Lib.hid rfl|assumption|exact run_hid _ _ _ _ _)).mono ?_;rintro e w' ⟨v,rfl,hat⟩)|(go_at_call 38;refine(HCL _ _ _ _ _ _ _ _ ‹_› (by first|exact fun _=>rfl|assumption|exact fun hb=>by cases hb) (by first|with_reducible assumption|exact Lib.hid rfl|assumption|exact run_hid _ _ _ _ _)).mono ?_;rintro e w' ⟨v,rfl,hat⟩)|(go_at_call 143;first|(refine((ih _ ?hk).primary _ _ _ _ _ _ ‹_› ‹_›).mono ?_;(case hk=>omega);rintro e w' ⟨v,rfl,hat⟩)|(refine(primary_f HCL _ _ _ _ _ _ _ ‹_›).mono ?_;rintro e w' ⟨v,rfl,hat⟩))|(go_at_call 95;first|(with_reducible refine(comes1_yes ‹_› ?hc).mono ?_;(case hc=>simp [Res.comes, *]);rintro e w' ⟨rfl,hat⟩)|(with_reducible refine(comes1_no ‹_› ?hc).mono ?_;(case hc=>simp [Res.comes, *]);rintro e w' ⟨rfl,hat⟩)|(with_reducible refine(comes6_yes ‹_› ?hc).mono ?_;(case hc=>simp [Res.comes, *]);rintro e w' ⟨rfl,hat⟩)|(with_reducible refine(comes6_no ‹_› ?hc).mono ?_;(case hc=>simp [Res.comes, *]);rintro e w' ⟨rfl,hat⟩)))
     all_goals(first|go_end0|go_ret)
     all_goals exact⟨_,rfl,by assumption⟩
    |ok t=>
     rw[bind_iff] at hy
     obtain⟨z3,hz3,hy⟩:=hy
     rw[bind_iff] at hy
     obtain⟨z4,hz4,hy⟩:=hy
     replace hy:=Lib.hid hy
     all_goals go_enter Tryz.func124,Tryz.ntmps124
     all_goals go_wp2_with (first|(go_at_call 62;first|(refine(mark_at ‹_›).mono ?_;rintro e w' ⟨rfl,rfl⟩)|(refine(mark_bad ‹_›).mono ?_;rintro e w' ⟨⟨v,rfl⟩,rfl⟩))|(go_at_call 32;refine(take_at ‹_› (by first|with_reducible assumption|exact Lib.hid rfl|assumption|exact run_hid _ _ _ _ _)).mono ?_;rintro e w' ⟨v,rfl,hat⟩)|(go_at_call 42;refine(down_at ‹_› (by first|with_reducible assumption|exact Lib.hid rfl|assumption|exact run_hid _ _ _ _ _)).mono ?_;rintro e w' ⟨rfl,hat⟩)|(go_at_call 124;first|(refine((ih _ ?hk).unary _ _ _ _ _ _ ‹_› ‹_›).mono ?_;(case hk=>omega);rintro e w' ⟨v,rfl,hat⟩)|(refine(unary_f HCL _ _ _ _ _ _ _ ‹_›).mono ?_;rintro e w' ⟨v,rfl,hat⟩))|(go_at_call 44;refine(up_at ‹_› (by first|with_reducible assumption|exact Lib.hid rfl|assumption|exact run_hid _ _ _ _ _)).mono ?_;rintro e w' ⟨v,rfl,hat⟩)|(go_at_call 38;refine(HCL _ _ _ _ _ _ _ _ ‹_› (by first|exact fun _=>rfl|assumption|exact fun hb=>by cases hb) (by first|with_reducible assumption|exact Lib.hid rfl|assumption|exact run_hid _ _ _ _ _)).mono ?_;rintro e w' ⟨v,rfl,hat⟩)|(go_at_call 143;first|(refine((ih _ ?hk).primary _ _ _ _ _ _ ‹_› ‹_›).mono ?_;(case hk=>omega);rintro e w' ⟨v,rfl,hat⟩)|(refine(primary_f HCL _ _ _ _ _ _ _ ‹_›).mono ?_;rintro e w' ⟨v,rfl,hat⟩))|(go_at_call 95;first|(with_reducible refine(comes1_yes ‹_› ?hc).mono ?_;(case hc=>simp [Res.comes, *]);rintro e w' ⟨rfl,hat⟩)|(with_reducible refine(comes1_no ‹_› ?hc).mono ?_;(case hc=>simp [Res.comes, *]);rintro e w' ⟨rfl,hat⟩)|(with_reducible refine(comes6_yes ‹_› ?hc).mono ?_;(case hc=>simp [Res.comes, *]);rintro e w' ⟨rfl,hat⟩)|(with_reducible refine(comes6_no ‹_› ?hc).mono ?_;(case hc=>simp [Res.comes, *]);rintro e w' ⟨rfl,hat⟩)))
     all_goals(first|go_end0|go_ret)
     all_goals exact⟨_,rfl,by assumption⟩)
  ·split at hy
   ·obtain⟨z1,hz1,hy⟩:=bind_some hy
    obtain⟨z2,hz2,hy⟩:=bind_some hy
    iterate 5 (all_goals try(rename _∨_=>ho;rcases ho with ho|ho))
    all_goals(
     cases z2 with
     |fail a0 a1 a2=>
      simp only[run_fail,rUp_f,rClose_f,Option.bind_eq_bind,Option.bind_some] at hy
      obtain rfl:=Option.some.inj hy
      clear hy
      all_goals go_enter Tryz.func124,Tryz.ntmps124
      all_goals go_wp2_with (first|(go_at_call 62;first|(refine(mark_at ‹_›).mono ?_;rintro e w' ⟨rfl,rfl⟩)|(refine(mark_bad ‹_›).mono ?_;rintro e w' ⟨⟨v,rfl⟩,rfl⟩))|(go_at_call 32;refine(take_at ‹_› (by first|with_reducible assumption|exact Lib.hid rfl|assumption|exact run_hid _ _ _ _ _)).mono ?_;rintro e w' ⟨v,rfl,hat⟩)|(go_at_call 42;refine(down_at ‹_› (by first|with_reducible assumption|exact Lib.hid rfl|assumption|exact run_hid _ _ _ _ _)).mono ?_;rintro e w' ⟨rfl,hat⟩)|(go_at_call 124;first|(refine((ih _ ?hk).unary _ _ _ _ _ _ ‹_› ‹_›).mono ?_;(case hk=>omega);rintro e w' ⟨v,rfl,hat⟩)|(refine(unary_f HCL _ _ _ _ _ _ _ ‹_›).mono ?_;rintro e w' ⟨v,rfl,hat⟩))|(go_at_call 44;refine(up_at ‹_› (by first|with_reducible assumption|exact Lib.hid rfl|assumption|exact run_hid _ _ _ _ _)).mono ?_;rintro e w' ⟨v,rfl,hat⟩)|(go_at_call 38;refine(HCL _ _ _ _ _ _ _ _ ‹_› (by first|exact fun _=>rfl|assumption|exact fun hb=>by cases hb) (by first|with_reducible assumption|exact Lib.hid rfl|assumption|exact run_hid _ _ _ _ _)).mono ?_;rintro e w' ⟨v,rfl,hat⟩)|(go_at_call 143;first|(refine((ih _ ?hk).primary _ _ _ _ _ _ ‹_› ‹_›).mono ?_;(case hk=>omega);rintro e w' ⟨v,rfl,hat⟩)|(refine(primary_f HCL _ _ _ _ _ _ _ ‹_›).mono ?_;rintro e w' ⟨v,rfl,hat⟩))|(go_at_call 95;first|(with_reducible refine(comes1_yes ‹_› ?hc).mono ?_;(case hc=>simp [Res.comes, *]);rintro e w' ⟨rfl,hat⟩)|(with_reducible refine(comes1_no ‹_› ?hc).mono ?_;(case hc=>simp [Res.comes, *]);rintro e w' ⟨rfl,hat⟩)|(with_reducible refine(comes6_yes ‹_› ?hc).mono ?_;(case hc=>simp [Res.comes, *]);rintro e w' ⟨rfl,hat⟩)|(with_reducible refine(comes6_no ‹_› ?hc).mono ?_;(case hc=>simp [Res.comes, *]);rintro e w' ⟨rfl,hat⟩)))
      all_goals(first|go_end0|go_ret)
      all_goals exact⟨_,rfl,by assumption⟩
     |ok t=>
      rw[bind_iff] at hy
      obtain⟨z3,hz3,hy⟩:=hy
      rw[bind_iff] at hy
      obtain⟨z4,hz4,hy⟩:=hy
      replace hy:=Lib.hid hy
      all_goals go_enter Tryz.func124,Tryz.ntmps124
      all_goals go_wp2_with (first|(go_at_call 62;first|(refine(mark_at ‹_›).mono ?_;rintro e w' ⟨rfl,rfl⟩)|(refine(mark_bad ‹_›).mono ?_;rintro e w' ⟨⟨v,rfl⟩,rfl⟩))|(go_at_call 32;refine(take_at ‹_› (by first|with_reducible assumption|exact Lib.hid rfl|assumption|exact run_hid _ _ _ _ _)).mono ?_;rintro e w' ⟨v,rfl,hat⟩)|(go_at_call 42;refine(down_at ‹_› (by first|with_reducible assumption|exact Lib.hid rfl|assumption|exact run_hid _ _ _ _ _)).mono ?_;rintro e w' ⟨rfl,hat⟩)|(go_at_call 124;first|(refine((ih _ ?hk).unary _ _ _ _ _ _ ‹_› ‹_›).mono ?_;(case hk=>omega);rintro e w' ⟨v,rfl,hat⟩)|(refine(unary_f HCL _ _ _ _ _ _ _ ‹_›).mono ?_;rintro e w' ⟨v,rfl,hat⟩))|(go_at_call 44;refine(up_at ‹_› (by first|with_reducible assumption|exact Lib.hid rfl|assumption|exact run_hid _ _ _ _ _)).mono ?_;rintro e w' ⟨v,rfl,hat⟩)|(go_at_call 38;refine(HCL _ _ _ _ _ _ _ _ ‹_› (by first|exact fun _=>rfl|assumption|exact fun hb=>by cases hb) (by first|with_reducible assumption|exact Lib.hid rfl|assumption|exact run_hid _ _ _ _ _)).mono ?_;rintro e w' ⟨v,rfl,hat⟩)|(go_at_call 143;first|(refine((ih _ ?hk).primary _ _ _ _ _ _ ‹_› ‹_›).mono ?_;(case hk=>omega);rintro e w' ⟨v,rfl,hat⟩)|(refine(primary_f HCL _ _ _ _ _ _ _ ‹_›).mono ?_;rintro e w' ⟨v,rfl,hat⟩))|(go_at_call 95;first|(with_reducible refine(comes1_yes ‹_› ?hc).mono ?_;(case hc=>simp [Res.comes, *]);rintro e w' ⟨rfl,hat⟩)|(with_reducible refine(comes1_no ‹_› ?hc).mono ?_;(case hc=>simp [Res.comes, *]);rintro e w' ⟨rfl,hat⟩)|(with_reducible refine(comes6_yes ‹_› ?hc).mono ?_;(case hc=>simp [Res.comes, *]);rintro e w' ⟨rfl,hat⟩)|(with_reducible refine(comes6_no ‹_› ?hc).mono ?_;(case hc=>simp [Res.comes, *]);rintro e w' ⟨rfl,hat⟩)))
      all_goals(first|go_end0|go_ret)
      all_goals exact⟨_,rfl,by assumption⟩)
   ·replace hy:=Lib.hid hy
    rename ¬ (_∨_)=>ho
    simp only[not_or] at ho
    obtain⟨_,_,_,_,_⟩:=ho
    all_goals go_enter Tryz.func124,Tryz.ntmps124
    all_goals go_wp2_with (first|(go_at_call 62;first|(refine(mark_at ‹_›).mono ?_;rintro e w' ⟨rfl,rfl⟩)|(refine(mark_bad ‹_›).mono ?_;rintro e w' ⟨⟨v,rfl⟩,rfl⟩))|(go_at_call 32;refine(take_at ‹_› (by first|with_reducible assumption|exact Lib.hid rfl|assumption|exact run_hid _ _ _ _ _)).mono ?_;rintro e w' ⟨v,rfl,hat⟩)|(go_at_call 42;refine(down_at ‹_› (by first|with_reducible assumption|exact Lib.hid rfl|assumption|exact run_hid _ _ _ _ _)).mono ?_;rintro e w' ⟨rfl,hat⟩)|(go_at_call 124;first|(refine((ih _ ?hk).unary _ _ _ _ _ _ ‹_› ‹_›).mono ?_;(case hk=>omega);rintro e w' ⟨v,rfl,hat⟩)|(refine(unary_f HCL _ _ _ _ _ _ _ ‹_›).mono ?_;rintro e w' ⟨v,rfl,hat⟩))|(go_at_call 44;refine(up_at ‹_› (by first|with_reducible assumption|exact Lib.hid rfl|assumption|exact run_hid _ _ _ _ _)).mono ?_;rintro e w' ⟨v,rfl,hat⟩)|(go_at_call 38;refine(HCL _ _ _ _ _ _ _ _ ‹_› (by first|exact fun _=>rfl|assumption|exact fun hb=>by cases hb) (by first|with_reducible assumption|exact Lib.hid rfl|assumption|exact run_hid _ _ _ _ _)).mono ?_;rintro e w' ⟨v,rfl,hat⟩)|(go_at_call 143;first|(refine((ih _ ?hk).primary _ _ _ _ _ _ ‹_› ‹_›).mono ?_;(case hk=>omega);rintro e w' ⟨v,rfl,hat⟩)|(refine(primary_f HCL _ _ _ _ _ _ _ ‹_›).mono ?_;rintro e w' ⟨v,rfl,hat⟩))|(go_at_call 95;first|(with_reducible refine(comes1_yes ‹_› ?hc).mono ?_;(case hc=>simp [Res.comes, *]);rintro e w' ⟨rfl,hat⟩)|(with_reducible refine(comes1_no ‹_› ?hc).mono ?_;(case hc=>simp [Res.comes, *]);rintro e w' ⟨rfl,hat⟩)|(with_reducible refine(comes6_yes ‹_› ?hc).mono ?_;(case hc=>simp [Res.comes, *]);rintro e w' ⟨rfl,hat⟩)|(with_reducible refine(comes6_no ‹_› ?hc).mono ?_;(case hc=>simp [Res.comes, *]);rintro e w' ⟨rfl,hat⟩)))
    all_goals(first|go_end0|go_ret)
    all_goals exact⟨_,rfl,by assumption⟩
theorem binary_s {n:Nat} (HCL:CloseC) (ih:∀ k,k≤n→All k):CBin 94 (n+1):=by
 intro C w b x y p h hat hy
 have hy:=hy.out
 cases x with
 |fail d0 d1 d2=>
  rw[run_fail] at hy
  obtain rfl:=Option.some.inj hy
  exact binary_f HCL _ _ _ _ _ _ _ _ hat
 |ok s=>
  rw[run] at hy
  rw[bind_iff] at hy
  obtain⟨z1,hz1,hy⟩:=hy
  replace hy:=Lib.hid hy
  go_enter Tryz.func94,Tryz.ntmps94
  go_wp2_with (first|(go_at_call 62;first|(refine(mark_at ‹_›).mono ?_;rintro e w' ⟨rfl,rfl⟩)|(refine(mark_bad ‹_›).mono ?_;rintro e w' ⟨⟨v,rfl⟩,rfl⟩))|(go_at_call 58;first|(refine(kind_is ‹_› ‹_›).mono ?_;rintro e w' ⟨rfl,rfl⟩)|(refine(kind_at ‹_›).mono ?_;rintro e w' ⟨rfl,rfl⟩))|(go_at_call 124;first|(refine((ih _ ?hk).unary _ _ _ _ _ _ ‹_› ‹_›).mono ?_;(case hk=>omega);rintro e w' ⟨v,rfl,hat⟩)|(refine(unary_f HCL _ _ _ _ _ _ _ ‹_›).mono ?_;rintro e w' ⟨v,rfl,hat⟩))|(go_at_call 32;refine(take_at ‹_› (by first|with_reducible assumption|exact Lib.hid rfl|assumption|exact run_hid _ _ _ _ _)).mono ?_;rintro e w' ⟨v,rfl,hat⟩)|(go_at_call 94;first|(refine((ih _ ?hk).binary _ _ _ _ _ _ _ ‹_› ‹_›).mono ?_;(case hk=>omega);rintro e w' ⟨v,rfl,hat⟩)|(refine(binary_f HCL _ _ _ _ _ _ _ _ ‹_›).mono ?_;rintro e w' ⟨v,rfl,hat⟩))|(go_at_call 38;refine(HCL _ _ _ _ _ _ _ _ ‹_› (by first|exact fun _=>rfl|assumption|exact fun hb=>by cases hb) (by first|with_reducible assumption|exact Lib.hid rfl|assumption|exact run_hid _ _ _ _ _)).mono ?_;rintro e w' ⟨v,rfl,hat⟩)|(go_at_call 125;refine(refPrec_any _ _).mono ?_;rintro e w' ⟨rfl,rfl⟩))
  go_loopw [] (fun wr=>Lq C b y (.binL p h s.R.length) n wr) (fun wr=>lpOf C b y (.binL p h s.R.length) wr)
  case atStart=>exact Lq.at ‹_› ‹_›
  case round=>
   rcases hrel.out with⟨d0,d1,d2,hu,hat⟩|⟨k,s',hk,hq,hat,hy'⟩
   ·subst hu
    have hk0:(Res.fail d0 d1 d2).kind=0:=rfl
    go_wp2_with (first|(go_at_call 62;first|(refine(mark_at ‹_›).mono ?_;rintro e w' ⟨rfl,rfl⟩)|(refine(mark_bad ‹_›).mono ?_;rintro e w' ⟨⟨v,rfl⟩,rfl⟩))|(go_at_call 58;first|(refine(kind_is ‹_› ‹_›).mono ?_;rintro e w' ⟨rfl,rfl⟩)|(refine(kind_at ‹_›).mono ?_;rintro e w' ⟨rfl,rfl⟩))|(go_at_call 124;first|(refine((ih _ ?hk).unary _ _ _ _ _ _ ‹_› ‹_›).mono ?_;(case hk=>omega);rintro e w' ⟨v,rfl,hat⟩)|(refine(unary_f HCL _ _ _ _ _ _ _ ‹_›).mono ?_;rintro e w' ⟨v,rfl,hat⟩))|(go_at_call 32;refine(take_at ‹_› (by first|with_reducible assumption|exact Lib.hid rfl|assumption|exact run_hid _ _ _ _ _)).mono ?_;rintro e w' ⟨v,rfl,hat⟩)|(go_at_call 94;first|(refine((ih _ ?hk).binary _ _ _ _ _ _ _ ‹_› ‹_›).mono ?_;(case hk=>omega);rintro e w' ⟨v,rfl,hat⟩)|(refine(binary_f HCL _ _ _ _ _ _ _ _ ‹_›).mono ?_;rintro e w' ⟨v,rfl,hat⟩))|(go_at_call 38;refine(HCL _ _ _ _ _ _ _ _ ‹_› (by first|exact fun _=>rfl|assumption|exact fun hb=>by cases hb) (by first|with_reducible assumption|exact Lib.hid rfl|assumption|exact run_hid _ _ _ _ _)).mono ?_;rintro e w' ⟨v,rfl,hat⟩)|(go_at_call 125;refine(refPrec_any _ _).mono ?_;rintro e w' ⟨rfl,rfl⟩))
    all_goals(first
     |(go_roundw;(case rel=>exact(Lq.less (by omega) ‹_› ‹_› hq).1);(case measure=>exact(Lq.less (n:=n) (by omega) ‹_› ‹_› hq).2))
     |(go_end0;exact⟨_,rfl,by assumption⟩)
     |(go_ret;exact⟨_,rfl,by assumption⟩))
   ·rw[run] at hy'
    try dsimp only at hy'
    have hy2:=hy'
    clear hy'
    split at hy2
    ·obtain rfl:=Option.some.inj hy2
     rename _∨_=>ho
     by_cases hq0:precOf (Res.ok s').kind=0
     ·have e0:(precOf (Res.ok s').kind == 0)=true:=by simp [hq0]
      go_wp2_with (first|(go_at_call 62;first|(refine(mark_at ‹_›).mono ?_;rintro e w' ⟨rfl,rfl⟩)|(refine(mark_bad ‹_›).mono ?_;rintro e w' ⟨⟨v,rfl⟩,rfl⟩))|(go_at_call 58;first|(refine(kind_is ‹_› ‹_›).mono ?_;rintro e w' ⟨rfl,rfl⟩)|(refine(kind_at ‹_›).mono ?_;rintro e w' ⟨rfl,rfl⟩))|(go_at_call 124;first|(refine((ih _ ?hk).unary _ _ _ _ _ _ ‹_› ‹_›).mono ?_;(case hk=>omega);rintro e w' ⟨v,rfl,hat⟩)|(refine(unary_f HCL _ _ _ _ _ _ _ ‹_›).mono ?_;rintro e w' ⟨v,rfl,hat⟩))|(go_at_call 32;refine(take_at ‹_› (by first|with_reducible assumption|exact Lib.hid rfl|assumption|exact run_hid _ _ _ _ _)).mono ?_;rintro e w' ⟨v,rfl,hat⟩)|(go_at_call 94;first|(refine((ih _ ?hk).binary _ _ _ _ _ _ _ ‹_› ‹_›).mono ?_;(case hk=>omega);rintro e w' ⟨v,rfl,hat⟩)|(refine(binary_f HCL _ _ _ _ _ _ _ _ ‹_›).mono ?_;rintro e w' ⟨v,rfl,hat⟩))|(go_at_call 38;refine(HCL _ _ _ _ _ _ _ _ ‹_› (by first|exact fun _=>rfl|assumption|exact fun hb=>by cases hb) (by first|with_reducible assumption|exact Lib.hid rfl|assumption|exact run_hid _ _ _ _ _)).mono ?_;rintro e w' ⟨v,rfl,hat⟩)|(go_at_call 125;refine(refPrec_any _ _).mono ?_;rintro e w' ⟨rfl,rfl⟩))
      all_goals(first
     |(go_roundw;(case rel=>exact(Lq.less (by omega) ‹_› ‹_› hq).1);(case measure=>exact(Lq.less (n:=n) (by omega) ‹_› ‹_› hq).2))
     |(go_end0;exact⟨_,rfl,by assumption⟩)
     |(go_ret;exact⟨_,rfl,by assumption⟩))
     ·have hq1:precOf (Res.ok s').kind<p:=by rcases ho with ho|ho;exact absurd ho hq0;exact ho
      have e0:(precOf (Res.ok s').kind == 0)=false:=by simp [hq0]
      have e1:decide (precOf (Res.ok s').kind<p)=true:=by simp [hq1]
      go_wp2_with (first|(go_at_call 62;first|(refine(mark_at ‹_›).mono ?_;rintro e w' ⟨rfl,rfl⟩)|(refine(mark_bad ‹_›).mono ?_;rintro e w' ⟨⟨v,rfl⟩,rfl⟩))|(go_at_call 58;first|(refine(kind_is ‹_› ‹_›).mono ?_;rintro e w' ⟨rfl,rfl⟩)|(refine(kind_at ‹_›).mono ?_;rintro e w' ⟨rfl,rfl⟩))|(go_at_call 124;first|(refine((ih _ ?hk).unary _ _ _ _ _ _ ‹_› ‹_›).mono ?_;(case hk=>omega);rintro e w' ⟨v,rfl,hat⟩)|(refine(unary_f HCL _ _ _ _ _ _ _ ‹_›).mono ?_;rintro e w' ⟨v,rfl,hat⟩))|(go_at_call 32;refine(take_at ‹_› (by first|with_reducible assumption|exact Lib.hid rfl|assumption|exact run_hid _ _ _ _ _)).mono ?_;rintro e w' ⟨v,rfl,hat⟩)|(go_at_call 94;first|(refine((ih _ ?hk).binary _ _ _ _ _ _ _ ‹_› ‹_›).mono ?_;(case hk=>omega);rintro e w' ⟨v,rfl,hat⟩)|(refine(binary_f HCL _ _ _ _ _ _ _ _ ‹_›).mono ?_;rintro e w' ⟨v,rfl,hat⟩))|(go_at_call 38;refine(HCL _ _ _ _ _ _ _ _ ‹_› (by first|exact fun _=>rfl|assumption|exact fun hb=>by cases hb) (by first|with_reducible assumption|exact Lib.hid rfl|assumption|exact run_hid _ _ _ _ _)).mono ?_;rintro e w' ⟨v,rfl,hat⟩)|(go_at_call 125;refine(refPrec_any _ _).mono ?_;rintro e w' ⟨rfl,rfl⟩))
      all_goals(first
     |(go_roundw;(case rel=>exact(Lq.less (by omega) ‹_› ‹_› hq).1);(case measure=>exact(Lq.less (n:=n) (by omega) ‹_› ‹_› hq).2))
     |(go_end0;exact⟨_,rfl,by assumption⟩)
     |(go_ret;exact⟨_,rfl,by assumption⟩))
    ·rename ¬ (_∨_)=>ho
     rw[not_or] at ho
     obtain⟨hq0,hq1⟩:=ho
     have e0:(precOf (Res.ok s').kind == 0)=false:=by simp [hq0]
     have e1:decide (precOf (Res.ok s').kind<p)=false:=by simp [hq1]
     have hp0:0≤precOf (Res.ok s').kind∧precOf (Res.ok s').kind≤5:=precOf_le _
     rw[bind_iff] at hy2
     obtain⟨y1,hy1,hy2⟩:=hy2
     rw[bind_iff] at hy2
     obtain⟨y2,hy2x,hy2⟩:=hy2
     rw[bind_iff] at hy2
     obtain⟨y3,hy3,hy2⟩:=hy2
     replace hy2:=Lib.hid hy2
     have hw1:IntKind.i64.wrap (precOf (Res.ok s').kind+1)=precOf (Res.ok s').kind+1:=IntWalk.i64_in _ (by omega)
     go_wp2_with (first|(go_at_call 62;first|(refine(mark_at ‹_›).mono ?_;rintro e w' ⟨rfl,rfl⟩)|(refine(mark_bad ‹_›).mono ?_;rintro e w' ⟨⟨v,rfl⟩,rfl⟩))|(go_at_call 58;first|(refine(kind_is ‹_› ‹_›).mono ?_;rintro e w' ⟨rfl,rfl⟩)|(refine(kind_at ‹_›).mono ?_;rintro e w' ⟨rfl,rfl⟩))|(go_at_call 124;first|(refine((ih _ ?hk).unary _ _ _ _ _ _ ‹_› ‹_›).mono ?_;(case hk=>omega);rintro e w' ⟨v,rfl,hat⟩)|(refine(unary_f HCL _ _ _ _ _ _ _ ‹_›).mono ?_;rintro e w' ⟨v,rfl,hat⟩))|(go_at_call 32;refine(take_at ‹_› (by first|with_reducible assumption|exact Lib.hid rfl|assumption|exact run_hid _ _ _ _ _)).mono ?_;rintro e w' ⟨v,rfl,hat⟩)|(go_at_call 94;first|(refine((ih _ ?hk).binary _ _ _ _ _ _ _ ‹_› ‹_›).mono ?_;(case hk=>omega);rintro e w' ⟨v,rfl,hat⟩)|(refine(binary_f HCL _ _ _ _ _ _ _ _ ‹_›).mono ?_;rintro e w' ⟨v,rfl,hat⟩))|(go_at_call 38;refine(HCL _ _ _ _ _ _ _ _ ‹_› (by first|exact fun _=>rfl|assumption|exact fun hb=>by cases hb) (by first|with_reducible assumption|exact Lib.hid rfl|assumption|exact run_hid _ _ _ _ _)).mono ?_;rintro e w' ⟨v,rfl,hat⟩)|(go_at_call 125;refine(refPrec_any _ _).mono ?_;rintro e w' ⟨rfl,rfl⟩))
     all_goals(first
     |(go_roundw;(case rel=>exact(Lq.less (by omega) ‹_› ‹_› hq).1);(case measure=>exact(Lq.less (n:=n) (by omega) ‹_› ‹_› hq).2))
     |(go_end0;exact⟨_,rfl,by assumption⟩)
     |(go_ret;exact⟨_,rfl,by assumption⟩))
theorem flat_s {n:Nat} (HCL:CloseC) (ih:∀ k,k≤n→All k) (hn:n≤1099511627776):C0 178 (n+1) .flat:=by
 have _:=HCL
 have _:=ih
 intro C w b x y hat hy
 have hy:=hy.out
 cases x with
 |fail d0 d1 d2=>
  rw[run_fail] at hy
  obtain rfl:=Option.some.inj hy
  exact flat_f HCL _ _ _ _ _ _ hat
 |ok s=>
  rw[run] at hy
  try dsimp only at hy
  rw[bind_iff] at hy
  obtain⟨z1,hz1,hy⟩:=hy
  rw[bind_iff] at hy
  obtain⟨z2,hz2,hy⟩:=hy
  replace hy:=Lib.hid hy
  go_enter Tryz.func178,Tryz.ntmps178
  go_wp2_with (first|(go_at_call 62;first|(refine(mark_at ‹_›).mono ?_;rintro e w' ⟨rfl,rfl⟩)|(refine(mark_bad ‹_›).mono ?_;rintro e w' ⟨⟨v,rfl⟩,rfl⟩))|(go_at_call 34;refine(expect_at ‹_› _ (by first|with_reducible assumption|exact Lib.hid rfl|assumption|exact run_hid _ _ _ _ _)).mono ?_;rintro e w' ⟨rfl,hat⟩;have hc8:=bad_cell _ _ _ _ hat;first|rw[bad_ok] at hc8|rw[bad_fail] at hc8|skip)|(go_at_call 58;first|(refine(kind_is ‹_› ‹_›).mono ?_;rintro e w' ⟨rfl,rfl⟩)|(refine(kind_at ‹_›).mono ?_;rintro e w' ⟨rfl,rfl⟩))|(go_at_call 46;refine(fail_at ‹_› _ (by first|with_reducible assumption|exact Lib.hid rfl|assumption|exact run_hid _ _ _ _ _)).mono ?_;rintro e w' ⟨v,rfl,hat⟩;have hc8:=bad_cell _ _ _ _ hat;first|rw[bad_ok] at hc8|rw[bad_fail] at hc8|skip)|(go_at_call 32;refine(take_at ‹_› (by first|with_reducible assumption|exact Lib.hid rfl|assumption|exact run_hid _ _ _ _ _)).mono ?_;rintro e w' ⟨v,rfl,hat⟩;have hc8:=bad_cell _ _ _ _ hat;first|rw[bad_ok] at hc8|rw[bad_fail] at hc8|skip)|(go_at_call 38;refine(HCL _ _ _ _ _ _ _ _ ‹_› (by first|exact fun _=>rfl|assumption|exact fun hb=>by cases hb) (by first|with_reducible assumption|exact Lib.hid rfl|assumption|exact run_hid _ _ _ _ _)).mono ?_;rintro e w' ⟨v,rfl,hat⟩;have hc8:=bad_cell _ _ _ _ hat;first|rw[bad_ok] at hc8|rw[bad_fail] at hc8|skip))
  go_loopw [3] (fun p wr=>∃ c k:Nat,c+k≤n+1∧p=.int .i64 (c:Int)∧Lp C b z2 (.flatL c) wr k) (fun p wr=>lpOf C b z2 (.flatL (intOf p).toNat) wr)
  case atStart=>exact⟨1,n,by omega,rfl,z1,by assumption,by assumption⟩
  case round=>
   obtain⟨c,k0,hck,rfl,hlp⟩:=hrel
   have hq0:lpOf C b z2 (.flatL (intOf (.int .i64 (c:Int))).toNat) wr=lpOf C b z2 (.flatL c) wr:=by simp [intOf]
   rcases Lq.out ⟨k0,Nat.le_refl _,hlp⟩ with⟨d0,d1,d2,hu,hat⟩|⟨k,s',hk,hq,hat,hy2⟩
   ·subst hu
    have hk0:(Res.fail d0 d1 d2).kind=0:=rfl
    have hc8:=bad_cell _ _ _ _ hat
    rw[bad_fail] at hc8
    rcases Nat.eq_zero_or_pos c with rfl|hc0
    ·go_wp2_with (first|(go_at_call 62;first|(refine(mark_at ‹_›).mono ?_;rintro e w' ⟨rfl,rfl⟩)|(refine(mark_bad ‹_›).mono ?_;rintro e w' ⟨⟨v,rfl⟩,rfl⟩))|(go_at_call 34;refine(expect_at ‹_› _ (by first|with_reducible assumption|exact Lib.hid rfl|assumption|exact run_hid _ _ _ _ _)).mono ?_;rintro e w' ⟨rfl,hat⟩;have hc8:=bad_cell _ _ _ _ hat;first|rw[bad_ok] at hc8|rw[bad_fail] at hc8|skip)|(go_at_call 58;first|(refine(kind_is ‹_› ‹_›).mono ?_;rintro e w' ⟨rfl,rfl⟩)|(refine(kind_at ‹_›).mono ?_;rintro e w' ⟨rfl,rfl⟩))|(go_at_call 46;refine(fail_at ‹_› _ (by first|with_reducible assumption|exact Lib.hid rfl|assumption|exact run_hid _ _ _ _ _)).mono ?_;rintro e w' ⟨v,rfl,hat⟩;have hc8:=bad_cell _ _ _ _ hat;first|rw[bad_ok] at hc8|rw[bad_fail] at hc8|skip)|(go_at_call 32;refine(take_at ‹_› (by first|with_reducible assumption|exact Lib.hid rfl|assumption|exact run_hid _ _ _ _ _)).mono ?_;rintro e w' ⟨v,rfl,hat⟩;have hc8:=bad_cell _ _ _ _ hat;first|rw[bad_ok] at hc8|rw[bad_fail] at hc8|skip)|(go_at_call 38;refine(HCL _ _ _ _ _ _ _ _ ‹_› (by first|exact fun _=>rfl|assumption|exact fun hb=>by cases hb) (by first|with_reducible assumption|exact Lib.hid rfl|assumption|exact run_hid _ _ _ _ _)).mono ?_;rintro e w' ⟨v,rfl,hat⟩;have hc8:=bad_cell _ _ _ _ hat;first|rw[bad_ok] at hc8|rw[bad_fail] at hc8|skip))
     go_end0
     exact⟨_,rfl,by assumption⟩
    ·have hd:decide (0<(c:Int))=true:=decide_eq_true (by omega)
     go_wp2_with (first|(go_at_call 62;first|(refine(mark_at ‹_›).mono ?_;rintro e w' ⟨rfl,rfl⟩)|(refine(mark_bad ‹_›).mono ?_;rintro e w' ⟨⟨v,rfl⟩,rfl⟩))|(go_at_call 34;refine(expect_at ‹_› _ (by first|with_reducible assumption|exact Lib.hid rfl|assumption|exact run_hid _ _ _ _ _)).mono ?_;rintro e w' ⟨rfl,hat⟩;have hc8:=bad_cell _ _ _ _ hat;first|rw[bad_ok] at hc8|rw[bad_fail] at hc8|skip)|(go_at_call 58;first|(refine(kind_is ‹_› ‹_›).mono ?_;rintro e w' ⟨rfl,rfl⟩)|(refine(kind_at ‹_›).mono ?_;rintro e w' ⟨rfl,rfl⟩))|(go_at_call 46;refine(fail_at ‹_› _ (by first|with_reducible assumption|exact Lib.hid rfl|assumption|exact run_hid _ _ _ _ _)).mono ?_;rintro e w' ⟨v,rfl,hat⟩;have hc8:=bad_cell _ _ _ _ hat;first|rw[bad_ok] at hc8|rw[bad_fail] at hc8|skip)|(go_at_call 32;refine(take_at ‹_› (by first|with_reducible assumption|exact Lib.hid rfl|assumption|exact run_hid _ _ _ _ _)).mono ?_;rintro e w' ⟨v,rfl,hat⟩;have hc8:=bad_cell _ _ _ _ hat;first|rw[bad_ok] at hc8|rw[bad_fail] at hc8|skip)|(go_at_call 38;refine(HCL _ _ _ _ _ _ _ _ ‹_› (by first|exact fun _=>rfl|assumption|exact fun hb=>by cases hb) (by first|with_reducible assumption|exact Lib.hid rfl|assumption|exact run_hid _ _ _ _ _)).mono ?_;rintro e w' ⟨v,rfl,hat⟩;have hc8:=bad_cell _ _ _ _ hat;first|rw[bad_ok] at hc8|rw[bad_fail] at hc8|skip))
     go_end0
     exact⟨_,rfl,by assumption⟩
   ·rw[run] at hy2
    try dsimp only at hy2
    have hc8:=bad_cell _ _ _ _ hat
    rw[bad_ok] at hc8
    rcases Nat.eq_zero_or_pos c with rfl|hc0
    ·rw[if_pos rfl] at hy2
     obtain rfl:=Option.some.inj hy2
     go_wp2_with (first|(go_at_call 62;first|(refine(mark_at ‹_›).mono ?_;rintro e w' ⟨rfl,rfl⟩)|(refine(mark_bad ‹_›).mono ?_;rintro e w' ⟨⟨v,rfl⟩,rfl⟩))|(go_at_call 34;refine(expect_at ‹_› _ (by first|with_reducible assumption|exact Lib.hid rfl|assumption|exact run_hid _ _ _ _ _)).mono ?_;rintro e w' ⟨rfl,hat⟩;have hc8:=bad_cell _ _ _ _ hat;first|rw[bad_ok] at hc8|rw[bad_fail] at hc8|skip)|(go_at_call 58;first|(refine(kind_is ‹_› ‹_›).mono ?_;rintro e w' ⟨rfl,rfl⟩)|(refine(kind_at ‹_›).mono ?_;rintro e w' ⟨rfl,rfl⟩))|(go_at_call 46;refine(fail_at ‹_› _ (by first|with_reducible assumption|exact Lib.hid rfl|assumption|exact run_hid _ _ _ _ _)).mono ?_;rintro e w' ⟨v,rfl,hat⟩;have hc8:=bad_cell _ _ _ _ hat;first|rw[bad_ok] at hc8|rw[bad_fail] at hc8|skip)|(go_at_call 32;refine(take_at ‹_› (by first|with_reducible assumption|exact Lib.hid rfl|assumption|exact run_hid _ _ _ _ _)).mono ?_;rintro e w' ⟨v,rfl,hat⟩;have hc8:=bad_cell _ _ _ _ hat;first|rw[bad_ok] at hc8|rw[bad_fail] at hc8|skip)|(go_at_call 38;refine(HCL _ _ _ _ _ _ _ _ ‹_› (by first|exact fun _=>rfl|assumption|exact fun hb=>by cases hb) (by first|with_reducible assumption|exact Lib.hid rfl|assumption|exact run_hid _ _ _ _ _)).mono ?_;rintro e w' ⟨v,rfl,hat⟩;have hc8:=bad_cell _ _ _ _ hat;first|rw[bad_ok] at hc8|rw[bad_fail] at hc8|skip))
     go_end0
     exact⟨_,rfl,by assumption⟩
    have hd:decide (0<(c:Int))=true:=decide_eq_true (by omega)
    rw[if_neg (by omega)] at hy2
    by_cases h0:(Res.ok s').kind=0
    ·rw[if_pos h0] at hy2
     obtain⟨d0,d1,d2,rfl⟩:=rFail_bad hy2
     replace hy2:=Lib.hid hy2
     have hr5:Hid (run k (.flatL c) (.fail d0 d1 d2)=some (.fail d0 d1 d2)):=run_hid _ _ _ _ _
     go_wp2_with (first|(go_at_call 62;first|(refine(mark_at ‹_›).mono ?_;rintro e w' ⟨rfl,rfl⟩)|(refine(mark_bad ‹_›).mono ?_;rintro e w' ⟨⟨v,rfl⟩,rfl⟩))|(go_at_call 34;refine(expect_at ‹_› _ (by first|with_reducible assumption|exact Lib.hid rfl|assumption|exact run_hid _ _ _ _ _)).mono ?_;rintro e w' ⟨rfl,hat⟩;have hc8:=bad_cell _ _ _ _ hat;first|rw[bad_ok] at hc8|rw[bad_fail] at hc8|skip)|(go_at_call 58;first|(refine(kind_is ‹_› ‹_›).mono ?_;rintro e w' ⟨rfl,rfl⟩)|(refine(kind_at ‹_›).mono ?_;rintro e w' ⟨rfl,rfl⟩))|(go_at_call 46;refine(fail_at ‹_› _ (by first|with_reducible assumption|exact Lib.hid rfl|assumption|exact run_hid _ _ _ _ _)).mono ?_;rintro e w' ⟨v,rfl,hat⟩;have hc8:=bad_cell _ _ _ _ hat;first|rw[bad_ok] at hc8|rw[bad_fail] at hc8|skip)|(go_at_call 32;refine(take_at ‹_› (by first|with_reducible assumption|exact Lib.hid rfl|assumption|exact run_hid _ _ _ _ _)).mono ?_;rintro e w' ⟨v,rfl,hat⟩;have hc8:=bad_cell _ _ _ _ hat;first|rw[bad_ok] at hc8|rw[bad_fail] at hc8|skip)|(go_at_call 38;refine(HCL _ _ _ _ _ _ _ _ ‹_› (by first|exact fun _=>rfl|assumption|exact fun hb=>by cases hb) (by first|with_reducible assumption|exact Lib.hid rfl|assumption|exact run_hid _ _ _ _ _)).mono ?_;rintro e w' ⟨v,rfl,hat⟩;have hc8:=bad_cell _ _ _ _ hat;first|rw[bad_ok] at hc8|rw[bad_fail] at hc8|skip))
     go_roundw
     case rel=>exact⟨c,k,by omega,rfl,_,by assumption,by assumption⟩
     case measure=>
      rw[hq0]
      refine(Lq.less (n:=n) (w0:=wr) (k:=k) (by omega) ‹_› ?_ hq).2
      simpa [intOf] using hr5
    rw[if_neg h0] at hy2
    by_cases h59:(Res.ok s').kind=59
    ·rw[if_pos h59] at hy2
     obtain⟨y1,hy1,hy2⟩:=bind_some hy2
     replace hy2:=Lib.hid hy2
     have hw1:IntKind.i64.wrap ((c:Int)+1)=(c:Int)+1:=IntWalk.i64_in _ (by omega)
     go_wp2_with (first|(go_at_call 62;first|(refine(mark_at ‹_›).mono ?_;rintro e w' ⟨rfl,rfl⟩)|(refine(mark_bad ‹_›).mono ?_;rintro e w' ⟨⟨v,rfl⟩,rfl⟩))|(go_at_call 34;refine(expect_at ‹_› _ (by first|with_reducible assumption|exact Lib.hid rfl|assumption|exact run_hid _ _ _ _ _)).mono ?_;rintro e w' ⟨rfl,hat⟩;have hc8:=bad_cell _ _ _ _ hat;first|rw[bad_ok] at hc8|rw[bad_fail] at hc8|skip)|(go_at_call 58;first|(refine(kind_is ‹_› ‹_›).mono ?_;rintro e w' ⟨rfl,rfl⟩)|(refine(kind_at ‹_›).mono ?_;rintro e w' ⟨rfl,rfl⟩))|(go_at_call 46;refine(fail_at ‹_› _ (by first|with_reducible assumption|exact Lib.hid rfl|assumption|exact run_hid _ _ _ _ _)).mono ?_;rintro e w' ⟨v,rfl,hat⟩;have hc8:=bad_cell _ _ _ _ hat;first|rw[bad_ok] at hc8|rw[bad_fail] at hc8|skip)|(go_at_call 32;refine(take_at ‹_› (by first|with_reducible assumption|exact Lib.hid rfl|assumption|exact run_hid _ _ _ _ _)).mono ?_;rintro e w' ⟨v,rfl,hat⟩;have hc8:=bad_cell _ _ _ _ hat;first|rw[bad_ok] at hc8|rw[bad_fail] at hc8|skip)|(go_at_call 38;refine(HCL _ _ _ _ _ _ _ _ ‹_› (by first|exact fun _=>rfl|assumption|exact fun hb=>by cases hb) (by first|with_reducible assumption|exact Lib.hid rfl|assumption|exact run_hid _ _ _ _ _)).mono ?_;rintro e w' ⟨v,rfl,hat⟩;have hc8:=bad_cell _ _ _ _ hat;first|rw[bad_ok] at hc8|rw[bad_fail] at hc8|skip))
     go_roundw
     case rel=>exact⟨c+1,k,by omega,by go_num,_,by assumption,by assumption⟩
     case measure=>
      rw[hq0]
      have hq1:lpOf C b z2 (.flatL (intOf (.int .i64 ((c:Int)+1))).toNat) w'=lpOf C b z2 (.flatL (c+1)) w':=by simp only[intOf];rw[show((c:Int)+1).toNat=c+1 by omega]
      show lpOf C b z2 (.flatL (intOf (.int .i64 ((c:Int)+1))).toNat) w'<_
      rw[hq1,hq]
      exact Nat.lt_succ_of_le (least_spec (P:=Lp C b z2 (.flatL (c+1)) w') ⟨_,by assumption,by assumption⟩).2
    rw[if_neg h59] at hy2
    by_cases h64:(Res.ok s').kind=64
    ·rw[if_pos h64] at hy2
     obtain⟨y1,hy1,hy2⟩:=bind_some hy2
     replace hy2:=Lib.hid hy2
     have hw1:IntKind.i64.wrap ((c:Int) - 1)=(c:Int) - 1:=IntWalk.i64_in _ (by omega)
     go_wp2_with (first|(go_at_call 62;first|(refine(mark_at ‹_›).mono ?_;rintro e w' ⟨rfl,rfl⟩)|(refine(mark_bad ‹_›).mono ?_;rintro e w' ⟨⟨v,rfl⟩,rfl⟩))|(go_at_call 34;refine(expect_at ‹_› _ (by first|with_reducible assumption|exact Lib.hid rfl|assumption|exact run_hid _ _ _ _ _)).mono ?_;rintro e w' ⟨rfl,hat⟩;have hc8:=bad_cell _ _ _ _ hat;first|rw[bad_ok] at hc8|rw[bad_fail] at hc8|skip)|(go_at_call 58;first|(refine(kind_is ‹_› ‹_›).mono ?_;rintro e w' ⟨rfl,rfl⟩)|(refine(kind_at ‹_›).mono ?_;rintro e w' ⟨rfl,rfl⟩))|(go_at_call 46;refine(fail_at ‹_› _ (by first|with_reducible assumption|exact Lib.hid rfl|assumption|exact run_hid _ _ _ _ _)).mono ?_;rintro e w' ⟨v,rfl,hat⟩;have hc8:=bad_cell _ _ _ _ hat;first|rw[bad_ok] at hc8|rw[bad_fail] at hc8|skip)|(go_at_call 32;refine(take_at ‹_› (by first|with_reducible assumption|exact Lib.hid rfl|assumption|exact run_hid _ _ _ _ _)).mono ?_;rintro e w' ⟨v,rfl,hat⟩;have hc8:=bad_cell _ _ _ _ hat;first|rw[bad_ok] at hc8|rw[bad_fail] at hc8|skip)|(go_at_call 38;refine(HCL _ _ _ _ _ _ _ _ ‹_› (by first|exact fun _=>rfl|assumption|exact fun hb=>by cases hb) (by first|with_reducible assumption|exact Lib.hid rfl|assumption|exact run_hid _ _ _ _ _)).mono ?_;rintro e w' ⟨v,rfl,hat⟩;have hc8:=bad_cell _ _ _ _ hat;first|rw[bad_ok] at hc8|rw[bad_fail] at hc8|skip))
     go_roundw
     case rel=>exact⟨c - 1,k,by omega,by go_num,_,by assumption,by assumption⟩
     case measure=>
      rw[hq0]
      have hq1:lpOf C b z2 (.flatL (intOf (.int .i64 ((c:Int) - 1))).toNat) w'=lpOf C b z2 (.flatL (c - 1)) w':=by simp only[intOf];rw[show((c:Int) - 1).toNat=c - 1 by omega]
      show lpOf C b z2 (.flatL (intOf (.int .i64 ((c:Int) - 1))).toNat) w'<_
      rw[hq1,hq]
      exact Nat.lt_succ_of_le (least_spec (P:=Lp C b z2 (.flatL (c - 1)) w') ⟨_,by assumption,by assumption⟩).2
    rw[if_neg h64] at hy2
    obtain⟨y1,hy1,hy2⟩:=bind_some hy2
    replace hy2:=Lib.hid hy2
    all_goals(try have e0:((Res.ok s').kind == 0)=false:=by simp [*])
    all_goals(try have e59:((Res.ok s').kind == 59)=false:=by simp [*])
    all_goals(try have e64:((Res.ok s').kind == 64)=false:=by simp [*])
    go_wp2_with (first|(go_at_call 62;first|(refine(mark_at ‹_›).mono ?_;rintro e w' ⟨rfl,rfl⟩)|(refine(mark_bad ‹_›).mono ?_;rintro e w' ⟨⟨v,rfl⟩,rfl⟩))|(go_at_call 34;refine(expect_at ‹_› _ (by first|with_reducible assumption|exact Lib.hid rfl|assumption|exact run_hid _ _ _ _ _)).mono ?_;rintro e w' ⟨rfl,hat⟩;have hc8:=bad_cell _ _ _ _ hat;first|rw[bad_ok] at hc8|rw[bad_fail] at hc8|skip)|(go_at_call 58;first|(refine(kind_is ‹_› ‹_›).mono ?_;rintro e w' ⟨rfl,rfl⟩)|(refine(kind_at ‹_›).mono ?_;rintro e w' ⟨rfl,rfl⟩))|(go_at_call 46;refine(fail_at ‹_› _ (by first|with_reducible assumption|exact Lib.hid rfl|assumption|exact run_hid _ _ _ _ _)).mono ?_;rintro e w' ⟨v,rfl,hat⟩;have hc8:=bad_cell _ _ _ _ hat;first|rw[bad_ok] at hc8|rw[bad_fail] at hc8|skip)|(go_at_call 32;refine(take_at ‹_› (by first|with_reducible assumption|exact Lib.hid rfl|assumption|exact run_hid _ _ _ _ _)).mono ?_;rintro e w' ⟨v,rfl,hat⟩;have hc8:=bad_cell _ _ _ _ hat;first|rw[bad_ok] at hc8|rw[bad_fail] at hc8|skip)|(go_at_call 38;refine(HCL _ _ _ _ _ _ _ _ ‹_› (by first|exact fun _=>rfl|assumption|exact fun hb=>by cases hb) (by first|with_reducible assumption|exact Lib.hid rfl|assumption|exact run_hid _ _ _ _ _)).mono ?_;rintro e w' ⟨v,rfl,hat⟩;have hc8:=bad_cell _ _ _ _ hat;first|rw[bad_ok] at hc8|rw[bad_fail] at hc8|skip))
    go_roundw
    case rel=>exact⟨c,k,by omega,rfl,_,by assumption,by assumption⟩
    case measure=>
     rw[hq0,hq]
     show lpOf C b z2 (.flatL (intOf (.int .i64 (c:Int))).toNat) w'<_
     rw[show lpOf C b z2 (.flatL (intOf (.int .i64 (c:Int))).toNat) w'=lpOf C b z2 (.flatL c) w' by simp [intOf]]
     exact Nat.lt_succ_of_le (least_spec (P:=Lp C b z2 (.flatL c) w') ⟨_,by assumption,by assumption⟩).2
end Go.Proofs.YtmelbeefjgjdhaaGreat.rd
