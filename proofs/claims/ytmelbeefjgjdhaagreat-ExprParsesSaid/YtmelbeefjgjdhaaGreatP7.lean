/-
  Texts put together: Fi, Fj.
-/
import Derived.Test.YtmelbeefjgjdhaaGreatP5
set_option maxRecDepth 100000
set_option maxHeartbeats 8000000
namespace Go.Proofs.YtmelbeefjgjdhaaGreat.rd
open Go.RowKit
theorem X_s {n:Nat} (HCL:CloseC) (ih:∀ k,k≤n→All k):CB 49 (n+1) .X:=by
 have _:=HCL
 have _:=ih
 intro C w b x y h hat hy
 have hy:=hy.out
 cases x with
 |fail d0 d1 d2=>
  rw[run_fail] at hy
  obtain rfl:=Option.some.inj hy
  exact X_f HCL _ _ _ _ _ _ _ hat
 |ok s=>
  rw[run] at hy
  try dsimp only at hy
  obtain⟨z,hz,hy⟩:=bind_some hy
  cases z with
  |fail a0 a1 a2=>
   simp only[run_fail,rUp_f,Option.bind_eq_bind,Option.bind_some] at hy
   obtain rfl:=Option.some.inj hy
   clear hy
   all_goals go_enter Tryz.func49,Tryz.ntmps49
   all_goals go_wp2_with (first|(go_at_call 42;refine(down_at ‹_› (by first|with_reducible assumption|exact Lib.hid rfl|assumption|exact run_hid _ _ _ _ _)).mono ?_;rintro e w' ⟨rfl,hat⟩)|(go_at_call 94;first|(refine((ih _ ?hk).binary _ _ _ _ _ _ _ ‹_› ‹_›).mono ?_;(case hk=>omega);rintro e w' ⟨v,rfl,hat⟩)|(refine(binary_f HCL _ _ _ _ _ _ _ _ ‹_›).mono ?_;rintro e w' ⟨v,rfl,hat⟩))|(go_at_call 44;refine(up_at ‹_› (by first|with_reducible assumption|exact Lib.hid rfl|assumption|exact run_hid _ _ _ _ _)).mono ?_;rintro e w' ⟨v,rfl,hat⟩))
   all_goals(first|go_end0|go_ret)
   all_goals exact⟨_,rfl,by assumption⟩
  |ok t=>
   iterate 16 (all_goals try(first|split at hy|(rw[bind_iff] at hy;obtain⟨z,hz,hy⟩:=hy;try(rw[some_hid] at hz;subst hz))))
   all_goals(first|(obtain rfl:=Option.some.inj hy)|(replace hy:=Lib.hid hy))
   iterate 2 (all_goals try(rename _∧_=>ho;obtain⟨_,_⟩:=ho))
   iterate 7 (all_goals try(rename _∨_=>ho;rcases ho with ho|ho))
   all_goals(repeat (rename ¬ (_∨_)=>ho;rw[not_or] at ho;obtain⟨_,_⟩:=ho))
   all_goals go_enter Tryz.func49,Tryz.ntmps49
   all_goals go_wp2_with (first|(go_at_call 42;refine(down_at ‹_› (by first|with_reducible assumption|exact Lib.hid rfl|assumption|exact run_hid _ _ _ _ _)).mono ?_;rintro e w' ⟨rfl,hat⟩)|(go_at_call 94;first|(refine((ih _ ?hk).binary _ _ _ _ _ _ _ ‹_› ‹_›).mono ?_;(case hk=>omega);rintro e w' ⟨v,rfl,hat⟩)|(refine(binary_f HCL _ _ _ _ _ _ _ _ ‹_›).mono ?_;rintro e w' ⟨v,rfl,hat⟩))|(go_at_call 44;refine(up_at ‹_› (by first|with_reducible assumption|exact Lib.hid rfl|assumption|exact run_hid _ _ _ _ _)).mono ?_;rintro e w' ⟨v,rfl,hat⟩))
   all_goals(first|go_end0|go_ret)
   all_goals exact⟨_,rfl,by assumption⟩
theorem value_s {n:Nat} (HCL:CloseC) (ih:∀ k,k≤n→All k):C0 182 (n+1) .value:=by
 have _:=HCL
 have _:=ih
 intro C w b x y hat hy
 have hy:=hy.out
 cases x with
 |fail d0 d1 d2=>
  rw[run_fail] at hy
  obtain rfl:=Option.some.inj hy
  exact value_f HCL _ _ _ _ _ _ hat
 |ok s=>
  rw[run] at hy
  try dsimp only at hy
  split at hy
  case isFalse hk=>
   replace hy:=Lib.hid hy
   all_goals go_enter Tryz.func182,Tryz.ntmps182
   all_goals go_wp2_with (first|(go_at_call 42;refine(down_at ‹_› (by first|with_reducible assumption|exact Lib.hid rfl|assumption|exact run_hid _ _ _ _ _)).mono ?_;rintro e w' ⟨rfl,hat⟩)|(go_at_call 165;first|(refine((ih _ ?hk).values _ _ _ _ _ ‹_› ‹_›).mono ?_;(case hk=>omega);rintro e w' ⟨v,rfl,hat⟩)|(refine(values_f HCL _ _ _ _ _ _ ‹_›).mono ?_;rintro e w' ⟨v,rfl,hat⟩))|(go_at_call 62;first|(refine(mark_at ‹_›).mono ?_;rintro e w' ⟨rfl,rfl⟩)|(refine(mark_bad ‹_›).mono ?_;rintro e w' ⟨⟨v,rfl⟩,rfl⟩))|(go_at_call 38;refine(HCL _ _ _ _ _ _ _ _ ‹_› (by first|exact fun _=>rfl|assumption|exact fun hb=>by cases hb) (by first|with_reducible assumption|exact Lib.hid rfl|assumption|exact run_hid _ _ _ _ _)).mono ?_;rintro e w' ⟨v,rfl,hat⟩)|(go_at_call 49;first|(refine((ih _ ?hk).X _ _ _ _ _ _ ‹_› ‹_›).mono ?_;(case hk=>omega);rintro e w' ⟨v,rfl,hat⟩)|(refine(X_f HCL _ _ _ _ _ _ _ ‹_›).mono ?_;rintro e w' ⟨v,rfl,hat⟩))|(go_at_call 44;refine(up_at ‹_› (by first|with_reducible assumption|exact Lib.hid rfl|assumption|exact run_hid _ _ _ _ _)).mono ?_;rintro e w' ⟨v,rfl,hat⟩)|(go_at_call 95;first|(with_reducible refine(comes1_yes ‹_› ?hc).mono ?_;(case hc=>simp [Res.comes, *]);rintro e w' ⟨rfl,hat⟩)|(with_reducible refine(comes1_no ‹_› ?hc).mono ?_;(case hc=>simp [Res.comes, *]);rintro e w' ⟨rfl,hat⟩)))
   all_goals(first|go_end0|go_ret)
   all_goals exact⟨_,rfl,by assumption⟩
  case isTrue hk=>
   obtain⟨z,hz,hy⟩:=bind_some hy
   cases z with
   |fail a0 a1 a2=>
    simp only[run_fail,rUp_f,rClose_f,Option.bind_eq_bind,Option.bind_some] at hy
    obtain rfl:=Option.some.inj hy
    clear hy
    all_goals go_enter Tryz.func182,Tryz.ntmps182
    all_goals go_wp2_with (first|(go_at_call 42;refine(down_at ‹_› (by first|with_reducible assumption|exact Lib.hid rfl|assumption|exact run_hid _ _ _ _ _)).mono ?_;rintro e w' ⟨rfl,hat⟩)|(go_at_call 165;first|(refine((ih _ ?hk).values _ _ _ _ _ ‹_› ‹_›).mono ?_;(case hk=>omega);rintro e w' ⟨v,rfl,hat⟩)|(refine(values_f HCL _ _ _ _ _ _ ‹_›).mono ?_;rintro e w' ⟨v,rfl,hat⟩))|(go_at_call 62;first|(refine(mark_at ‹_›).mono ?_;rintro e w' ⟨rfl,rfl⟩)|(refine(mark_bad ‹_›).mono ?_;rintro e w' ⟨⟨v,rfl⟩,rfl⟩))|(go_at_call 38;refine(HCL _ _ _ _ _ _ _ _ ‹_› (by first|exact fun _=>rfl|assumption|exact fun hb=>by cases hb) (by first|with_reducible assumption|exact Lib.hid rfl|assumption|exact run_hid _ _ _ _ _)).mono ?_;rintro e w' ⟨v,rfl,hat⟩)|(go_at_call 49;first|(refine((ih _ ?hk).X _ _ _ _ _ _ ‹_› ‹_›).mono ?_;(case hk=>omega);rintro e w' ⟨v,rfl,hat⟩)|(refine(X_f HCL _ _ _ _ _ _ _ ‹_›).mono ?_;rintro e w' ⟨v,rfl,hat⟩))|(go_at_call 44;refine(up_at ‹_› (by first|with_reducible assumption|exact Lib.hid rfl|assumption|exact run_hid _ _ _ _ _)).mono ?_;rintro e w' ⟨v,rfl,hat⟩)|(go_at_call 95;first|(with_reducible refine(comes1_yes ‹_› ?hc).mono ?_;(case hc=>simp [Res.comes, *]);rintro e w' ⟨rfl,hat⟩)|(with_reducible refine(comes1_no ‹_› ?hc).mono ?_;(case hc=>simp [Res.comes, *]);rintro e w' ⟨rfl,hat⟩)))
    all_goals(first|go_end0|go_ret)
    all_goals exact⟨_,rfl,by assumption⟩
   |ok t=>
    iterate 16 (all_goals try(first|split at hy|(rw[bind_iff] at hy;obtain⟨z,hz,hy⟩:=hy;try(rw[some_hid] at hz;subst hz))))
    all_goals(first|(obtain rfl:=Option.some.inj hy)|(replace hy:=Lib.hid hy))
    iterate 2 (all_goals try(rename _∧_=>ho;obtain⟨_,_⟩:=ho))
    iterate 7 (all_goals try(rename _∨_=>ho;rcases ho with ho|ho))
    all_goals(repeat (rename ¬ (_∨_)=>ho;rw[not_or] at ho;obtain⟨_,_⟩:=ho))
    all_goals go_enter Tryz.func182,Tryz.ntmps182
    all_goals go_wp2_with (first|(go_at_call 42;refine(down_at ‹_› (by first|with_reducible assumption|exact Lib.hid rfl|assumption|exact run_hid _ _ _ _ _)).mono ?_;rintro e w' ⟨rfl,hat⟩)|(go_at_call 165;first|(refine((ih _ ?hk).values _ _ _ _ _ ‹_› ‹_›).mono ?_;(case hk=>omega);rintro e w' ⟨v,rfl,hat⟩)|(refine(values_f HCL _ _ _ _ _ _ ‹_›).mono ?_;rintro e w' ⟨v,rfl,hat⟩))|(go_at_call 62;first|(refine(mark_at ‹_›).mono ?_;rintro e w' ⟨rfl,rfl⟩)|(refine(mark_bad ‹_›).mono ?_;rintro e w' ⟨⟨v,rfl⟩,rfl⟩))|(go_at_call 38;refine(HCL _ _ _ _ _ _ _ _ ‹_› (by first|exact fun _=>rfl|assumption|exact fun hb=>by cases hb) (by first|with_reducible assumption|exact Lib.hid rfl|assumption|exact run_hid _ _ _ _ _)).mono ?_;rintro e w' ⟨v,rfl,hat⟩)|(go_at_call 49;first|(refine((ih _ ?hk).X _ _ _ _ _ _ ‹_› ‹_›).mono ?_;(case hk=>omega);rintro e w' ⟨v,rfl,hat⟩)|(refine(X_f HCL _ _ _ _ _ _ _ ‹_›).mono ?_;rintro e w' ⟨v,rfl,hat⟩))|(go_at_call 44;refine(up_at ‹_› (by first|with_reducible assumption|exact Lib.hid rfl|assumption|exact run_hid _ _ _ _ _)).mono ?_;rintro e w' ⟨v,rfl,hat⟩)|(go_at_call 95;first|(with_reducible refine(comes1_yes ‹_› ?hc).mono ?_;(case hc=>simp [Res.comes, *]);rintro e w' ⟨rfl,hat⟩)|(with_reducible refine(comes1_no ‹_› ?hc).mono ?_;(case hc=>simp [Res.comes, *]);rintro e w' ⟨rfl,hat⟩)))
    all_goals(first|go_end0|go_ret)
    all_goals exact⟨_,rfl,by assumption⟩
theorem operand_s {n:Nat} (HCL:CloseC) (ih:∀ k,k≤n→All k):C0 160 (n+1) .operand:=by
 have _:=HCL
 have _:=ih
 intro C w b x y hat hy
 have hy:=hy.out
 cases x with
 |fail d0 d1 d2=>
  rw[run_fail] at hy
  obtain rfl:=Option.some.inj hy
  exact operand_f HCL _ _ _ _ _ _ hat
 |ok s=>
  rw[run] at hy
  try dsimp only at hy
  iterate 16 (all_goals try(first|split at hy|(rw[bind_iff] at hy;obtain⟨z,hz,hy⟩:=hy;try(rw[some_hid] at hz;subst hz))))
  all_goals(first|(obtain rfl:=Option.some.inj hy)|(replace hy:=Lib.hid hy))
  iterate 2 (all_goals try(rename _∧_=>ho;obtain⟨_,_⟩:=ho))
  iterate 7 (all_goals try(rename _∨_=>ho;rcases ho with ho|ho))
  all_goals(repeat (rename ¬ (_∨_)=>ho;rw[not_or] at ho;obtain⟨_,_⟩:=ho))
  all_goals(try have e10:((Res.ok s).kind == 10)=false:=by simp [*])
  all_goals(try have e11:((Res.ok s).kind == 11)=false:=by simp [*])
  all_goals(try have e12:((Res.ok s).kind == 12)=false:=by simp [*])
  all_goals(try have e13:((Res.ok s).kind == 13)=false:=by simp [*])
  all_goals(try have e14:((Res.ok s).kind == 14)=false:=by simp [*])
  all_goals(try have e57:((Res.ok s).kind == 57)=false:=by simp [*])
  all_goals(try have e79:((Res.ok s).kind == 79)=false:=by simp [*])
  all_goals(try have e58:((Res.ok s).kind == 58)=false:=by simp [*])
  all_goals(try have e83:((Res.ok s).kind == 83)=false:=by simp [*])
  all_goals(try have e87:((Res.ok s).kind == 87)=false:=by simp [*])
  all_goals(try have e82:((Res.ok s).kind == 82)=false:=by simp [*])
  all_goals go_enter Tryz.func160,Tryz.ntmps160
  all_goals go_wp2_with (first|(go_at_call 62;first|(refine(mark_at ‹_›).mono ?_;rintro e w' ⟨rfl,rfl⟩)|(refine(mark_bad ‹_›).mono ?_;rintro e w' ⟨⟨v,rfl⟩,rfl⟩))|(go_at_call 58;first|(refine(kind_is ‹_› ‹_›).mono ?_;rintro e w' ⟨rfl,rfl⟩)|(refine(kind_at ‹_›).mono ?_;rintro e w' ⟨rfl,rfl⟩))|(go_at_call 48;refine(name_at HCL ‹_› (by first|with_reducible assumption|exact Lib.hid rfl|assumption|exact run_hid _ _ _ _ _)).mono ?_;rintro e w' ⟨v,rfl,hat⟩)|(go_at_call 32;refine(take_at ‹_› (by first|with_reducible assumption|exact Lib.hid rfl|assumption|exact run_hid _ _ _ _ _)).mono ?_;rintro e w' ⟨v,rfl,hat⟩)|(go_at_call 38;refine(HCL _ _ _ _ _ _ _ _ ‹_› (by first|exact fun _=>rfl|assumption|exact fun hb=>by cases hb) (by first|with_reducible assumption|exact Lib.hid rfl|assumption|exact run_hid _ _ _ _ _)).mono ?_;rintro e w' ⟨v,rfl,hat⟩)|(go_at_call 49;first|(refine((ih _ ?hk).X _ _ _ _ _ _ ‹_› ‹_›).mono ?_;(case hk=>omega);rintro e w' ⟨v,rfl,hat⟩)|(refine(X_f HCL _ _ _ _ _ _ _ ‹_›).mono ?_;rintro e w' ⟨v,rfl,hat⟩))|(go_at_call 34;refine(expect_at ‹_› _ (by first|with_reducible assumption|exact Lib.hid rfl|assumption|exact run_hid _ _ _ _ _)).mono ?_;rintro e w' ⟨rfl,hat⟩)|(go_at_call 52;first|(refine((ih _ ?hk).sig _ _ _ _ _ ‹_› ‹_›).mono ?_;(case hk=>omega);rintro e w' ⟨v,rfl,hat⟩)|(refine(Sig_f HCL _ _ _ _ _ _ ‹_›).mono ?_;rintro e w' ⟨v,rfl,hat⟩))|(go_at_call 178;first|(refine((ih _ ?hk).flat _ _ _ _ _ ‹_› ‹_›).mono ?_;(case hk=>omega);rintro e w' ⟨v,rfl,hat⟩)|(refine(flat_f HCL _ _ _ _ _ _ ‹_›).mono ?_;rintro e w' ⟨v,rfl,hat⟩))|(go_at_call 51;first|(refine((ih _ ?hk).type _ _ _ _ _ ‹_› ‹_›).mono ?_;(case hk=>omega);rintro e w' ⟨v,rfl,hat⟩)|(refine(Type_f HCL _ _ _ _ _ _ ‹_›).mono ?_;rintro e w' ⟨v,rfl,hat⟩))|(go_at_call 46;refine(fail_at ‹_› _ (by first|with_reducible assumption|exact Lib.hid rfl|assumption|exact run_hid _ _ _ _ _)).mono ?_;rintro e w' ⟨v,rfl,hat⟩)|(go_at_call 95;first|(with_reducible refine(comes1_yes ‹_› ?hc).mono ?_;(case hc=>simp [Res.comes, *]);rintro e w' ⟨rfl,hat⟩)|(with_reducible refine(comes1_no ‹_› ?hc).mono ?_;(case hc=>simp [Res.comes, *]);rintro e w' ⟨rfl,hat⟩)))
  all_goals(first|go_end0|go_ret)
  all_goals exact⟨_,rfl,by assumption⟩
open Go.RowKit
theorem call_s {n:Nat} (HCL:CloseC) (ih:∀ k,k≤n→All k):CM 163 (n+1) .call:=by
 have _:=HCL
 have _:=ih
 intro C w b x y m m' hat hm hy
 have hy:=hy.out
 cases x with
 |fail d0 d1 d2=>
  rw[run_fail] at hy
  obtain rfl:=Option.some.inj hy
  exact call_f HCL _ _ _ _ _ _ _ hat
 |ok s=>
  rw[run] at hy
  try dsimp only at hy
  have hm':=hm rfl
  subst hm'
  clear hm
  rw[bind_iff] at hy
  obtain⟨z1,hz1,hy⟩:=hy
  rw[bind_iff] at hy
  obtain⟨z2,hz2,hy⟩:=hy
  rw[bind_iff] at hy
  obtain⟨z3,hz3,hy⟩:=hy
  replace hy:=Lib.hid hy
  all_goals go_enter Tryz.func163,Tryz.ntmps163
  all_goals go_wp2_with (first|(go_at_call 32;refine(take_at ‹_› (by first|with_reducible assumption|exact Lib.hid rfl|assumption|exact run_hid _ _ _ _ _)).mono ?_;rintro e w' ⟨v,rfl,hat⟩;have hc8:=bad_cell _ _ _ _ hat;first|rw[bad_ok] at hc8|rw[bad_fail] at hc8|skip)|(go_at_call 49;first|(refine((ih _ ?hk).X _ _ _ _ _ _ ‹_› ‹_›).mono ?_;(case hk=>omega);rintro e w' ⟨v,rfl,hat⟩)|(refine(X_f HCL _ _ _ _ _ _ _ ‹_›).mono ?_;rintro e w' ⟨v,rfl,hat⟩);have hc8:=bad_cell _ _ _ _ hat;first|rw[bad_ok] at hc8|rw[bad_fail] at hc8|skip)|(go_at_call 34;refine(expect_at ‹_› _ (by first|with_reducible assumption|exact Lib.hid rfl|assumption|exact run_hid _ _ _ _ _)).mono ?_;rintro e w' ⟨rfl,hat⟩;have hc8:=bad_cell _ _ _ _ hat;first|rw[bad_ok] at hc8|rw[bad_fail] at hc8|skip)|(go_at_call 38;refine(HCL _ _ _ _ _ _ _ _ ‹_› (by first|exact fun _=>rfl|assumption|exact fun hb=>by cases hb) (by first|with_reducible assumption|exact Lib.hid rfl|assumption|exact run_hid _ _ _ _ _)).mono ?_;rintro e w' ⟨v,rfl,hat⟩;have hc8:=bad_cell _ _ _ _ hat;first|rw[bad_ok] at hc8|rw[bad_fail] at hc8|skip)|(go_at_call 95;first|(with_reducible refine(comes1_yes ‹_› ?hc).mono ?_;(case hc=>simp [Res.comes, *]);rintro e w' ⟨rfl,hat⟩)|(with_reducible refine(comes1_no ‹_› ?hc).mono ?_;(case hc=>simp [Res.comes, *]);rintro e w' ⟨rfl,hat⟩);have hc8:=bad_cell _ _ _ _ hat;first|rw[bad_ok] at hc8|rw[bad_fail] at hc8|skip))
  all_goals first
   |(go_end0;exact⟨_,rfl,by assumption⟩)
   |skip
  go_loopw [] (fun wr=>Lq C b z2 .callL n wr) (fun wr=>lpOf C b z2 .callL wr)
  case atStart=>exact Lq.at ‹_› ‹_›
  case round=>
   rcases hrel.out with⟨d0,d1,d2,hu,hat⟩|⟨k,s',hk,hq,hat,hy'⟩
   ·subst hu
    have hk0:(Res.fail d0 d1 d2).kind=0:=rfl
    have hc8:=bad_cell _ _ _ _ hat
    first|rw[bad_ok] at hc8|rw[bad_fail] at hc8
    go_wp2_with (first|(go_at_call 32;refine(take_at ‹_› (by first|with_reducible assumption|exact Lib.hid rfl|assumption|exact run_hid _ _ _ _ _)).mono ?_;rintro e w' ⟨v,rfl,hat⟩;have hc8:=bad_cell _ _ _ _ hat;first|rw[bad_ok] at hc8|rw[bad_fail] at hc8|skip)|(go_at_call 49;first|(refine((ih _ ?hk).X _ _ _ _ _ _ ‹_› ‹_›).mono ?_;(case hk=>omega);rintro e w' ⟨v,rfl,hat⟩)|(refine(X_f HCL _ _ _ _ _ _ _ ‹_›).mono ?_;rintro e w' ⟨v,rfl,hat⟩);have hc8:=bad_cell _ _ _ _ hat;first|rw[bad_ok] at hc8|rw[bad_fail] at hc8|skip)|(go_at_call 34;refine(expect_at ‹_› _ (by first|with_reducible assumption|exact Lib.hid rfl|assumption|exact run_hid _ _ _ _ _)).mono ?_;rintro e w' ⟨rfl,hat⟩;have hc8:=bad_cell _ _ _ _ hat;first|rw[bad_ok] at hc8|rw[bad_fail] at hc8|skip)|(go_at_call 38;refine(HCL _ _ _ _ _ _ _ _ ‹_› (by first|exact fun _=>rfl|assumption|exact fun hb=>by cases hb) (by first|with_reducible assumption|exact Lib.hid rfl|assumption|exact run_hid _ _ _ _ _)).mono ?_;rintro e w' ⟨v,rfl,hat⟩;have hc8:=bad_cell _ _ _ _ hat;first|rw[bad_ok] at hc8|rw[bad_fail] at hc8|skip)|(go_at_call 95;first|(with_reducible refine(comes1_yes ‹_› ?hc).mono ?_;(case hc=>simp [Res.comes, *]);rintro e w' ⟨rfl,hat⟩)|(with_reducible refine(comes1_no ‹_› ?hc).mono ?_;(case hc=>simp [Res.comes, *]);rintro e w' ⟨rfl,hat⟩);have hc8:=bad_cell _ _ _ _ hat;first|rw[bad_ok] at hc8|rw[bad_fail] at hc8|skip))
    all_goals(first
    |(go_roundw;(case rel=>exact(Lq.less (by omega) ‹_› ‹_› hq).1);(case measure=>exact(Lq.less (n:=n) (by omega) ‹_› ‹_› hq).2))
    |(go_end0;exact⟨_,rfl,by assumption⟩)
    |(go_ret;exact⟨_,rfl,by assumption⟩))
   ·rw[run] at hy'
    try dsimp only at hy'
    have hc8:=bad_cell _ _ _ _ hat
    first|rw[bad_ok] at hc8|rw[bad_fail] at hc8
    have hy2:=hy'
    clear hy'
    iterate 16 (all_goals try(first|split at hy2|(rw[bind_iff] at hy2;obtain⟨z,hz,hy2⟩:=hy2;try(rw[some_hid] at hz;subst hz))))
    all_goals(first|(obtain rfl:=Option.some.inj hy2)|(replace hy2:=Lib.hid hy2))
    iterate 2 (all_goals try(rename _∧_=>ho;obtain⟨_,_⟩:=ho))
    iterate 7 (all_goals try(rename _∨_=>ho;rcases ho with ho|ho))
    all_goals(repeat (rename ¬ (_∨_)=>ho;rw[not_or] at ho;obtain⟨_,_⟩:=ho))
    all_goals go_wp2_with (first|(go_at_call 32;refine(take_at ‹_› (by first|with_reducible assumption|exact Lib.hid rfl|assumption|exact run_hid _ _ _ _ _)).mono ?_;rintro e w' ⟨v,rfl,hat⟩;have hc8:=bad_cell _ _ _ _ hat;first|rw[bad_ok] at hc8|rw[bad_fail] at hc8|skip)|(go_at_call 49;first|(refine((ih _ ?hk).X _ _ _ _ _ _ ‹_› ‹_›).mono ?_;(case hk=>omega);rintro e w' ⟨v,rfl,hat⟩)|(refine(X_f HCL _ _ _ _ _ _ _ ‹_›).mono ?_;rintro e w' ⟨v,rfl,hat⟩);have hc8:=bad_cell _ _ _ _ hat;first|rw[bad_ok] at hc8|rw[bad_fail] at hc8|skip)|(go_at_call 34;refine(expect_at ‹_› _ (by first|with_reducible assumption|exact Lib.hid rfl|assumption|exact run_hid _ _ _ _ _)).mono ?_;rintro e w' ⟨rfl,hat⟩;have hc8:=bad_cell _ _ _ _ hat;first|rw[bad_ok] at hc8|rw[bad_fail] at hc8|skip)|(go_at_call 38;refine(HCL _ _ _ _ _ _ _ _ ‹_› (by first|exact fun _=>rfl|assumption|exact fun hb=>by cases hb) (by first|with_reducible assumption|exact Lib.hid rfl|assumption|exact run_hid _ _ _ _ _)).mono ?_;rintro e w' ⟨v,rfl,hat⟩;have hc8:=bad_cell _ _ _ _ hat;first|rw[bad_ok] at hc8|rw[bad_fail] at hc8|skip)|(go_at_call 95;first|(with_reducible refine(comes1_yes ‹_› ?hc).mono ?_;(case hc=>simp [Res.comes, *]);rintro e w' ⟨rfl,hat⟩)|(with_reducible refine(comes1_no ‹_› ?hc).mono ?_;(case hc=>simp [Res.comes, *]);rintro e w' ⟨rfl,hat⟩);have hc8:=bad_cell _ _ _ _ hat;first|rw[bad_ok] at hc8|rw[bad_fail] at hc8|skip))
    all_goals(first
    |(go_roundw;(case rel=>exact(Lq.less (by omega) ‹_› ‹_› hq).1);(case measure=>exact(Lq.less (n:=n) (by omega) ‹_› ‹_› hq).2))
    |(go_end0;exact⟨_,rfl,by assumption⟩)
    |(go_ret;exact⟨_,rfl,by assumption⟩))
theorem values_s {n:Nat} (HCL:CloseC) (ih:∀ k,k≤n→All k):C0 165 (n+1) .values:=by
 have _:=HCL
 have _:=ih
 intro C w b x y hat hy
 have hy:=hy.out
 cases x with
 |fail d0 d1 d2=>
  rw[run_fail] at hy
  obtain rfl:=Option.some.inj hy
  exact values_f HCL _ _ _ _ _ _ hat
 |ok s=>
  rw[run] at hy
  try dsimp only at hy
  rw[bind_iff] at hy
  obtain⟨z1,hz1,hy⟩:=hy
  rw[bind_iff] at hy
  obtain⟨z2,hz2,hy⟩:=hy
  replace hy:=Lib.hid hy
  all_goals go_enter Tryz.func165,Tryz.ntmps165
  all_goals go_wp2_with (first|(go_at_call 32;refine(take_at ‹_› (by first|with_reducible assumption|exact Lib.hid rfl|assumption|exact run_hid _ _ _ _ _)).mono ?_;rintro e w' ⟨v,rfl,hat⟩;have hc8:=bad_cell _ _ _ _ hat;first|rw[bad_ok] at hc8|rw[bad_fail] at hc8|skip)|(go_at_call 62;first|(refine(mark_at ‹_›).mono ?_;rintro e w' ⟨rfl,rfl⟩)|(refine(mark_bad ‹_›).mono ?_;rintro e w' ⟨⟨v,rfl⟩,rfl⟩))|(go_at_call 182;first|(refine((ih _ ?hk).value _ _ _ _ _ ‹_› ‹_›).mono ?_;(case hk=>omega);rintro e w' ⟨v,rfl,hat⟩)|(refine(value_f HCL _ _ _ _ _ _ ‹_›).mono ?_;rintro e w' ⟨v,rfl,hat⟩);have hc8:=bad_cell _ _ _ _ hat;first|rw[bad_ok] at hc8|rw[bad_fail] at hc8|skip)|(go_at_call 34;refine(expect_at ‹_› _ (by first|with_reducible assumption|exact Lib.hid rfl|assumption|exact run_hid _ _ _ _ _)).mono ?_;rintro e w' ⟨rfl,hat⟩;have hc8:=bad_cell _ _ _ _ hat;first|rw[bad_ok] at hc8|rw[bad_fail] at hc8|skip)|(go_at_call 38;refine(HCL _ _ _ _ _ _ _ _ ‹_› (by first|exact fun _=>rfl|assumption|exact fun hb=>by cases hb) (by first|with_reducible assumption|exact Lib.hid rfl|assumption|exact run_hid _ _ _ _ _)).mono ?_;rintro e w' ⟨v,rfl,hat⟩;have hc8:=bad_cell _ _ _ _ hat;first|rw[bad_ok] at hc8|rw[bad_fail] at hc8|skip)|(go_at_call 95;first|(with_reducible refine(comes1_yes ‹_› ?hc).mono ?_;(case hc=>simp [Res.comes, *]);rintro e w' ⟨rfl,hat⟩)|(with_reducible refine(comes1_no ‹_› ?hc).mono ?_;(case hc=>simp [Res.comes, *]);rintro e w' ⟨rfl,hat⟩);have hc8:=bad_cell _ _ _ _ hat;first|rw[bad_ok] at hc8|rw[bad_fail] at hc8|skip))
  all_goals first
   |(go_end0;exact⟨_,rfl,by assumption⟩)
   |skip
  go_loopw [] (fun wr=>Lq C b z2 .valL n wr) (fun wr=>lpOf C b z2 .valL wr)
  case atStart=>exact Lq.at ‹_› ‹_›
  case round=>
   rcases hrel.out with⟨d0,d1,d2,hu,hat⟩|⟨k,s',hk,hq,hat,hy'⟩
   ·subst hu
    have hk0:(Res.fail d0 d1 d2).kind=0:=rfl
    have hc8:=bad_cell _ _ _ _ hat
    first|rw[bad_ok] at hc8|rw[bad_fail] at hc8
    go_wp2_with (first|(go_at_call 32;refine(take_at ‹_› (by first|with_reducible assumption|exact Lib.hid rfl|assumption|exact run_hid _ _ _ _ _)).mono ?_;rintro e w' ⟨v,rfl,hat⟩;have hc8:=bad_cell _ _ _ _ hat;first|rw[bad_ok] at hc8|rw[bad_fail] at hc8|skip)|(go_at_call 62;first|(refine(mark_at ‹_›).mono ?_;rintro e w' ⟨rfl,rfl⟩)|(refine(mark_bad ‹_›).mono ?_;rintro e w' ⟨⟨v,rfl⟩,rfl⟩))|(go_at_call 182;first|(refine((ih _ ?hk).value _ _ _ _ _ ‹_› ‹_›).mono ?_;(case hk=>omega);rintro e w' ⟨v,rfl,hat⟩)|(refine(value_f HCL _ _ _ _ _ _ ‹_›).mono ?_;rintro e w' ⟨v,rfl,hat⟩);have hc8:=bad_cell _ _ _ _ hat;first|rw[bad_ok] at hc8|rw[bad_fail] at hc8|skip)|(go_at_call 34;refine(expect_at ‹_› _ (by first|with_reducible assumption|exact Lib.hid rfl|assumption|exact run_hid _ _ _ _ _)).mono ?_;rintro e w' ⟨rfl,hat⟩;have hc8:=bad_cell _ _ _ _ hat;first|rw[bad_ok] at hc8|rw[bad_fail] at hc8|skip)|(go_at_call 38;refine(HCL _ _ _ _ _ _ _ _ ‹_› (by first|exact fun _=>rfl|assumption|exact fun hb=>by cases hb) (by first|with_reducible assumption|exact Lib.hid rfl|assumption|exact run_hid _ _ _ _ _)).mono ?_;rintro e w' ⟨v,rfl,hat⟩;have hc8:=bad_cell _ _ _ _ hat;first|rw[bad_ok] at hc8|rw[bad_fail] at hc8|skip)|(go_at_call 95;first|(with_reducible refine(comes1_yes ‹_› ?hc).mono ?_;(case hc=>simp [Res.comes, *]);rintro e w' ⟨rfl,hat⟩)|(with_reducible refine(comes1_no ‹_› ?hc).mono ?_;(case hc=>simp [Res.comes, *]);rintro e w' ⟨rfl,hat⟩);have hc8:=bad_cell _ _ _ _ hat;first|rw[bad_ok] at hc8|rw[bad_fail] at hc8|skip))
    all_goals(first
    |(go_roundw;(case rel=>exact(Lq.less (by omega) ‹_› ‹_› hq).1);(case measure=>exact(Lq.less (n:=n) (by omega) ‹_› ‹_› hq).2))
    |(go_end0;exact⟨_,rfl,by assumption⟩)
    |(go_ret;exact⟨_,rfl,by assumption⟩))
   ·rw[run] at hy'
    try dsimp only at hy'
    have hc8:=bad_cell _ _ _ _ hat
    first|rw[bad_ok] at hc8|rw[bad_fail] at hc8
    have hy2:=hy'
    clear hy'
    iterate 16 (all_goals try(first|split at hy2|(rw[bind_iff] at hy2;obtain⟨z,hz,hy2⟩:=hy2;try(rw[some_hid] at hz;subst hz))))
    all_goals(first|(obtain rfl:=Option.some.inj hy2)|(replace hy2:=Lib.hid hy2))
    iterate 2 (all_goals try(rename _∧_=>ho;obtain⟨_,_⟩:=ho))
    iterate 7 (all_goals try(rename _∨_=>ho;rcases ho with ho|ho))
    all_goals(repeat (rename ¬ (_∨_)=>ho;rw[not_or] at ho;obtain⟨_,_⟩:=ho))
    all_goals go_wp2_with (first|(go_at_call 32;refine(take_at ‹_› (by first|with_reducible assumption|exact Lib.hid rfl|assumption|exact run_hid _ _ _ _ _)).mono ?_;rintro e w' ⟨v,rfl,hat⟩;have hc8:=bad_cell _ _ _ _ hat;first|rw[bad_ok] at hc8|rw[bad_fail] at hc8|skip)|(go_at_call 62;first|(refine(mark_at ‹_›).mono ?_;rintro e w' ⟨rfl,rfl⟩)|(refine(mark_bad ‹_›).mono ?_;rintro e w' ⟨⟨v,rfl⟩,rfl⟩))|(go_at_call 182;first|(refine((ih _ ?hk).value _ _ _ _ _ ‹_› ‹_›).mono ?_;(case hk=>omega);rintro e w' ⟨v,rfl,hat⟩)|(refine(value_f HCL _ _ _ _ _ _ ‹_›).mono ?_;rintro e w' ⟨v,rfl,hat⟩);have hc8:=bad_cell _ _ _ _ hat;first|rw[bad_ok] at hc8|rw[bad_fail] at hc8|skip)|(go_at_call 34;refine(expect_at ‹_› _ (by first|with_reducible assumption|exact Lib.hid rfl|assumption|exact run_hid _ _ _ _ _)).mono ?_;rintro e w' ⟨rfl,hat⟩;have hc8:=bad_cell _ _ _ _ hat;first|rw[bad_ok] at hc8|rw[bad_fail] at hc8|skip)|(go_at_call 38;refine(HCL _ _ _ _ _ _ _ _ ‹_› (by first|exact fun _=>rfl|assumption|exact fun hb=>by cases hb) (by first|with_reducible assumption|exact Lib.hid rfl|assumption|exact run_hid _ _ _ _ _)).mono ?_;rintro e w' ⟨v,rfl,hat⟩;have hc8:=bad_cell _ _ _ _ hat;first|rw[bad_ok] at hc8|rw[bad_fail] at hc8|skip)|(go_at_call 95;first|(with_reducible refine(comes1_yes ‹_› ?hc).mono ?_;(case hc=>simp [Res.comes, *]);rintro e w' ⟨rfl,hat⟩)|(with_reducible refine(comes1_no ‹_› ?hc).mono ?_;(case hc=>simp [Res.comes, *]);rintro e w' ⟨rfl,hat⟩);have hc8:=bad_cell _ _ _ _ hat;first|rw[bad_ok] at hc8|rw[bad_fail] at hc8|skip))
    all_goals(first
    |(go_roundw;(case rel=>exact(Lq.less (by omega) ‹_› ‹_› hq).1);(case measure=>exact(Lq.less (n:=n) (by omega) ‹_› ‹_› hq).2))
    |(go_end0;exact⟨_,rfl,by assumption⟩)
    |(go_ret;exact⟨_,rfl,by assumption⟩))
theorem items_s {n:Nat} (HCL:CloseC) (ih:∀ k,k≤n→All k):CB 98 (n+1) .items:=by
 have _:=HCL
 have _:=ih
 intro C w b x y h hat hy
 have hy:=hy.out
 cases x with
 |fail d0 d1 d2=>
  rw[run_fail] at hy
  obtain rfl:=Option.some.inj hy
  exact items_f HCL _ _ _ _ _ _ _ hat
 |ok s=>
  rw[run] at hy
  try dsimp only at hy
  rw[bind_iff] at hy
  obtain⟨z1,hz1,hy⟩:=hy
  rw[bind_iff] at hy
  obtain⟨z2,hz2,hy⟩:=hy
  replace hy:=Lib.hid hy
  cases h
  ·all_goals go_enter Tryz.func98,Tryz.ntmps98
   all_goals go_wp2_with (first|(go_at_call 32;refine(take_at ‹_› (by first|with_reducible assumption|exact Lib.hid rfl|assumption|exact run_hid _ _ _ _ _)).mono ?_;rintro e w' ⟨v,rfl,hat⟩;have hc8:=bad_cell _ _ _ _ hat;first|rw[bad_ok] at hc8|rw[bad_fail] at hc8|skip)|(go_at_call 126;first|(refine((ih _ ?hk).field _ _ _ _ _ ‹_› ‹_›).mono ?_;(case hk=>omega);rintro e w' ⟨v,rfl,hat⟩)|(refine(field_f HCL _ _ _ _ _ _ ‹_›).mono ?_;rintro e w' ⟨v,rfl,hat⟩);have hc8:=bad_cell _ _ _ _ hat;first|rw[bad_ok] at hc8|rw[bad_fail] at hc8|skip)|(go_at_call 127;first|(refine((ih _ ?hk).element _ _ _ _ _ ‹_› ‹_›).mono ?_;(case hk=>omega);rintro e w' ⟨v,rfl,hat⟩)|(refine(element_f HCL _ _ _ _ _ _ ‹_›).mono ?_;rintro e w' ⟨v,rfl,hat⟩);have hc8:=bad_cell _ _ _ _ hat;first|rw[bad_ok] at hc8|rw[bad_fail] at hc8|skip)|(go_at_call 34;refine(expect_at ‹_› _ (by first|with_reducible assumption|exact Lib.hid rfl|assumption|exact run_hid _ _ _ _ _)).mono ?_;rintro e w' ⟨rfl,hat⟩;have hc8:=bad_cell _ _ _ _ hat;first|rw[bad_ok] at hc8|rw[bad_fail] at hc8|skip)|(go_at_call 95;first|(with_reducible refine(comes1_yes ‹_› ?hc).mono ?_;(case hc=>simp [Res.comes, *]);rintro e w' ⟨rfl,hat⟩)|(with_reducible refine(comes1_no ‹_› ?hc).mono ?_;(case hc=>simp [Res.comes, *]);rintro e w' ⟨rfl,hat⟩)|(with_reducible refine(comes2_yes ‹_› ?hc).mono ?_;(case hc=>simp [Res.comes, *]);rintro e w' ⟨rfl,hat⟩)|(with_reducible refine(comes2_no ‹_› ?hc).mono ?_;(case hc=>simp [Res.comes, *]);rintro e w' ⟨rfl,hat⟩);have hc8:=bad_cell _ _ _ _ hat;first|rw[bad_ok] at hc8|rw[bad_fail] at hc8|skip))
   all_goals first
    |(go_end0;exact⟨_,rfl,by assumption⟩)
    |skip
   go_loopw [] (fun wr=>Lq C b z2 (.itL false) n wr) (fun wr=>lpOf C b z2 (.itL false) wr)
   case atStart=>exact Lq.at ‹_› ‹_›
   case round=>
    rcases hrel.out with⟨d0,d1,d2,hu,hat⟩|⟨k,s',hk,hq,hat,hy'⟩
    ·subst hu
     have hk0:(Res.fail d0 d1 d2).kind=0:=rfl
     have hc8:=bad_cell _ _ _ _ hat
     first|rw[bad_ok] at hc8|rw[bad_fail] at hc8
     go_wp2_with (first|(go_at_call 32;refine(take_at ‹_› (by first|with_reducible assumption|exact Lib.hid rfl|assumption|exact run_hid _ _ _ _ _)).mono ?_;rintro e w' ⟨v,rfl,hat⟩;have hc8:=bad_cell _ _ _ _ hat;first|rw[bad_ok] at hc8|rw[bad_fail] at hc8|skip)|(go_at_call 126;first|(refine((ih _ ?hk).field _ _ _ _ _ ‹_› ‹_›).mono ?_;(case hk=>omega);rintro e w' ⟨v,rfl,hat⟩)|(refine(field_f HCL _ _ _ _ _ _ ‹_›).mono ?_;rintro e w' ⟨v,rfl,hat⟩);have hc8:=bad_cell _ _ _ _ hat;first|rw[bad_ok] at hc8|rw[bad_fail] at hc8|skip)|(go_at_call 127;first|(refine((ih _ ?hk).element _ _ _ _ _ ‹_› ‹_›).mono ?_;(case hk=>omega);rintro e w' ⟨v,rfl,hat⟩)|(refine(element_f HCL _ _ _ _ _ _ ‹_›).mono ?_;rintro e w' ⟨v,rfl,hat⟩);have hc8:=bad_cell _ _ _ _ hat;first|rw[bad_ok] at hc8|rw[bad_fail] at hc8|skip)|(go_at_call 34;refine(expect_at ‹_› _ (by first|with_reducible assumption|exact Lib.hid rfl|assumption|exact run_hid _ _ _ _ _)).mono ?_;rintro e w' ⟨rfl,hat⟩;have hc8:=bad_cell _ _ _ _ hat;first|rw[bad_ok] at hc8|rw[bad_fail] at hc8|skip)|(go_at_call 95;first|(with_reducible refine(comes1_yes ‹_› ?hc).mono ?_;(case hc=>simp [Res.comes, *]);rintro e w' ⟨rfl,hat⟩)|(with_reducible refine(comes1_no ‹_› ?hc).mono ?_;(case hc=>simp [Res.comes, *]);rintro e w' ⟨rfl,hat⟩)|(with_reducible refine(comes2_yes ‹_› ?hc).mono ?_;(case hc=>simp [Res.comes, *]);rintro e w' ⟨rfl,hat⟩)|(with_reducible refine(comes2_no ‹_› ?hc).mono ?_;(case hc=>simp [Res.comes, *]);rintro e w' ⟨rfl,hat⟩);have hc8:=bad_cell _ _ _ _ hat;first|rw[bad_ok] at hc8|rw[bad_fail] at hc8|skip))
     all_goals(first
     |(go_roundw;(case rel=>exact(Lq.less (by omega) ‹_› ‹_› hq).1);(case measure=>exact(Lq.less (n:=n) (by omega) ‹_› ‹_› hq).2))
     |(go_end0;exact⟨_,rfl,by assumption⟩)
     |(go_ret;exact⟨_,rfl,by assumption⟩))
    ·rw[run] at hy'
     try dsimp only at hy'
     have hc8:=bad_cell _ _ _ _ hat
     first|rw[bad_ok] at hc8|rw[bad_fail] at hc8
     have hy2:=hy'
     clear hy'
     iterate 16 (all_goals try(first|split at hy2|(rw[bind_iff] at hy2;obtain⟨z,hz,hy2⟩:=hy2;try(rw[some_hid] at hz;subst hz))))
     all_goals(first|(obtain rfl:=Option.some.inj hy2)|(replace hy2:=Lib.hid hy2))
     iterate 2 (all_goals try(rename _∧_=>ho;obtain⟨_,_⟩:=ho))
     iterate 7 (all_goals try(rename _∨_=>ho;rcases ho with ho|ho))
     all_goals(repeat (rename ¬ (_∨_)=>ho;rw[not_or] at ho;obtain⟨_,_⟩:=ho))
     all_goals go_wp2_with (first|(go_at_call 32;refine(take_at ‹_› (by first|with_reducible assumption|exact Lib.hid rfl|assumption|exact run_hid _ _ _ _ _)).mono ?_;rintro e w' ⟨v,rfl,hat⟩;have hc8:=bad_cell _ _ _ _ hat;first|rw[bad_ok] at hc8|rw[bad_fail] at hc8|skip)|(go_at_call 126;first|(refine((ih _ ?hk).field _ _ _ _ _ ‹_› ‹_›).mono ?_;(case hk=>omega);rintro e w' ⟨v,rfl,hat⟩)|(refine(field_f HCL _ _ _ _ _ _ ‹_›).mono ?_;rintro e w' ⟨v,rfl,hat⟩);have hc8:=bad_cell _ _ _ _ hat;first|rw[bad_ok] at hc8|rw[bad_fail] at hc8|skip)|(go_at_call 127;first|(refine((ih _ ?hk).element _ _ _ _ _ ‹_› ‹_›).mono ?_;(case hk=>omega);rintro e w' ⟨v,rfl,hat⟩)|(refine(element_f HCL _ _ _ _ _ _ ‹_›).mono ?_;rintro e w' ⟨v,rfl,hat⟩);have hc8:=bad_cell _ _ _ _ hat;first|rw[bad_ok] at hc8|rw[bad_fail] at hc8|skip)|(go_at_call 34;refine(expect_at ‹_› _ (by first|with_reducible assumption|exact Lib.hid rfl|assumption|exact run_hid _ _ _ _ _)).mono ?_;rintro e w' ⟨rfl,hat⟩;have hc8:=bad_cell _ _ _ _ hat;first|rw[bad_ok] at hc8|rw[bad_fail] at hc8|skip)|(go_at_call 95;first|(with_reducible refine(comes1_yes ‹_› ?hc).mono ?_;(case hc=>simp [Res.comes, *]);rintro e w' ⟨rfl,hat⟩)|(with_reducible refine(comes1_no ‹_› ?hc).mono ?_;(case hc=>simp [Res.comes, *]);rintro e w' ⟨rfl,hat⟩)|(with_reducible refine(comes2_yes ‹_› ?hc).mono ?_;(case hc=>simp [Res.comes, *]);rintro e w' ⟨rfl,hat⟩)|(with_reducible refine(comes2_no ‹_› ?hc).mono ?_;(case hc=>simp [Res.comes, *]);rintro e w' ⟨rfl,hat⟩);have hc8:=bad_cell _ _ _ _ hat;first|rw[bad_ok] at hc8|rw[bad_fail] at hc8|skip))
     all_goals(first
     |(go_roundw;(case rel=>exact(Lq.less (by omega) ‹_› ‹_› hq).1);(case measure=>exact(Lq.less (n:=n) (by omega) ‹_› ‹_› hq).2))
     |(go_end0;exact⟨_,rfl,by assumption⟩)
     |(go_ret;exact⟨_,rfl,by assumption⟩))
  ·all_goals go_enter Tryz.func98,Tryz.ntmps98
   all_goals go_wp2_with (first|(go_at_call 32;refine(take_at ‹_› (by first|with_reducible assumption|exact Lib.hid rfl|assumption|exact run_hid _ _ _ _ _)).mono ?_;rintro e w' ⟨v,rfl,hat⟩;have hc8:=bad_cell _ _ _ _ hat;first|rw[bad_ok] at hc8|rw[bad_fail] at hc8|skip)|(go_at_call 126;first|(refine((ih _ ?hk).field _ _ _ _ _ ‹_› ‹_›).mono ?_;(case hk=>omega);rintro e w' ⟨v,rfl,hat⟩)|(refine(field_f HCL _ _ _ _ _ _ ‹_›).mono ?_;rintro e w' ⟨v,rfl,hat⟩);have hc8:=bad_cell _ _ _ _ hat;first|rw[bad_ok] at hc8|rw[bad_fail] at hc8|skip)|(go_at_call 127;first|(refine((ih _ ?hk).element _ _ _ _ _ ‹_› ‹_›).mono ?_;(case hk=>omega);rintro e w' ⟨v,rfl,hat⟩)|(refine(element_f HCL _ _ _ _ _ _ ‹_›).mono ?_;rintro e w' ⟨v,rfl,hat⟩);have hc8:=bad_cell _ _ _ _ hat;first|rw[bad_ok] at hc8|rw[bad_fail] at hc8|skip)|(go_at_call 34;refine(expect_at ‹_› _ (by first|with_reducible assumption|exact Lib.hid rfl|assumption|exact run_hid _ _ _ _ _)).mono ?_;rintro e w' ⟨rfl,hat⟩;have hc8:=bad_cell _ _ _ _ hat;first|rw[bad_ok] at hc8|rw[bad_fail] at hc8|skip)|(go_at_call 95;first|(with_reducible refine(comes1_yes ‹_› ?hc).mono ?_;(case hc=>simp [Res.comes, *]);rintro e w' ⟨rfl,hat⟩)|(with_reducible refine(comes1_no ‹_› ?hc).mono ?_;(case hc=>simp [Res.comes, *]);rintro e w' ⟨rfl,hat⟩)|(with_reducible refine(comes2_yes ‹_› ?hc).mono ?_;(case hc=>simp [Res.comes, *]);rintro e w' ⟨rfl,hat⟩)|(with_reducible refine(comes2_no ‹_› ?hc).mono ?_;(case hc=>simp [Res.comes, *]);rintro e w' ⟨rfl,hat⟩);have hc8:=bad_cell _ _ _ _ hat;first|rw[bad_ok] at hc8|rw[bad_fail] at hc8|skip))
   all_goals first
    |(go_end0;exact⟨_,rfl,by assumption⟩)
    |skip
   go_loopw [] (fun wr=>Lq C b z2 (.itL true) n wr) (fun wr=>lpOf C b z2 (.itL true) wr)
   case atStart=>exact Lq.at ‹_› ‹_›
   case round=>
    rcases hrel.out with⟨d0,d1,d2,hu,hat⟩|⟨k,s',hk,hq,hat,hy'⟩
    ·subst hu
     have hk0:(Res.fail d0 d1 d2).kind=0:=rfl
     have hc8:=bad_cell _ _ _ _ hat
     first|rw[bad_ok] at hc8|rw[bad_fail] at hc8
     go_wp2_with (first|(go_at_call 32;refine(take_at ‹_› (by first|with_reducible assumption|exact Lib.hid rfl|assumption|exact run_hid _ _ _ _ _)).mono ?_;rintro e w' ⟨v,rfl,hat⟩;have hc8:=bad_cell _ _ _ _ hat;first|rw[bad_ok] at hc8|rw[bad_fail] at hc8|skip)|(go_at_call 126;first|(refine((ih _ ?hk).field _ _ _ _ _ ‹_› ‹_›).mono ?_;(case hk=>omega);rintro e w' ⟨v,rfl,hat⟩)|(refine(field_f HCL _ _ _ _ _ _ ‹_›).mono ?_;rintro e w' ⟨v,rfl,hat⟩);have hc8:=bad_cell _ _ _ _ hat;first|rw[bad_ok] at hc8|rw[bad_fail] at hc8|skip)|(go_at_call 127;first|(refine((ih _ ?hk).element _ _ _ _ _ ‹_› ‹_›).mono ?_;(case hk=>omega);rintro e w' ⟨v,rfl,hat⟩)|(refine(element_f HCL _ _ _ _ _ _ ‹_›).mono ?_;rintro e w' ⟨v,rfl,hat⟩);have hc8:=bad_cell _ _ _ _ hat;first|rw[bad_ok] at hc8|rw[bad_fail] at hc8|skip)|(go_at_call 34;refine(expect_at ‹_› _ (by first|with_reducible assumption|exact Lib.hid rfl|assumption|exact run_hid _ _ _ _ _)).mono ?_;rintro e w' ⟨rfl,hat⟩;have hc8:=bad_cell _ _ _ _ hat;first|rw[bad_ok] at hc8|rw[bad_fail] at hc8|skip)|(go_at_call 95;first|(with_reducible refine(comes1_yes ‹_› ?hc).mono ?_;(case hc=>simp [Res.comes, *]);rintro e w' ⟨rfl,hat⟩)|(with_reducible refine(comes1_no ‹_› ?hc).mono ?_;(case hc=>simp [Res.comes, *]);rintro e w' ⟨rfl,hat⟩)|(with_reducible refine(comes2_yes ‹_› ?hc).mono ?_;(case hc=>simp [Res.comes, *]);rintro e w' ⟨rfl,hat⟩)|(with_reducible refine(comes2_no ‹_› ?hc).mono ?_;(case hc=>simp [Res.comes, *]);rintro e w' ⟨rfl,hat⟩);have hc8:=bad_cell _ _ _ _ hat;first|rw[bad_ok] at hc8|rw[bad_fail] at hc8|skip))
     all_goals(first
     |(go_roundw;(case rel=>exact(Lq.less (by omega) ‹_› ‹_› hq).1);(case measure=>exact(Lq.less (n:=n) (by omega) ‹_› ‹_› hq).2))
     |(go_end0;exact⟨_,rfl,by assumption⟩)
     |(go_ret;exact⟨_,rfl,by assumption⟩))
    ·rw[run] at hy'
     try dsimp only at hy'
     have hc8:=bad_cell _ _ _ _ hat
     first|rw[bad_ok] at hc8|rw[bad_fail] at hc8
     have hy2:=hy'
     clear hy'
     iterate 16 (all_goals try(first|split at hy2|(rw[bind_iff] at hy2;obtain⟨z,hz,hy2⟩:=hy2;try(rw[some_hid] at hz;subst hz))))
     all_goals(first|(obtain rfl:=Option.some.inj hy2)|(replace hy2:=Lib.hid hy2))
     iterate 2 (all_goals try(rename _∧_=>ho;obtain⟨_,_⟩:=ho))
     iterate 7 (all_goals try(rename _∨_=>ho;rcases ho with ho|ho))
     all_goals(repeat (rename ¬ (_∨_)=>ho;rw[not_or] at ho;obtain⟨_,_⟩:=ho))
     all_goals go_wp2_with (first|(go_at_call 32;refine(take_at ‹_› (by first|with_reducible assumption|exact Lib.hid rfl|assumption|exact run_hid _ _ _ _ _)).mono ?_;rintro e w' ⟨v,rfl,hat⟩;have hc8:=bad_cell _ _ _ _ hat;first|rw[bad_ok] at hc8|rw[bad_fail] at hc8|skip)|(go_at_call 126;first|(refine((ih _ ?hk).field _ _ _ _ _ ‹_› ‹_›).mono ?_;(case hk=>omega);rintro e w' ⟨v,rfl,hat⟩)|(refine(field_f HCL _ _ _ _ _ _ ‹_›).mono ?_;rintro e w' ⟨v,rfl,hat⟩);have hc8:=bad_cell _ _ _ _ hat;first|rw[bad_ok] at hc8|rw[bad_fail] at hc8|skip)|(go_at_call 127;first|(refine((ih _ ?hk).element _ _ _ _ _ ‹_› ‹_›).mono ?_;(case hk=>omega);rintro e w' ⟨v,rfl,hat⟩)|(refine(element_f HCL _ _ _ _ _ _ ‹_›).mono ?_;rintro e w' ⟨v,rfl,hat⟩);have hc8:=bad_cell _ _ _ _ hat;first|rw[bad_ok] at hc8|rw[bad_fail] at hc8|skip)|(go_at_call 34;refine(expect_at ‹_› _ (by first|with_reducible assumption|exact Lib.hid rfl|assumption|exact run_hid _ _ _ _ _)).mono ?_;rintro e w' ⟨rfl,hat⟩;have hc8:=bad_cell _ _ _ _ hat;first|rw[bad_ok] at hc8|rw[bad_fail] at hc8|skip)|(go_at_call 95;first|(with_reducible refine(comes1_yes ‹_› ?hc).mono ?_;(case hc=>simp [Res.comes, *]);rintro e w' ⟨rfl,hat⟩)|(with_reducible refine(comes1_no ‹_› ?hc).mono ?_;(case hc=>simp [Res.comes, *]);rintro e w' ⟨rfl,hat⟩)|(with_reducible refine(comes2_yes ‹_› ?hc).mono ?_;(case hc=>simp [Res.comes, *]);rintro e w' ⟨rfl,hat⟩)|(with_reducible refine(comes2_no ‹_› ?hc).mono ?_;(case hc=>simp [Res.comes, *]);rintro e w' ⟨rfl,hat⟩);have hc8:=bad_cell _ _ _ _ hat;first|rw[bad_ok] at hc8|rw[bad_fail] at hc8|skip))
     all_goals(first
     |(go_roundw;(case rel=>exact(Lq.less (by omega) ‹_› ‹_› hq).1);(case measure=>exact(Lq.less (n:=n) (by omega) ‹_› ‹_› hq).2))
     |(go_end0;exact⟨_,rfl,by assumption⟩)
     |(go_ret;exact⟨_,rfl,by assumption⟩))
end Go.Proofs.YtmelbeefjgjdhaaGreat.rd
