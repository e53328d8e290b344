/-
  Texts put together: Hj, Hg, Hh, Hi.
-/
import Derived.Test.YtmelbeefjgjdhaaGreatP20
set_option maxRecDepth 100000
set_option maxHeartbeats 8000000
namespace Go.Proofs.YtmelbeefjgjdhaaGreat.rd
open Go.RowKit
theorem cassertion_s {n:Nat} {C:Kc} {w:World} {b:Nat} {s:St} {z:Res} {m:Int} {y:Res} (hat:Hid (CAt C w b (.ok s))) (h1:Hid (rTake (.ok s)=some z)) (hy0:Hid ((if z.kind=89 then(rTake z >>= fun u=>rExpect 62 u >>= fun v=>rClose m 212 v) else(run n .type z >>= fun u=>rExpect 62 u >>= fun v=>rClose m 211 v))=some y)) (hlm:(C.low:Int)≤m) (ih:∀ k,k≤n→AllC k):Calls Tryz.prog 175 #[.pointer (some ⟨b,0,none⟩),.int .i64 m] w (CPost C b y):=by
 have _:=ih
 have hy:=hy0.out
 clear hy0
 iterate 16 (all_goals try(first|split at hy|(rw[bind_iff] at hy;obtain⟨z,hz,hy⟩:=hy;try(rw[some_hid] at hz;subst hz))))
 all_goals(first|(obtain rfl:=Option.some.inj hy)|(replace hy:=Lib.hid hy))
 iterate 2 (all_goals try(rename _∧_=>ho;obtain⟨_,_⟩:=ho))
 iterate 7 (all_goals try(rename _∨_=>ho;rcases ho with ho|ho))
 all_goals(repeat (rename ¬ (_∨_)=>ho;rw[not_or] at ho;obtain⟨_,_⟩:=ho))
 all_goals(try have e89:(z.kind == 89)=false:=by simp [*])
 all_goals go_enter Tryz.func175,Tryz.ntmps175
 all_goals go_wp2_with (first|(go_at_call 31;refine(ctake_at ‹_› (by first|with_reducible assumption|exact Lib.hid rfl|assumption|exact run_hid _ _ _ _ _)).mono ?_;rintro e w' ⟨v,rfl,hat⟩)|(go_at_call 83;first|(refine(ccame_yes ‹_› ‹_› (by first|with_reducible assumption|exact Lib.hid rfl|assumption|exact run_hid _ _ _ _ _)).mono ?_;rintro e w' ⟨rfl,hat⟩)|(refine(ccame_no ‹_› ?hno).mono ?_;(case hno=>first|assumption|rfl|simp [*]);rintro e w' ⟨rfl,hat⟩))|(go_at_call 23;first|(refine((ih _ ?hk).type _ _ _ _ _ ‹_› ‹_›).mono ?_;(case hk=>omega);rintro e w' ⟨v,rfl,hat⟩)|(refine(cType_f _ _ _ _ _ _ ‹_›).mono ?_;rintro e w' ⟨v,rfl,hat⟩))|(go_at_call 33;refine(cexpect_at ‹_› _ (by first|with_reducible assumption|exact Lib.hid rfl|assumption|exact run_hid _ _ _ _ _)).mono ?_;rintro e w' ⟨rfl,hat⟩)|(go_at_call 37;refine(cclose_at _ _ _ _ _ _ _ _ ‹_› (by first|exact fun _=>rfl|assumption|exact fun hb=>by cases hb) (by first|exact fun _=>low_ok ‹_›|(intro _;omega)|(intro hb;cases hb;done)|assumption) (by first|with_reducible assumption|exact Lib.hid rfl|assumption|exact run_hid _ _ _ _ _)).mono ?_;rintro e w' ⟨v,rfl,hat⟩))
 all_goals(first|go_end0|go_ret)
 all_goals exact⟨_,rfl,by assumption⟩
theorem cselection_s {n:Nat} (ih:∀ k,k≤n→AllC k):PM 154 (n+1) .period:=by
 have _:=ih
 intro C w b x y m m' hat hm hlw hy
 have hy:=hy.out
 cases x with
 |fail d0 d1 d2=>
  rw[run_fail] at hy
  obtain rfl:=Option.some.inj hy
  clear hy
  have hk0:(Res.fail d0 d1 d2).kind=0:=rfl
  all_goals go_enter Tryz.func154,Tryz.ntmps154
  all_goals go_wp2_with (first|(go_at_call 31;refine(ctake_at ‹_› (by first|with_reducible assumption|exact Lib.hid rfl|assumption|exact run_hid _ _ _ _ _)).mono ?_;rintro e w' ⟨v,rfl,hat⟩)|(go_at_call 57;first|(refine(ckind_is ‹_› ‹_›).mono ?_;rintro e w' ⟨rfl,hat⟩)|(refine(ckind_at ‹_›).mono ?_;rintro e w' ⟨rfl,hat⟩))|(go_at_call 47;refine(cname_at ‹_› (by first|with_reducible assumption|exact Lib.hid rfl|assumption|exact run_hid _ _ _ _ _)).mono ?_;rintro e w' ⟨v,rfl,hat⟩)|(go_at_call 37;refine(cclose_at _ _ _ _ _ _ _ _ ‹_› (by first|exact fun _=>rfl|assumption|exact fun hb=>by cases hb) (by first|exact fun _=>low_ok ‹_›|(intro _;omega)|(intro hb;cases hb;done)|assumption) (by first|with_reducible assumption|exact Lib.hid rfl|assumption|exact run_hid _ _ _ _ _)).mono ?_;rintro e w' ⟨v,rfl,hat⟩)|(go_at_call 45;refine(cfail_at ‹_› _ (by first|with_reducible assumption|exact Lib.hid rfl|assumption|exact run_hid _ _ _ _ _)).mono ?_;rintro e w' ⟨v,rfl,hat⟩)|(go_at_call 175;refine(cassertion_s ‹_› ‹_› ‹_› (by omega) (fun j hj=>ih j (by omega))).mono ?_;rintro e w' ⟨v,rfl,hat⟩))
  all_goals(first|go_end0|go_ret)
  all_goals exact⟨_,rfl,by assumption⟩
 |ok s=>
  have hlo:C.low≤s.R.length:=low_nat hat
  rw[run] at hy
  try dsimp only at hy
  have hm':=hm rfl
  subst hm'
  clear hm
  have hlm:=hlw rfl
  clear hlw
  rw[bind_iff] at hy
  obtain⟨z1,hz1,hy⟩:=hy
  by_cases h57:z1.kind=57
  ·rw[if_neg (by rw[h57];decide),if_pos h57] at hy
   obtain⟨t,rfl⟩:=ok_of_kind h57 (by decide)
   rw[bind_iff] at hy
   obtain⟨z2,hz2,hy⟩:=hy
   replace hy:=Lib.hid hy
   all_goals go_enter Tryz.func154,Tryz.ntmps154
   all_goals go_wp2_with (first|(go_at_call 31;refine(ctake_at ‹_› (by first|with_reducible assumption|exact Lib.hid rfl|assumption|exact run_hid _ _ _ _ _)).mono ?_;rintro e w' ⟨v,rfl,hat⟩)|(go_at_call 57;first|(refine(ckind_is ‹_› ‹_›).mono ?_;rintro e w' ⟨rfl,hat⟩)|(refine(ckind_at ‹_›).mono ?_;rintro e w' ⟨rfl,hat⟩))|(go_at_call 47;refine(cname_at ‹_› (by first|with_reducible assumption|exact Lib.hid rfl|assumption|exact run_hid _ _ _ _ _)).mono ?_;rintro e w' ⟨v,rfl,hat⟩)|(go_at_call 37;refine(cclose_at _ _ _ _ _ _ _ _ ‹_› (by first|exact fun _=>rfl|assumption|exact fun hb=>by cases hb) (by first|exact fun _=>low_ok ‹_›|(intro _;omega)|(intro hb;cases hb;done)|assumption) (by first|with_reducible assumption|exact Lib.hid rfl|assumption|exact run_hid _ _ _ _ _)).mono ?_;rintro e w' ⟨v,rfl,hat⟩)|(go_at_call 45;refine(cfail_at ‹_› _ (by first|with_reducible assumption|exact Lib.hid rfl|assumption|exact run_hid _ _ _ _ _)).mono ?_;rintro e w' ⟨v,rfl,hat⟩)|(go_at_call 175;refine(cassertion_s ‹_› ‹_› ‹_› (by omega) (fun j hj=>ih j (by omega))).mono ?_;rintro e w' ⟨v,rfl,hat⟩))
   all_goals(first|go_end0|go_ret)
   all_goals exact⟨_,rfl,by assumption⟩
  ·rw[if_neg (c:=z1.kind=57) h57] at hy
   have e57:(z1.kind == 57)=false:=by simp [*]
   iterate 16 (all_goals try(first|split at hy|(rw[bind_iff] at hy;obtain⟨z,hz,hy⟩:=hy;try(rw[some_hid] at hz;subst hz))))
   all_goals(first|(obtain rfl:=Option.some.inj hy)|(replace hy:=Lib.hid hy))
   iterate 2 (all_goals try(rename _∧_=>ho;obtain⟨_,_⟩:=ho))
   iterate 7 (all_goals try(rename _∨_=>ho;rcases ho with ho|ho))
   all_goals(repeat (rename ¬ (_∨_)=>ho;rw[not_or] at ho;obtain⟨_,_⟩:=ho))
   all_goals(try have e10:(z1.kind == 10)=false:=by simp [*])
   all_goals go_enter Tryz.func154,Tryz.ntmps154
   all_goals go_wp2_with (first|(go_at_call 31;refine(ctake_at ‹_› (by first|with_reducible assumption|exact Lib.hid rfl|assumption|exact run_hid _ _ _ _ _)).mono ?_;rintro e w' ⟨v,rfl,hat⟩)|(go_at_call 57;first|(refine(ckind_is ‹_› ‹_›).mono ?_;rintro e w' ⟨rfl,hat⟩)|(refine(ckind_at ‹_›).mono ?_;rintro e w' ⟨rfl,hat⟩))|(go_at_call 47;refine(cname_at ‹_› (by first|with_reducible assumption|exact Lib.hid rfl|assumption|exact run_hid _ _ _ _ _)).mono ?_;rintro e w' ⟨v,rfl,hat⟩)|(go_at_call 37;refine(cclose_at _ _ _ _ _ _ _ _ ‹_› (by first|exact fun _=>rfl|assumption|exact fun hb=>by cases hb) (by first|exact fun _=>low_ok ‹_›|(intro _;omega)|(intro hb;cases hb;done)|assumption) (by first|with_reducible assumption|exact Lib.hid rfl|assumption|exact run_hid _ _ _ _ _)).mono ?_;rintro e w' ⟨v,rfl,hat⟩)|(go_at_call 45;refine(cfail_at ‹_› _ (by first|with_reducible assumption|exact Lib.hid rfl|assumption|exact run_hid _ _ _ _ _)).mono ?_;rintro e w' ⟨v,rfl,hat⟩)|(go_at_call 175;refine(cassertion_s ‹_› ‹_› ‹_› (by omega) (fun j hj=>ih j (by omega))).mono ?_;rintro e w' ⟨v,rfl,hat⟩))
   all_goals(first|go_end0|go_ret)
   all_goals exact⟨_,rfl,by assumption⟩
open Go.RowKit
theorem ccall_s {n:Nat} (ih:∀ k,k≤n→AllC k):PM 156 (n+1) .call:=by
 have _:=ih
 intro C w b x y m m' hat hm hlw hy
 have hy:=hy.out
 cases x with
 |fail d0 d1 d2=>
  rw[run_fail] at hy
  obtain rfl:=Option.some.inj hy
  clear hy
  have hk0:(Res.fail d0 d1 d2).kind=0:=rfl
  go_enter Tryz.func156,Tryz.ntmps156
  go_wp2_with (first|(go_at_call 31;refine(ctake_at ‹_› (by first|with_reducible assumption|exact Lib.hid rfl|assumption|exact run_hid _ _ _ _ _)).mono ?_;rintro e w' ⟨v,rfl,hat⟩)|(go_at_call 57;first|(refine(ckind_is ‹_› ‹_›).mono ?_;rintro e w' ⟨rfl,hat⟩)|(refine(ckind_at ‹_›).mono ?_;rintro e w' ⟨rfl,hat⟩))|(go_at_call 139;first|(refine(cinside_at (ih:=ih _ ?hk) ‹_› ‹_›).mono ?_;(case hk=>omega);rintro e w' ⟨v,rfl,hat⟩)|(refine(cinside_f _ _ _ _ _ _ ‹_›).mono ?_;rintro e w' ⟨v,rfl,hat⟩))|(go_at_call 83;first|(refine(ccame_yes ‹_› ‹_› (by first|with_reducible assumption|exact Lib.hid rfl|assumption|exact run_hid _ _ _ _ _)).mono ?_;rintro e w' ⟨rfl,hat⟩)|(refine(ccame_no ‹_› ?hno).mono ?_;(case hno=>first|assumption|rfl|simp [*]);rintro e w' ⟨rfl,hat⟩))|(go_at_call 33;refine(cexpect_at ‹_› _ (by first|with_reducible assumption|exact Lib.hid rfl|assumption|exact run_hid _ _ _ _ _)).mono ?_;rintro e w' ⟨rfl,hat⟩)|(go_at_call 37;refine(cclose_at _ _ _ _ _ _ _ _ ‹_› (by first|exact fun _=>rfl|assumption|exact fun hb=>by cases hb) (by first|exact fun _=>low_ok ‹_›|(intro _;omega)|(intro hb;cases hb;done)|assumption) (by first|with_reducible assumption|exact Lib.hid rfl|assumption|exact run_hid _ _ _ _ _)).mono ?_;rintro e w' ⟨v,rfl,hat⟩))
  go_loopw [] (fun wr=>Hid (CAt C wr b (.fail d0 d1 d2))) (fun _=>0)
  case atStart=>assumption
  case round=>
   have hat:=hrel
   go_wp2_with (first|(go_at_call 31;refine(ctake_at ‹_› (by first|with_reducible assumption|exact Lib.hid rfl|assumption|exact run_hid _ _ _ _ _)).mono ?_;rintro e w' ⟨v,rfl,hat⟩)|(go_at_call 57;first|(refine(ckind_is ‹_› ‹_›).mono ?_;rintro e w' ⟨rfl,hat⟩)|(refine(ckind_at ‹_›).mono ?_;rintro e w' ⟨rfl,hat⟩))|(go_at_call 139;first|(refine(cinside_at (ih:=ih _ ?hk) ‹_› ‹_›).mono ?_;(case hk=>omega);rintro e w' ⟨v,rfl,hat⟩)|(refine(cinside_f _ _ _ _ _ _ ‹_›).mono ?_;rintro e w' ⟨v,rfl,hat⟩))|(go_at_call 83;first|(refine(ccame_yes ‹_› ‹_› (by first|with_reducible assumption|exact Lib.hid rfl|assumption|exact run_hid _ _ _ _ _)).mono ?_;rintro e w' ⟨rfl,hat⟩)|(refine(ccame_no ‹_› ?hno).mono ?_;(case hno=>first|assumption|rfl|simp [*]);rintro e w' ⟨rfl,hat⟩))|(go_at_call 33;refine(cexpect_at ‹_› _ (by first|with_reducible assumption|exact Lib.hid rfl|assumption|exact run_hid _ _ _ _ _)).mono ?_;rintro e w' ⟨rfl,hat⟩)|(go_at_call 37;refine(cclose_at _ _ _ _ _ _ _ _ ‹_› (by first|exact fun _=>rfl|assumption|exact fun hb=>by cases hb) (by first|exact fun _=>low_ok ‹_›|(intro _;omega)|(intro hb;cases hb;done)|assumption) (by first|with_reducible assumption|exact Lib.hid rfl|assumption|exact run_hid _ _ _ _ _)).mono ?_;rintro e w' ⟨v,rfl,hat⟩))
   all_goals(first|go_end0|go_ret)
   all_goals exact⟨_,rfl,by assumption⟩
 |ok s=>
  have hlo:C.low≤s.R.length:=low_nat hat
  rw[run] at hy
  try dsimp only at hy
  have hm':=hm rfl
  subst hm'
  clear hm
  have hlm:=hlw rfl
  clear hlw
  rw[bind_iff] at hy
  obtain⟨z1,hz1,hy⟩:=hy
  rw[bind_iff] at hy
  obtain⟨z2,hz2,hy⟩:=hy
  rw[bind_iff] at hy
  obtain⟨z3,hz3,hy⟩:=hy
  replace hy:=Lib.hid hy
  all_goals go_enter Tryz.func156,Tryz.ntmps156
  all_goals go_wp2_with (first|(go_at_call 31;refine(ctake_at ‹_› (by first|with_reducible assumption|exact Lib.hid rfl|assumption|exact run_hid _ _ _ _ _)).mono ?_;rintro e w' ⟨v,rfl,hat⟩)|(go_at_call 57;first|(refine(ckind_is ‹_› ‹_›).mono ?_;rintro e w' ⟨rfl,hat⟩)|(refine(ckind_at ‹_›).mono ?_;rintro e w' ⟨rfl,hat⟩))|(go_at_call 139;first|(refine(cinside_at (ih:=ih _ ?hk) ‹_› ‹_›).mono ?_;(case hk=>omega);rintro e w' ⟨v,rfl,hat⟩)|(refine(cinside_f _ _ _ _ _ _ ‹_›).mono ?_;rintro e w' ⟨v,rfl,hat⟩))|(go_at_call 83;first|(refine(ccame_yes ‹_› ‹_› (by first|with_reducible assumption|exact Lib.hid rfl|assumption|exact run_hid _ _ _ _ _)).mono ?_;rintro e w' ⟨rfl,hat⟩)|(refine(ccame_no ‹_› ?hno).mono ?_;(case hno=>first|assumption|rfl|simp [*]);rintro e w' ⟨rfl,hat⟩))|(go_at_call 33;refine(cexpect_at ‹_› _ (by first|with_reducible assumption|exact Lib.hid rfl|assumption|exact run_hid _ _ _ _ _)).mono ?_;rintro e w' ⟨rfl,hat⟩)|(go_at_call 37;refine(cclose_at _ _ _ _ _ _ _ _ ‹_› (by first|exact fun _=>rfl|assumption|exact fun hb=>by cases hb) (by first|exact fun _=>low_ok ‹_›|(intro _;omega)|(intro hb;cases hb;done)|assumption) (by first|with_reducible assumption|exact Lib.hid rfl|assumption|exact run_hid _ _ _ _ _)).mono ?_;rintro e w' ⟨v,rfl,hat⟩))
  all_goals first|(go_end0;exact⟨_,rfl,by assumption⟩)|skip
  go_loopw [] (fun wr=>Mq C b z2 .callL n wr) (fun wr=>mpOf C b z2 .callL wr)
  case atStart=>exact Mq.at ‹_› ‹_›
  case round=>
   rcases hrel.out with⟨d0,d1,d2,hu,hat⟩|⟨k,s',hk,hq,hat,hy'⟩
   ·subst hu
    have hk0:(Res.fail d0 d1 d2).kind=0:=rfl
    go_wp2_with (first
   |(go_at_call 31;refine(ctake_at ‹_› (by first|with_reducible assumption|exact Lib.hid rfl|assumption|exact run_hid _ _ _ _ _)).mono ?_;rintro e w' ⟨v,rfl,hat⟩)
   |(go_at_call 57;first|(refine(ckind_is ‹_› ‹_›).mono ?_;rintro e w' ⟨rfl,hat⟩)|(refine(ckind_at ‹_›).mono ?_;rintro e w' ⟨rfl,hat⟩))
   |(go_at_call 139;first|(refine(cinside_at (ih:=ih _ ?hk) ‹_› ‹_›).mono ?_;(case hk=>omega);rintro e w' ⟨v,rfl,hat⟩)|(refine(cinside_f _ _ _ _ _ _ ‹_›).mono ?_;rintro e w' ⟨v,rfl,hat⟩))
   |(go_at_call 83;first|(refine(ccame_yes ‹_› ‹_› (by first|with_reducible assumption|exact Lib.hid rfl|assumption|exact run_hid _ _ _ _ _)).mono ?_;rintro e w' ⟨rfl,hat⟩)|(refine(ccame_no ‹_› ?hno).mono ?_;(case hno=>first|assumption|rfl|simp [*]);rintro e w' ⟨rfl,hat⟩))
   |(go_at_call 33;refine(cexpect_at ‹_› _ (by first|with_reducible assumption|exact Lib.hid rfl|assumption|exact run_hid _ _ _ _ _)).mono ?_;rintro e w' ⟨rfl,hat⟩)
   |(go_at_call 37;refine(cclose_at _ _ _ _ _ _ _ _ ‹_› (by first|exact fun _=>rfl|assumption|exact fun hb=>by cases hb) (by first|exact fun _=>low_ok ‹_›|(intro _;omega)|(intro hb;cases hb;done)|assumption) (by first|with_reducible assumption|exact Lib.hid rfl|assumption|exact run_hid _ _ _ _ _)).mono ?_;rintro e w' ⟨v,rfl,hat⟩))
    all_goals(first|(go_roundw;(case rel=>exact(Mq.less (by omega) ‹_› ‹_› hq).1);(case measure=>exact(Mq.less (n:=n) (by omega) ‹_› ‹_› hq).2))|(go_end0;exact⟨_,rfl,by assumption⟩)|(go_ret;exact⟨_,rfl,by assumption⟩))
   ·rw[run] at hy'
    try dsimp only at hy'
    have hy2:=hy'
    clear hy'
    iterate 16 (all_goals try(first|split at hy2|(rw[bind_iff] at hy2;obtain⟨z,hz,hy2⟩:=hy2;try(rw[some_hid] at hz;subst hz))))
    all_goals(first|(obtain rfl:=Option.some.inj hy2)|(replace hy2:=Lib.hid hy2))
    iterate 2 (all_goals try(rename _∧_=>ho;obtain⟨_,_⟩:=ho))
    iterate 7 (all_goals try(rename _∨_=>ho;rcases ho with ho|ho))
    all_goals(repeat (rename ¬ (_∨_)=>ho;rw[not_or] at ho;obtain⟨_,_⟩:=ho))
    all_goals go_wp2_with (first
   |(go_at_call 31;refine(ctake_at ‹_› (by first|with_reducible assumption|exact Lib.hid rfl|assumption|exact run_hid _ _ _ _ _)).mono ?_;rintro e w' ⟨v,rfl,hat⟩)
   |(go_at_call 57;first|(refine(ckind_is ‹_› ‹_›).mono ?_;rintro e w' ⟨rfl,hat⟩)|(refine(ckind_at ‹_›).mono ?_;rintro e w' ⟨rfl,hat⟩))
   |(go_at_call 139;first|(refine(cinside_at (ih:=ih _ ?hk) ‹_› ‹_›).mono ?_;(case hk=>omega);rintro e w' ⟨v,rfl,hat⟩)|(refine(cinside_f _ _ _ _ _ _ ‹_›).mono ?_;rintro e w' ⟨v,rfl,hat⟩))
   |(go_at_call 83;first|(refine(ccame_yes ‹_› ‹_› (by first|with_reducible assumption|exact Lib.hid rfl|assumption|exact run_hid _ _ _ _ _)).mono ?_;rintro e w' ⟨rfl,hat⟩)|(refine(ccame_no ‹_› ?hno).mono ?_;(case hno=>first|assumption|rfl|simp [*]);rintro e w' ⟨rfl,hat⟩))
   |(go_at_call 33;refine(cexpect_at ‹_› _ (by first|with_reducible assumption|exact Lib.hid rfl|assumption|exact run_hid _ _ _ _ _)).mono ?_;rintro e w' ⟨rfl,hat⟩)
   |(go_at_call 37;refine(cclose_at _ _ _ _ _ _ _ _ ‹_› (by first|exact fun _=>rfl|assumption|exact fun hb=>by cases hb) (by first|exact fun _=>low_ok ‹_›|(intro _;omega)|(intro hb;cases hb;done)|assumption) (by first|with_reducible assumption|exact Lib.hid rfl|assumption|exact run_hid _ _ _ _ _)).mono ?_;rintro e w' ⟨v,rfl,hat⟩))
    all_goals(first|(go_roundw;(case rel=>exact(Mq.less (by omega) ‹_› ‹_› hq).1);(case measure=>exact(Mq.less (n:=n) (by omega) ‹_› ‹_› hq).2))|(go_end0;exact⟨_,rfl,by assumption⟩)|(go_ret;exact⟨_,rfl,by assumption⟩))
open Go.RowKit
theorem ccut_s {n:Nat} (ih:∀ k,k≤n→AllC k):PM 176 (n+1) .cut:=by
 have _:=ih
 intro C w b x y m m' hat hm hlw hy
 have hy:=hy.out
 cases x with
 |fail d0 d1 d2=>
  rw[run_fail] at hy
  obtain rfl:=Option.some.inj hy
  clear hy
  have hk0:(Res.fail d0 d1 d2).kind=0:=rfl
  all_goals go_enter Tryz.func176,Tryz.ntmps176
  all_goals go_wp2_with (first|(go_at_call 31;refine(ctake_at ‹_› (by first|with_reducible assumption|exact Lib.hid rfl|assumption|exact run_hid _ _ _ _ _)).mono ?_;rintro e w' ⟨v,rfl,hat⟩)|(go_at_call 57;first|(refine(ckind_is ‹_› ‹_›).mono ?_;rintro e w' ⟨rfl,hat⟩)|(refine(ckind_at ‹_›).mono ?_;rintro e w' ⟨rfl,hat⟩))|(go_at_call 45;refine(cfail_at ‹_› _ (by first|with_reducible assumption|exact Lib.hid rfl|assumption|exact run_hid _ _ _ _ _)).mono ?_;rintro e w' ⟨v,rfl,hat⟩)|(go_at_call 35;refine(cnone_at ‹_› (by first|with_reducible assumption|exact Lib.hid rfl|assumption|exact run_hid _ _ _ _ _)).mono ?_;rintro e w' ⟨v,rfl,hat⟩)|(go_at_call 139;first|(refine(cinside_at (ih:=ih _ ?hk) ‹_› ‹_›).mono ?_;(case hk=>omega);rintro e w' ⟨v,rfl,hat⟩)|(refine(cinside_f _ _ _ _ _ _ ‹_›).mono ?_;rintro e w' ⟨v,rfl,hat⟩))|(go_at_call 83;first|(refine(ccame_yes ‹_› ‹_› (by first|with_reducible assumption|exact Lib.hid rfl|assumption|exact run_hid _ _ _ _ _)).mono ?_;rintro e w' ⟨rfl,hat⟩)|(refine(ccame_no ‹_› ?hno).mono ?_;(case hno=>first|assumption|rfl|simp [*]);rintro e w' ⟨rfl,hat⟩))|(go_at_call 33;refine(cexpect_at ‹_› _ (by first|with_reducible assumption|exact Lib.hid rfl|assumption|exact run_hid _ _ _ _ _)).mono ?_;rintro e w' ⟨rfl,hat⟩)|(go_at_call 37;refine(cclose_at _ _ _ _ _ _ _ _ ‹_› (by first|exact fun _=>rfl|assumption|exact fun hb=>by cases hb) (by first|exact fun _=>low_ok ‹_›|(intro _;omega)|(intro hb;cases hb;done)|assumption) (by first|with_reducible assumption|exact Lib.hid rfl|assumption|exact run_hid _ _ _ _ _)).mono ?_;rintro e w' ⟨v,rfl,hat⟩))
  all_goals(first|go_end0|go_ret)
  all_goals exact⟨_,rfl,by assumption⟩
 |ok s=>
  have hlo:C.low≤s.R.length:=low_nat hat
  rw[run] at hy
  try dsimp only at hy
  have hm':=hm rfl
  subst hm'
  clear hm
  have hlm:=hlw rfl
  clear hlw
  rw[bind_iff] at hy
  obtain⟨z1,hz1,hy⟩:=hy
  by_cases h65:z1.kind=65
  ·rw[if_pos (.inl h65),bind_iff] at hy
   obtain⟨z2,hz2,hy⟩:=hy
   rw[if_pos ((rNone_kind hz2).trans h65)] at hy
   have hy2:=rNone_fail hz2 _ hy
   clear hy hz2
   obtain⟨d0,d1,d2,rfl⟩:=rFail_bad hy2
   have hk0:(Res.fail d0 d1 d2).kind=0:=rfl
   replace hy2:=Lib.hid hy2
   all_goals go_enter Tryz.func176,Tryz.ntmps176
   all_goals go_wp2_with (first|(go_at_call 31;refine(ctake_at ‹_› (by first|with_reducible assumption|exact Lib.hid rfl|assumption|exact run_hid _ _ _ _ _)).mono ?_;rintro e w' ⟨v,rfl,hat⟩)|(go_at_call 57;first|(refine(ckind_is ‹_› ‹_›).mono ?_;rintro e w' ⟨rfl,hat⟩)|(refine(ckind_at ‹_›).mono ?_;rintro e w' ⟨rfl,hat⟩))|(go_at_call 45;refine(cfail_at ‹_› _ (by first|with_reducible assumption|exact Lib.hid rfl|assumption|exact run_hid _ _ _ _ _)).mono ?_;rintro e w' ⟨v,rfl,hat⟩)|(go_at_call 35;refine(cnone_at ‹_› (by first|with_reducible assumption|exact Lib.hid rfl|assumption|exact run_hid _ _ _ _ _)).mono ?_;rintro e w' ⟨v,rfl,hat⟩)|(go_at_call 139;first|(refine(cinside_at (ih:=ih _ ?hk) ‹_› ‹_›).mono ?_;(case hk=>omega);rintro e w' ⟨v,rfl,hat⟩)|(refine(cinside_f _ _ _ _ _ _ ‹_›).mono ?_;rintro e w' ⟨v,rfl,hat⟩))|(go_at_call 83;first|(refine(ccame_yes ‹_› ‹_› (by first|with_reducible assumption|exact Lib.hid rfl|assumption|exact run_hid _ _ _ _ _)).mono ?_;rintro e w' ⟨rfl,hat⟩)|(refine(ccame_no ‹_› ?hno).mono ?_;(case hno=>first|assumption|rfl|simp [*]);rintro e w' ⟨rfl,hat⟩))|(go_at_call 33;refine(cexpect_at ‹_› _ (by first|with_reducible assumption|exact Lib.hid rfl|assumption|exact run_hid _ _ _ _ _)).mono ?_;rintro e w' ⟨rfl,hat⟩)|(go_at_call 37;refine(cclose_at _ _ _ _ _ _ _ _ ‹_› (by first|exact fun _=>rfl|assumption|exact fun hb=>by cases hb) (by first|exact fun _=>low_ok ‹_›|(intro _;omega)|(intro hb;cases hb;done)|assumption) (by first|with_reducible assumption|exact Lib.hid rfl|assumption|exact run_hid _ _ _ _ _)).mono ?_;rintro e w' ⟨v,rfl,hat⟩))
   all_goals(first|go_end0|go_ret)
   all_goals exact⟨_,rfl,by assumption⟩
  ·by_cases h63:z1.kind=63
   ·rw[if_pos (.inr h63),bind_iff] at hy
    obtain⟨z2,hz2,hy⟩:=hy
    have hk2:z2.kind=63:=(rNone_kind hz2).trans h63
    rw[if_neg (by rw[hk2];decide)] at hy
    have e65:(z1.kind == 65)=false:=by simp [*]
    have e652:(z2.kind == 65)=false:=by simp [*]
    iterate 16 (all_goals try(first|split at hy|(rw[bind_iff] at hy;obtain⟨z,hz,hy⟩:=hy;try(rw[some_hid] at hz;subst hz))))
    all_goals(first|(obtain rfl:=Option.some.inj hy)|(replace hy:=Lib.hid hy))
    iterate 2 (all_goals try(rename _∧_=>ho;obtain⟨_,_⟩:=ho))
    iterate 7 (all_goals try(rename _∨_=>ho;rcases ho with ho|ho))
    all_goals(repeat (rename ¬ (_∨_)=>ho;rw[not_or] at ho;obtain⟨_,_⟩:=ho))
    all_goals go_enter Tryz.func176,Tryz.ntmps176
    all_goals go_wp2_with (first|(go_at_call 31;refine(ctake_at ‹_› (by first|with_reducible assumption|exact Lib.hid rfl|assumption|exact run_hid _ _ _ _ _)).mono ?_;rintro e w' ⟨v,rfl,hat⟩)|(go_at_call 57;first|(refine(ckind_is ‹_› ‹_›).mono ?_;rintro e w' ⟨rfl,hat⟩)|(refine(ckind_at ‹_›).mono ?_;rintro e w' ⟨rfl,hat⟩))|(go_at_call 45;refine(cfail_at ‹_› _ (by first|with_reducible assumption|exact Lib.hid rfl|assumption|exact run_hid _ _ _ _ _)).mono ?_;rintro e w' ⟨v,rfl,hat⟩)|(go_at_call 35;refine(cnone_at ‹_› (by first|with_reducible assumption|exact Lib.hid rfl|assumption|exact run_hid _ _ _ _ _)).mono ?_;rintro e w' ⟨v,rfl,hat⟩)|(go_at_call 139;first|(refine(cinside_at (ih:=ih _ ?hk) ‹_› ‹_›).mono ?_;(case hk=>omega);rintro e w' ⟨v,rfl,hat⟩)|(refine(cinside_f _ _ _ _ _ _ ‹_›).mono ?_;rintro e w' ⟨v,rfl,hat⟩))|(go_at_call 83;first|(refine(ccame_yes ‹_› ‹_› (by first|with_reducible assumption|exact Lib.hid rfl|assumption|exact run_hid _ _ _ _ _)).mono ?_;rintro e w' ⟨rfl,hat⟩)|(refine(ccame_no ‹_› ?hno).mono ?_;(case hno=>first|assumption|rfl|simp [*]);rintro e w' ⟨rfl,hat⟩))|(go_at_call 33;refine(cexpect_at ‹_› _ (by first|with_reducible assumption|exact Lib.hid rfl|assumption|exact run_hid _ _ _ _ _)).mono ?_;rintro e w' ⟨rfl,hat⟩)|(go_at_call 37;refine(cclose_at _ _ _ _ _ _ _ _ ‹_› (by first|exact fun _=>rfl|assumption|exact fun hb=>by cases hb) (by first|exact fun _=>low_ok ‹_›|(intro _;omega)|(intro hb;cases hb;done)|assumption) (by first|with_reducible assumption|exact Lib.hid rfl|assumption|exact run_hid _ _ _ _ _)).mono ?_;rintro e w' ⟨v,rfl,hat⟩))
    all_goals(first|go_end0|go_ret)
    all_goals exact⟨_,rfl,by assumption⟩
   ·rw[if_neg (by rintro(h|h);exact h65 h;exact h63 h)] at hy
    have e65:(z1.kind == 65)=false:=by simp [*]
    have e63:(z1.kind == 63)=false:=by simp [*]
    iterate 16 (all_goals try(first|split at hy|(rw[bind_iff] at hy;obtain⟨z,hz,hy⟩:=hy;try(rw[some_hid] at hz;subst hz))))
    all_goals(first|(obtain rfl:=Option.some.inj hy)|(replace hy:=Lib.hid hy))
    iterate 2 (all_goals try(rename _∧_=>ho;obtain⟨_,_⟩:=ho))
    iterate 7 (all_goals try(rename _∨_=>ho;rcases ho with ho|ho))
    all_goals(repeat (rename ¬ (_∨_)=>ho;rw[not_or] at ho;obtain⟨_,_⟩:=ho))
    all_goals go_enter Tryz.func176,Tryz.ntmps176
    all_goals go_wp2_with (first|(go_at_call 31;refine(ctake_at ‹_› (by first|with_reducible assumption|exact Lib.hid rfl|assumption|exact run_hid _ _ _ _ _)).mono ?_;rintro e w' ⟨v,rfl,hat⟩)|(go_at_call 57;first|(refine(ckind_is ‹_› ‹_›).mono ?_;rintro e w' ⟨rfl,hat⟩)|(refine(ckind_at ‹_›).mono ?_;rintro e w' ⟨rfl,hat⟩))|(go_at_call 45;refine(cfail_at ‹_› _ (by first|with_reducible assumption|exact Lib.hid rfl|assumption|exact run_hid _ _ _ _ _)).mono ?_;rintro e w' ⟨v,rfl,hat⟩)|(go_at_call 35;refine(cnone_at ‹_› (by first|with_reducible assumption|exact Lib.hid rfl|assumption|exact run_hid _ _ _ _ _)).mono ?_;rintro e w' ⟨v,rfl,hat⟩)|(go_at_call 139;first|(refine(cinside_at (ih:=ih _ ?hk) ‹_› ‹_›).mono ?_;(case hk=>omega);rintro e w' ⟨v,rfl,hat⟩)|(refine(cinside_f _ _ _ _ _ _ ‹_›).mono ?_;rintro e w' ⟨v,rfl,hat⟩))|(go_at_call 83;first|(refine(ccame_yes ‹_› ‹_› (by first|with_reducible assumption|exact Lib.hid rfl|assumption|exact run_hid _ _ _ _ _)).mono ?_;rintro e w' ⟨rfl,hat⟩)|(refine(ccame_no ‹_› ?hno).mono ?_;(case hno=>first|assumption|rfl|simp [*]);rintro e w' ⟨rfl,hat⟩))|(go_at_call 33;refine(cexpect_at ‹_› _ (by first|with_reducible assumption|exact Lib.hid rfl|assumption|exact run_hid _ _ _ _ _)).mono ?_;rintro e w' ⟨rfl,hat⟩)|(go_at_call 37;refine(cclose_at _ _ _ _ _ _ _ _ ‹_› (by first|exact fun _=>rfl|assumption|exact fun hb=>by cases hb) (by first|exact fun _=>low_ok ‹_›|(intro _;omega)|(intro hb;cases hb;done)|assumption) (by first|with_reducible assumption|exact Lib.hid rfl|assumption|exact run_hid _ _ _ _ _)).mono ?_;rintro e w' ⟨v,rfl,hat⟩))
    all_goals(first|go_end0|go_ret)
    all_goals exact⟨_,rfl,by assumption⟩
open Go.RowKit
theorem cindex_s {n:Nat} (ih:∀ k,k≤n→AllC k):PM 155 (n+1) .index:=by
 have _:=ih
 intro C w b x y m m' hat hm hlw hy
 have hy:=hy.out
 cases x with
 |fail d0 d1 d2=>
  rw[run_fail] at hy
  obtain rfl:=Option.some.inj hy
  clear hy
  have hk0:(Res.fail d0 d1 d2).kind=0:=rfl
  all_goals go_enter Tryz.func155,Tryz.ntmps155
  all_goals go_wp2_with (first|(go_at_call 31;refine(ctake_at ‹_› (by first|with_reducible assumption|exact Lib.hid rfl|assumption|exact run_hid _ _ _ _ _)).mono ?_;rintro e w' ⟨v,rfl,hat⟩)|(go_at_call 57;first|(refine(ckind_is ‹_› ‹_›).mono ?_;rintro e w' ⟨rfl,hat⟩)|(refine(ckind_at ‹_›).mono ?_;rintro e w' ⟨rfl,hat⟩))|(go_at_call 35;refine(cnone_at ‹_› (by first|with_reducible assumption|exact Lib.hid rfl|assumption|exact run_hid _ _ _ _ _)).mono ?_;rintro e w' ⟨v,rfl,hat⟩)|(go_at_call 139;first|(refine(cinside_at (ih:=ih _ ?hk) ‹_› ‹_›).mono ?_;(case hk=>omega);rintro e w' ⟨v,rfl,hat⟩)|(refine(cinside_f _ _ _ _ _ _ ‹_›).mono ?_;rintro e w' ⟨v,rfl,hat⟩))|(go_at_call 37;refine(cclose_at _ _ _ _ _ _ _ _ ‹_› (by first|exact fun _=>rfl|assumption|exact fun hb=>by cases hb) (by first|exact fun _=>low_ok ‹_›|(intro _;omega)|(intro hb;cases hb;done)|assumption) (by first|with_reducible assumption|exact Lib.hid rfl|assumption|exact run_hid _ _ _ _ _)).mono ?_;rintro e w' ⟨v,rfl,hat⟩)|(go_at_call 116;refine(ccloseX_s (n:=0) ‹_› (run_hid _ _ _ _ _) (Lib.hid rfl) (fun j hj=>ih j (by omega))).mono ?_;rintro e w' ⟨v,rfl,hat⟩))
  all_goals(first|go_end0|go_ret)
  all_goals exact⟨_,rfl,by assumption⟩
 |ok s=>
  have hlo:C.low≤s.R.length:=low_nat hat
  rw[run] at hy
  try dsimp only at hy
  have hm':=hm rfl
  subst hm'
  clear hm
  have hlm:=hlw rfl
  clear hlw
  rw[bind_iff] at hy
  obtain⟨z0,hz0,hy⟩:=hy
  have hcase:∃ z,Hid ((if z0.kind=65 then rNone z0 else run n (.X false) z0)=some z)∧(if z.kind=65 then run n (.cut m') z else(run n .idxL z >>= fun u=>rExpect 63 u >>= fun v=>rClose m' 208 v))=some y:=by
   split at hy
   ·rename_i h65
    rw[bind_iff] at hy
    obtain⟨z,hz,hy⟩:=hy
    exact⟨z,by rw[if_pos h65];exact hz,hy⟩
   ·rename_i h65
    rw[bind_iff] at hy
    obtain⟨z,hz,hy⟩:=hy
    exact⟨z,by rw[if_neg h65];exact hz,hy⟩
  clear hy
  obtain⟨z1,hz1,hy⟩:=hcase
  have hz1':=hz1.out
  clear hz1
  split at hy
  ·replace hy:=Lib.hid hy
   split at hz1'
   all_goals replace hz1':=Lib.hid hz1'
   all_goals(try have e65:(z0.kind == 65)=false:=by simp [*])
   all_goals go_enter Tryz.func155,Tryz.ntmps155
   all_goals go_wp2_with (first|(go_at_call 31;refine(ctake_at ‹_› (by first|with_reducible assumption|exact Lib.hid rfl|assumption|exact run_hid _ _ _ _ _)).mono ?_;rintro e w' ⟨v,rfl,hat⟩)|(go_at_call 57;first|(refine(ckind_is ‹_› ‹_›).mono ?_;rintro e w' ⟨rfl,hat⟩)|(refine(ckind_at ‹_›).mono ?_;rintro e w' ⟨rfl,hat⟩))|(go_at_call 35;refine(cnone_at ‹_› (by first|with_reducible assumption|exact Lib.hid rfl|assumption|exact run_hid _ _ _ _ _)).mono ?_;rintro e w' ⟨v,rfl,hat⟩)|(go_at_call 139;first|(refine(cinside_at (ih:=ih _ ?hk) ‹_› ‹_›).mono ?_;(case hk=>omega);rintro e w' ⟨v,rfl,hat⟩)|(refine(cinside_f _ _ _ _ _ _ ‹_›).mono ?_;rintro e w' ⟨v,rfl,hat⟩))|(go_at_call 176;first|(refine((ih _ ?hk).cut _ _ _ _ _ _ _ ‹_› (by first|exact fun _=>rfl|assumption|exact fun hb=>by cases hb) (by first|exact fun _=>low_nat ‹_›|(intro _;omega)|(intro hb;cases hb;done)|assumption) ‹_›).mono ?_;(case hk=>omega);rintro e w' ⟨v,rfl,hat⟩))|(go_at_call 37;refine(cclose_at _ _ _ _ _ _ _ _ ‹_› (by first|exact fun _=>rfl|assumption|exact fun hb=>by cases hb) (by first|exact fun _=>low_ok ‹_›|(intro _;omega)|(intro hb;cases hb;done)|assumption) (by first|with_reducible assumption|exact Lib.hid rfl|assumption|exact run_hid _ _ _ _ _)).mono ?_;rintro e w' ⟨v,rfl,hat⟩)|(go_at_call 116;refine(ccloseX_s ‹_› ‹_› ‹_› (fun j hj=>ih j (by omega))).mono ?_;rintro e w' ⟨v,rfl,hat⟩))
   all_goals(first|go_end0|go_ret)
   all_goals exact⟨_,rfl,by assumption⟩
  ·rw[bind_iff] at hy
   obtain⟨z2,hz2,hy⟩:=hy
   rw[bind_iff] at hy
   obtain⟨z3,hz3,hy⟩:=hy
   replace hy:=Lib.hid hy
   have e651:(z1.kind == 65)=false:=by simp [*]
   split at hz1'
   all_goals replace hz1':=Lib.hid hz1'
   all_goals(try have e65:(z0.kind == 65)=false:=by simp [*])
   all_goals go_enter Tryz.func155,Tryz.ntmps155
   all_goals go_wp2_with (first|(go_at_call 31;refine(ctake_at ‹_› (by first|with_reducible assumption|exact Lib.hid rfl|assumption|exact run_hid _ _ _ _ _)).mono ?_;rintro e w' ⟨v,rfl,hat⟩)|(go_at_call 57;first|(refine(ckind_is ‹_› ‹_›).mono ?_;rintro e w' ⟨rfl,hat⟩)|(refine(ckind_at ‹_›).mono ?_;rintro e w' ⟨rfl,hat⟩))|(go_at_call 35;refine(cnone_at ‹_› (by first|with_reducible assumption|exact Lib.hid rfl|assumption|exact run_hid _ _ _ _ _)).mono ?_;rintro e w' ⟨v,rfl,hat⟩)|(go_at_call 139;first|(refine(cinside_at (ih:=ih _ ?hk) ‹_› ‹_›).mono ?_;(case hk=>omega);rintro e w' ⟨v,rfl,hat⟩)|(refine(cinside_f _ _ _ _ _ _ ‹_›).mono ?_;rintro e w' ⟨v,rfl,hat⟩))|(go_at_call 176;first|(refine((ih _ ?hk).cut _ _ _ _ _ _ _ ‹_› (by first|exact fun _=>rfl|assumption|exact fun hb=>by cases hb) (by first|exact fun _=>low_nat ‹_›|(intro _;omega)|(intro hb;cases hb;done)|assumption) ‹_›).mono ?_;(case hk=>omega);rintro e w' ⟨v,rfl,hat⟩))|(go_at_call 37;refine(cclose_at _ _ _ _ _ _ _ _ ‹_› (by first|exact fun _=>rfl|assumption|exact fun hb=>by cases hb) (by first|exact fun _=>low_ok ‹_›|(intro _;omega)|(intro hb;cases hb;done)|assumption) (by first|with_reducible assumption|exact Lib.hid rfl|assumption|exact run_hid _ _ _ _ _)).mono ?_;rintro e w' ⟨v,rfl,hat⟩)|(go_at_call 116;refine(ccloseX_s ‹_› ‹_› ‹_› (fun j hj=>ih j (by omega))).mono ?_;rintro e w' ⟨v,rfl,hat⟩))
   all_goals(first|go_end0|go_ret)
   all_goals exact⟨_,rfl,by assumption⟩
end Go.Proofs.YtmelbeefjgjdhaaGreat.rd
