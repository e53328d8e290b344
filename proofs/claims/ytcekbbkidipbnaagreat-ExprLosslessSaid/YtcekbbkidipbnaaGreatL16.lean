/-
  Texts put together: Hl, Hu, Hv, Hw, Hx.
-/
import Derived.Test.YtcekbbkidipbnaaGreatL6
import Derived.Test.YtcekbbkidipbnaaGreatL8
set_option maxRecDepth 100000
set_option maxHeartbeats 8000000
namespace Go.Proofs.YtcekbbkidipbnaaGreat.rd
open Go.RowKit
theorem cfunction_s {n:Nat} {C:Kc} {w:World} {b:Nat} {s:St} {z1 z2 y:Res} (hat:Hid (CAt C w b (.ok s))) (h1:Hid (rTake (.ok s)=some z1)) (h2:Hid (run n .sig z1=some z2)) (h3:Hid ((if z2.kind=59 then(run n .flat z2 >>= fun v=>rClose s.R.length 216 v) else rClose s.R.length 223 z2)=some y)) (ih:∀ k,k≤n→AllC k):Calls Tryz.prog 174 #[.pointer (some ⟨b,0,none⟩)] w (CPost C b y):=by
 have hy:=h3.out
 clear h3
 iterate 16 (all_goals try(first|split at hy|(rw[bind_iff] at hy;obtain⟨z,hz,hy⟩:=hy;try(rw[some_hid] at hz;subst hz))))
 all_goals(first|(obtain rfl:=Option.some.inj hy)|(replace hy:=Lib.hid hy))
 iterate 2 (all_goals try(rename _∧_=>ho;obtain⟨_,_⟩:=ho))
 iterate 7 (all_goals try(rename _∨_=>ho;rcases ho with ho|ho))
 all_goals(repeat (rename ¬ (_∨_)=>ho;rw[not_or] at ho;obtain⟨_,_⟩:=ho))
 all_goals(try have e59:(z2.kind == 59)=false:=by simp [*])
 all_goals go_enter Tryz.func174,Tryz.ntmps174
 all_goals go_wp2_with (first|(go_at_call 61;first|(refine(cmark_at ‹_›).mono ?_;rintro e w' ⟨rfl,rfl⟩)|(refine(cmark_bad ‹_›).mono ?_;rintro e w' ⟨⟨v,_,rfl⟩,rfl⟩))|(go_at_call 31;refine(ctake_at ‹_› (by first|with_reducible assumption|exact Lib.hid rfl|assumption|exact run_hid _ _ _ _ _)).mono ?_;rintro e w' ⟨v,rfl,hat⟩)|(go_at_call 24;first|(refine((ih _ ?hk).sig _ _ _ _ _ ‹_› ‹_›).mono ?_;(case hk=>omega);rintro e w' ⟨v,rfl,hat⟩)|(refine(cSig_f _ _ _ _ _ _ ‹_›).mono ?_;rintro e w' ⟨v,rfl,hat⟩))|(go_at_call 57;first|(refine(ckind_is ‹_› ‹_›).mono ?_;rintro e w' ⟨rfl,hat⟩)|(refine(ckind_at ‹_›).mono ?_;rintro e w' ⟨rfl,hat⟩))|(go_at_call 189;first|(refine((ih _ ?hk).flat _ _ _ _ _ ‹_› ‹_›).mono ?_;(case hk=>omega);rintro e w' ⟨v,rfl,hat⟩))|(go_at_call 37;refine(cclose_at _ _ _ _ _ _ _ _ ‹_› (by first|exact fun _=>rfl|assumption|exact fun hb=>by cases hb) (by first|exact fun _=>low_ok ‹_›|(intro _;omega)|(intro hb;cases hb;done)|assumption) (by first|with_reducible assumption|exact Lib.hid rfl|assumption|exact run_hid _ _ _ _ _)).mono ?_;rintro e w' ⟨v,rfl,hat⟩))
 all_goals(first|go_end0|go_ret)
 all_goals exact⟨_,rfl,by assumption⟩
theorem coperand_s {n:Nat} (ih:∀ k,k≤n→AllC k):P0 153 (n+1) .operand:=by
 have _:=ih
 intro C w b x y hat hy
 have hy:=hy.out
 cases x with
 |fail d0 d1 d2=>
  rw[run_fail] at hy
  obtain rfl:=Option.some.inj hy
  exact coperand_f _ _ _ _ _ _ hat
 |ok s=>
  have hlo:C.low≤s.R.length:=low_nat hat
  rw[run] at hy
  try dsimp only at hy
  by_cases h79:(Res.ok s).kind=79
  ·rw[if_neg (by rw[h79];decide),if_neg (by rw[h79];decide),if_neg (by rw[h79];decide),if_pos h79] at hy
   rw[bind_iff] at hy
   obtain⟨z1,hz1,hy⟩:=hy
   rw[bind_iff] at hy
   obtain⟨z2,hz2,hy⟩:=hy
   replace hy:=Lib.hid hy
   all_goals go_enter Tryz.func153,Tryz.ntmps153
   all_goals go_wp2_with (first|(go_at_call 61;first|(refine(cmark_at ‹_›).mono ?_;rintro e w' ⟨rfl,rfl⟩)|(refine(cmark_bad ‹_›).mono ?_;rintro e w' ⟨⟨v,_,rfl⟩,rfl⟩))|(go_at_call 57;first|(refine(ckind_is ‹_› ‹_›).mono ?_;rintro e w' ⟨rfl,hat⟩)|(refine(ckind_at ‹_›).mono ?_;rintro e w' ⟨rfl,hat⟩))|(go_at_call 47;refine(cname_at ‹_› (by first|with_reducible assumption|exact Lib.hid rfl|assumption|exact run_hid _ _ _ _ _)).mono ?_;rintro e w' ⟨v,rfl,hat⟩)|(go_at_call 31;refine(ctake_at ‹_› (by first|with_reducible assumption|exact Lib.hid rfl|assumption|exact run_hid _ _ _ _ _)).mono ?_;rintro e w' ⟨v,rfl,hat⟩)|(go_at_call 37;refine(cclose_at _ _ _ _ _ _ _ _ ‹_› (by first|exact fun _=>rfl|assumption|exact fun hb=>by cases hb) (by first|exact fun _=>low_ok ‹_›|(intro _;omega)|(intro hb;cases hb;done)|assumption) (by first|with_reducible assumption|exact Lib.hid rfl|assumption|exact run_hid _ _ _ _ _)).mono ?_;rintro e w' ⟨v,rfl,hat⟩)|(go_at_call 139;first|(refine(cinside_at (ih:=ih _ ?hk) ‹_› ‹_›).mono ?_;(case hk=>omega);rintro e w' ⟨v,rfl,hat⟩)|(refine(cinside_f _ _ _ _ _ _ ‹_›).mono ?_;rintro e w' ⟨v,rfl,hat⟩))|(go_at_call 33;refine(cexpect_at ‹_› _ (by first|with_reducible assumption|exact Lib.hid rfl|assumption|exact run_hid _ _ _ _ _)).mono ?_;rintro e w' ⟨rfl,hat⟩)|(go_at_call 23;first|(refine((ih _ ?hk).type _ _ _ _ _ ‹_› ‹_›).mono ?_;(case hk=>omega);rintro e w' ⟨v,rfl,hat⟩)|(refine(cType_f _ _ _ _ _ _ ‹_›).mono ?_;rintro e w' ⟨v,rfl,hat⟩))|(go_at_call 45;refine(cfail_at ‹_› _ (by first|with_reducible assumption|exact Lib.hid rfl|assumption|exact run_hid _ _ _ _ _)).mono ?_;rintro e w' ⟨v,rfl,hat⟩)|(go_at_call 174;refine(cfunction_s ‹_› ‹_› ‹_› ‹_› (fun j hj=>ih j (by omega))).mono ?_;rintro e w' ⟨v,rfl,hat⟩))
   all_goals(first|go_end0|go_ret)
   all_goals exact⟨_,rfl,by assumption⟩
  ·iterate 16 (all_goals try(first|split at hy|(rw[bind_iff] at hy;obtain⟨z,hz,hy⟩:=hy;try(rw[some_hid] at hz;subst hz))))
   all_goals(first|(obtain rfl:=Option.some.inj hy)|(replace hy:=Lib.hid hy))
   iterate 2 (all_goals try(rename _∧_=>ho;obtain⟨_,_⟩:=ho))
   iterate 7 (all_goals try(rename _∨_=>ho;rcases ho with ho|ho))
   all_goals(repeat (rename ¬ (_∨_)=>ho;rw[not_or] at ho;obtain⟨_,_⟩:=ho))
   all_goals(try(exact absurd ‹_› h79))
   all_goals(try have e10:((Res.ok s).kind == 10)=false:=by simp [*])
   all_goals(try have e11:((Res.ok s).kind == 11)=false:=by simp [*])
   all_goals(try have e12:((Res.ok s).kind == 12)=false:=by simp [*])
   all_goals(try have e13:((Res.ok s).kind == 13)=false:=by simp [*])
   all_goals(try have e14:((Res.ok s).kind == 14)=false:=by simp [*])
   all_goals(try have e57:((Res.ok s).kind == 57)=false:=by simp [*])
   all_goals(try have e79:((Res.ok s).kind == 79)=false:=by simp [*])
   all_goals(try have e58:((Res.ok s).kind == 58)=false:=by simp [*])
   all_goals(try have e83:((Res.ok s).kind == 83)=false:=by simp [*])
   all_goals(try have e87:((Res.ok s).kind == 87)=false:=by simp [*])
   all_goals(try have e82:((Res.ok s).kind == 82)=false:=by simp [*])
   all_goals go_enter Tryz.func153,Tryz.ntmps153
   all_goals go_wp2_with (first|(go_at_call 61;first|(refine(cmark_at ‹_›).mono ?_;rintro e w' ⟨rfl,rfl⟩)|(refine(cmark_bad ‹_›).mono ?_;rintro e w' ⟨⟨v,_,rfl⟩,rfl⟩))|(go_at_call 57;first|(refine(ckind_is ‹_› ‹_›).mono ?_;rintro e w' ⟨rfl,hat⟩)|(refine(ckind_at ‹_›).mono ?_;rintro e w' ⟨rfl,hat⟩))|(go_at_call 47;refine(cname_at ‹_› (by first|with_reducible assumption|exact Lib.hid rfl|assumption|exact run_hid _ _ _ _ _)).mono ?_;rintro e w' ⟨v,rfl,hat⟩)|(go_at_call 31;refine(ctake_at ‹_› (by first|with_reducible assumption|exact Lib.hid rfl|assumption|exact run_hid _ _ _ _ _)).mono ?_;rintro e w' ⟨v,rfl,hat⟩)|(go_at_call 37;refine(cclose_at _ _ _ _ _ _ _ _ ‹_› (by first|exact fun _=>rfl|assumption|exact fun hb=>by cases hb) (by first|exact fun _=>low_ok ‹_›|(intro _;omega)|(intro hb;cases hb;done)|assumption) (by first|with_reducible assumption|exact Lib.hid rfl|assumption|exact run_hid _ _ _ _ _)).mono ?_;rintro e w' ⟨v,rfl,hat⟩)|(go_at_call 139;first|(refine(cinside_at (ih:=ih _ ?hk) ‹_› ‹_›).mono ?_;(case hk=>omega);rintro e w' ⟨v,rfl,hat⟩)|(refine(cinside_f _ _ _ _ _ _ ‹_›).mono ?_;rintro e w' ⟨v,rfl,hat⟩))|(go_at_call 33;refine(cexpect_at ‹_› _ (by first|with_reducible assumption|exact Lib.hid rfl|assumption|exact run_hid _ _ _ _ _)).mono ?_;rintro e w' ⟨rfl,hat⟩)|(go_at_call 23;first|(refine((ih _ ?hk).type _ _ _ _ _ ‹_› ‹_›).mono ?_;(case hk=>omega);rintro e w' ⟨v,rfl,hat⟩)|(refine(cType_f _ _ _ _ _ _ ‹_›).mono ?_;rintro e w' ⟨v,rfl,hat⟩))|(go_at_call 45;refine(cfail_at ‹_› _ (by first|with_reducible assumption|exact Lib.hid rfl|assumption|exact run_hid _ _ _ _ _)).mono ?_;rintro e w' ⟨v,rfl,hat⟩)|(go_at_call 174;refine(cfunction_s ‹_› ‹_› ‹_› ‹_› (fun j hj=>ih j (by omega))).mono ?_;rintro e w' ⟨v,rfl,hat⟩))
   all_goals(first|go_end0|go_ret)
   all_goals exact⟨_,rfl,by assumption⟩
open Go.RowKit
theorem rClose_last {m k:Int} {x:Res} {t:St} (h:rClose m k x=some (.ok t)):t.last=k:=by
 cases x with
 |fail a b c=>cases h
 |ok s=>
  have h:chk (s.close m k)=some (.ok t):=h
  unfold St.close at h
  split at h
  ·cases chk_fail h
  ·obtain⟨e,_⟩:=chk_ok h
   cases e
   simp [St.last,St.closed,Tree.k]
theorem rUp_last {x:Res} {t:St} (h:rUp x=some (.ok t)):∃ s,x=.ok s∧t.last=s.last:=by
 cases x with
 |fail a b c=>cases h
 |ok s=>
  have h:chk (.ok s.up)=some (.ok t):=h
  obtain⟨e,_⟩:=chk_ok h
  cases e
  exact⟨s,rfl,rfl⟩
theorem rName_last {x:Res} {t:St} (h:rName x=some (.ok t)):t.last=201:=by
 unfold rName at h
 obtain⟨y,_,h⟩:=bind_some h
 exact rClose_last h
theorem rQualified_last {x:Res} {t:St} (h:rQualified x=some (.ok t)):t.last=201∨t.last=207:=by
 unfold rQualified at h
 obtain⟨y,hy,h⟩:=bind_some h
 split at h
 ·obtain⟨_,_,h⟩:=bind_some h
  obtain⟨_,_,h⟩:=bind_some h
  exact .inr (rClose_last h)
 ·have e:=Option.some.inj h
  subst e
  exact .inl (rName_last hy.out)
theorem array_last {n:Nat} {m:Nat} {x:Res} {t:St} (h:run n (.array m) x=some (.ok t)):t.last=220∨t.last=221:=by
 cases x with
 |fail a b c=>rw[run_fail] at h;cases h
 |ok s=>
  cases n with
  |zero=>exact absurd h (by unfold run;simp)
  |succ n=>
   rw[run] at h
   try dsimp only at h
   obtain⟨y,hy,h⟩:=bind_some h
   split at h
   ·obtain⟨_,_,h⟩:=bind_some h
    obtain⟨_,_,h⟩:=bind_some h
    exact .inl (rClose_last h)
   ·split at h
    ·obtain⟨_,_,h⟩:=bind_some h
     obtain⟨_,_,h⟩:=bind_some h
     obtain⟨_,_,h⟩:=bind_some h
     obtain⟨_,_,h⟩:=bind_some h
     exact .inr (rClose_last h)
    ·obtain⟨_,_,h⟩:=bind_some h
     obtain⟨_,_,h⟩:=bind_some h
     obtain⟨_,_,h⟩:=bind_some h
     exact .inr (rClose_last h)
theorem type_last {n:Nat} {x:Res} {t:St} (h:run n .type x=some (.ok t)):t.last≠230:=by
 cases x with
 |fail a b c=>rw[run_fail] at h;cases h
 |ok s=>
  cases n with
  |zero=>exact absurd h (by unfold run;simp)
  |succ n=>
   rw[run] at h
   try dsimp only at h
   obtain⟨y,hy,h⟩:=bind_some h
   split at h
   ·rename_i hb
    have e:=Option.some.inj h
    subst e
    cases hb
   ·split at h
    ·obtain⟨z,hz,h⟩:=bind_some h
     split at h
     ·iterate 5 (obtain⟨_,hq,h⟩:=bind_some h)
      obtain⟨s',rfl,e⟩:=rUp_last h
      rw[e,rClose_last hq.out];decide
     ·obtain⟨u,hu,h⟩:=bind_some h
      have e2:=Option.some.inj hu.out
      subst e2
      obtain⟨s',rfl,e⟩:=rUp_last h
      rw[e]
      rcases rQualified_last hz.out with e|e <;> rw[e] <;> decide
    split at h
    ·iterate 4 (obtain⟨_,hq,h⟩:=bind_some h)
     obtain⟨s',rfl,e⟩:=rUp_last h
     rw[e,rClose_last hq.out];decide
    split at h
    ·iterate 3 (obtain⟨_,hq,h⟩:=bind_some h)
     obtain⟨s',rfl,e⟩:=rUp_last h
     rw[e,rClose_last hq.out];decide
    split at h
    ·iterate 3 (obtain⟨_,hq,h⟩:=bind_some h)
     obtain⟨s',rfl,e⟩:=rUp_last h
     rw[e,rClose_last hq.out];decide
    split at h
    ·obtain⟨_,hq,h⟩:=bind_some h
     obtain⟨s',rfl,e⟩:=rUp_last h
     rw[e]
     rcases array_last hq.out with e|e <;> rw[e] <;> decide
    split at h
    ·iterate 6 (obtain⟨_,hq,h⟩:=bind_some h)
     obtain⟨s',rfl,e⟩:=rUp_last h
     rw[e,rClose_last hq.out];decide
    split at h
    ·iterate 3 (obtain⟨_,hq,h⟩:=bind_some h)
     obtain⟨s',rfl,e⟩:=rUp_last h
     rw[e,rClose_last hq.out];decide
    split at h
    ·iterate 3 (obtain⟨_,hq,h⟩:=bind_some h)
     obtain⟨s',rfl,e⟩:=rUp_last h
     rw[e,rClose_last hq.out];decide
    ·obtain⟨_,hq,h⟩:=bind_some h
     obtain⟨s',rfl,e⟩:=rUp_last h
     obtain⟨_,_,_,e⟩:=rFail_bad hq.out
     cases e
theorem term_last {n:Nat} {x:Res} {t:St} (h:run n .term x=some (.ok t)):(t.last == 230)=(x.kind == 51):=by
 cases x with
 |fail a b c=>rw[run_fail] at h;cases h
 |ok s=>
  cases n with
  |zero=>exact absurd h (by unfold run;simp)
  |succ n=>
   rw[run] at h
   try dsimp only at h
   split at h
   ·rename_i hk
    obtain⟨_,_,h⟩:=bind_some h
    obtain⟨_,_,h⟩:=bind_some h
    rw[rClose_last h,hk]
    rfl
   ·rename_i hk
    rw[beq_eq_false_iff_ne.2 (type_last h),beq_eq_false_iff_ne.2 hk]
open Go.RowKit
theorem cconstraint_f:∀ (C:Kc) (w:World) (b:Nat) (d0 d1 d2:Int),Hid (CAt C w b (.fail d0 d1 d2))→Calls Tryz.prog 120 #[.pointer (some ⟨b,0,none⟩)] w (CPost C b (.fail d0 d1 d2)):=by
 intro C w b d0 d1 d2 hat
 have hl:(Res.fail d0 d1 d2).last=0:=rfl
 go_enter Tryz.func120,Tryz.ntmps120
 go_wp2_with (first|(go_at_call 61;first|(refine(cmark_at ‹_›).mono ?_;rintro e w' ⟨rfl,rfl⟩)|(refine(cmark_bad ‹_›).mono ?_;rintro e w' ⟨⟨v,_,rfl⟩,rfl⟩))|(go_at_call 63;refine(clast_at ‹_›).mono ?_;rintro e w' ⟨rfl,hat⟩)|(go_at_call 37;refine(cclose_at _ _ _ _ _ _ _ _ ‹_› (by first|exact fun _=>rfl|assumption|exact fun hb=>by cases hb) (by first|exact fun _=>low_ok ‹_›|(intro _;omega)|(intro hb;cases hb;done)|assumption) (by first|with_reducible assumption|exact Lib.hid rfl|assumption|exact run_hid _ _ _ _ _)).mono ?_;rintro e w' ⟨v,rfl,hat⟩)|(go_at_call 119;refine(cterms_f _ _ _ _ _ _ ‹_›).mono ?_;rintro e w' ⟨c,rfl,hat⟩;rcases Bool.eq_false_or_eq_true (decide (1<c)) with hd|hd))
 all_goals(first|go_end0|go_ret)
 all_goals exact⟨_,rfl,by assumption⟩
theorem cconstraint_s {n:Nat} (hn:n≤1099511627776) {C:Kc} {w:World} {b:Nat} {x z u:Res} (hat:Hid (CAt C w b x)) (h1:Hid (run n .term x=some z)) (h2:Hid ((if z.kind=26 then(run n .unionL z >>= fun v=>rClose x.len 229 v) else if x.kind=51 then rClose x.len 229 z else some z)=some u)) (ih:∀ k,k≤n→AllC k):Calls Tryz.prog 120 #[.pointer (some ⟨b,0,none⟩)] w (CPost C b u):=by
 have h3:=h2.out
 clear h2
 cases x with
 |fail d0 d1 d2=>
  have e:=h1.out
  rw[run_fail] at e
  obtain rfl:=Option.some.inj e
  rw[if_neg (by rw[Res.kind_fail];decide),if_neg (by rw[Res.kind_fail];decide)] at h3
  obtain rfl:=Option.some.inj h3
  exact cconstraint_f _ _ _ _ _ _ hat
 |ok s=>
  rw[show(Res.ok s).len=s.R.length from rfl] at h3
  cases z with
  |fail d0 d1 d2=>
   have hv:=run_hid n .unionL d0 d1 d2
   have hu:u=.fail d0 d1 d2:=by
    rw[if_neg (by rw[Res.kind_fail];decide)] at h3
    split at h3
    ·exact(Option.some.inj h3).symm
    ·exact(Option.some.inj h3).symm
   subst hu
   clear h3
   have hl:(Res.fail d0 d1 d2).last=0:=rfl
   all_goals go_enter Tryz.func120,Tryz.ntmps120
   all_goals go_wp2_with (first|(go_at_call 61;first|(refine(cmark_at ‹_›).mono ?_;rintro e w' ⟨rfl,rfl⟩)|(refine(cmark_bad ‹_›).mono ?_;rintro e w' ⟨⟨v,_,rfl⟩,rfl⟩))|(go_at_call 63;refine(clast_at ‹_›).mono ?_;rintro e w' ⟨rfl,hat⟩)|(go_at_call 37;refine(cclose_at _ _ _ _ _ _ _ _ ‹_› (by first|exact fun _=>rfl|assumption|exact fun hb=>by cases hb) (by first|exact fun _=>low_ok ‹_›|(intro _;omega)|(intro hb;cases hb;done)|assumption) (by first|with_reducible assumption|exact Lib.hid rfl|assumption|exact run_hid _ _ _ _ _)).mono ?_;rintro e w' ⟨v,rfl,hat⟩)|(go_at_call 119;refine(cterms_s (n:=n) (by omega) (fun j hj=>ih j (by omega)) _ _ _ _ _ _ ‹_› h1 hv).mono ?_;rintro e w' ⟨c,rfl,hat,hct⟩;rcases Bool.eq_false_or_eq_true (decide (1<c)) with hd|hd))
   all_goals(first|go_end0|go_ret)
   all_goals exact⟨_,rfl,by assumption⟩
  |ok zs=>
   by_cases h26:(Res.ok zs).kind=26
   ·rw[if_pos h26,bind_iff] at h3
    obtain⟨v,hv,h3⟩:=h3
    have e26:((Res.ok zs).kind == 26)=true:=beq_iff_eq.2 h26
    cases v with
    |fail d0 d1 d2=>
     obtain rfl:=Option.some.inj h3
     clear h3
     have hl:(Res.fail d0 d1 d2).last=0:=rfl
     all_goals go_enter Tryz.func120,Tryz.ntmps120
     all_goals go_wp2_with (first|(go_at_call 61;first|(refine(cmark_at ‹_›).mono ?_;rintro e w' ⟨rfl,rfl⟩)|(refine(cmark_bad ‹_›).mono ?_;rintro e w' ⟨⟨v,_,rfl⟩,rfl⟩))|(go_at_call 63;refine(clast_at ‹_›).mono ?_;rintro e w' ⟨rfl,hat⟩)|(go_at_call 37;refine(cclose_at _ _ _ _ _ _ _ _ ‹_› (by first|exact fun _=>rfl|assumption|exact fun hb=>by cases hb) (by first|exact fun _=>low_ok ‹_›|(intro _;omega)|(intro hb;cases hb;done)|assumption) (by first|with_reducible assumption|exact Lib.hid rfl|assumption|exact run_hid _ _ _ _ _)).mono ?_;rintro e w' ⟨v,rfl,hat⟩)|(go_at_call 119;refine(cterms_s (n:=n) (by omega) (fun j hj=>ih j (by omega)) _ _ _ _ _ _ ‹_› h1 hv).mono ?_;rintro e w' ⟨c,rfl,hat,hct⟩;rcases Bool.eq_false_or_eq_true (decide (1<c)) with hd|hd))
     all_goals(first|go_end0|go_ret)
     all_goals exact⟨_,rfl,by assumption⟩
    |ok vs=>
     replace h3:=Lib.hid h3
     all_goals go_enter Tryz.func120,Tryz.ntmps120
     all_goals go_wp2_with (first|(go_at_call 61;first|(refine(cmark_at ‹_›).mono ?_;rintro e w' ⟨rfl,rfl⟩)|(refine(cmark_bad ‹_›).mono ?_;rintro e w' ⟨⟨v,_,rfl⟩,rfl⟩))|(go_at_call 63;refine(clast_at ‹_›).mono ?_;rintro e w' ⟨rfl,hat⟩)|(go_at_call 37;refine(cclose_at _ _ _ _ _ _ _ _ ‹_› (by first|exact fun _=>rfl|assumption|exact fun hb=>by cases hb) (by first|exact fun _=>low_ok ‹_›|(intro _;omega)|(intro hb;cases hb;done)|assumption) (by first|with_reducible assumption|exact Lib.hid rfl|assumption|exact run_hid _ _ _ _ _)).mono ?_;rintro e w' ⟨v,rfl,hat⟩)|(go_at_call 119;refine(cterms_s (n:=n) (by omega) (fun j hj=>ih j (by omega)) _ _ _ _ _ _ ‹_› h1 hv).mono ?_;rintro e w' ⟨c,rfl,hat,hct⟩;have hd:=hct rfl;rw[e26] at hd))
     all_goals(first|go_end0|go_ret)
     all_goals exact⟨_,rfl,by assumption⟩
   ·rw[if_neg h26] at h3
    have e26:((Res.ok zs).kind == 26)=false:=beq_eq_false_iff_ne.2 h26
    cases n with
    |zero=>exact absurd h1.out (by unfold run;simp)
    |succ m=>
     have hv:Hid (run (m+1) .unionL (.ok zs)=some (.ok zs)):=Lib.hid (by rw[run];rw[if_neg h26])
     have hlt:=term_last h1.out
     have hls:(Res.ok zs).last=zs.last:=rfl
     by_cases h51:(Res.ok s).kind=51
     ·rw[if_pos h51] at h3
      replace h3:=Lib.hid h3
      have e230:((Res.ok zs).last == 230)=true:=by rw[hls,hlt,h51];rfl
      clear hls hlt
      all_goals go_enter Tryz.func120,Tryz.ntmps120
      all_goals go_wp2_with (first|(go_at_call 61;first|(refine(cmark_at ‹_›).mono ?_;rintro e w' ⟨rfl,rfl⟩)|(refine(cmark_bad ‹_›).mono ?_;rintro e w' ⟨⟨v,_,rfl⟩,rfl⟩))|(go_at_call 63;refine(clast_at ‹_›).mono ?_;rintro e w' ⟨rfl,hat⟩)|(go_at_call 37;refine(cclose_at _ _ _ _ _ _ _ _ ‹_› (by first|exact fun _=>rfl|assumption|exact fun hb=>by cases hb) (by first|exact fun _=>low_ok ‹_›|(intro _;omega)|(intro hb;cases hb;done)|assumption) (by first|with_reducible assumption|exact Lib.hid rfl|assumption|exact run_hid _ _ _ _ _)).mono ?_;rintro e w' ⟨v,rfl,hat⟩)|(go_at_call 119;refine(cterms_s (n:=m+1) (by omega) (fun j hj=>ih j (by omega)) _ _ _ _ _ _ ‹_› h1 hv).mono ?_;rintro e w' ⟨c,rfl,hat,hct⟩;have hd:=hct rfl;rw[e26] at hd))
      all_goals(first|go_end0|go_ret)
      all_goals exact⟨_,rfl,by assumption⟩
     ·rw[if_neg h51] at h3
      obtain rfl:=Option.some.inj h3
      have e230:((Res.ok zs).last == 230)=false:=by rw[hls,hlt];exact beq_eq_false_iff_ne.2 h51
      clear hls hlt h3
      all_goals go_enter Tryz.func120,Tryz.ntmps120
      all_goals go_wp2_with (first|(go_at_call 61;first|(refine(cmark_at ‹_›).mono ?_;rintro e w' ⟨rfl,rfl⟩)|(refine(cmark_bad ‹_›).mono ?_;rintro e w' ⟨⟨v,_,rfl⟩,rfl⟩))|(go_at_call 63;refine(clast_at ‹_›).mono ?_;rintro e w' ⟨rfl,hat⟩)|(go_at_call 37;refine(cclose_at _ _ _ _ _ _ _ _ ‹_› (by first|exact fun _=>rfl|assumption|exact fun hb=>by cases hb) (by first|exact fun _=>low_ok ‹_›|(intro _;omega)|(intro hb;cases hb;done)|assumption) (by first|with_reducible assumption|exact Lib.hid rfl|assumption|exact run_hid _ _ _ _ _)).mono ?_;rintro e w' ⟨v,rfl,hat⟩)|(go_at_call 119;refine(cterms_s (n:=m+1) (by omega) (fun j hj=>ih j (by omega)) _ _ _ _ _ _ ‹_› h1 hv).mono ?_;rintro e w' ⟨c,rfl,hat,hct⟩;have hd:=hct rfl;rw[e26] at hd))
      all_goals(first|go_end0|go_ret)
      all_goals exact⟨_,rfl,by assumption⟩
theorem ctypeParam_f:∀ (C:Kc) (w:World) (b:Nat) (d0 d1 d2:Int),Hid (CAt C w b (.fail d0 d1 d2))→Calls Tryz.prog 82 #[.pointer (some ⟨b,0,none⟩)] w (CPost C b (.fail d0 d1 d2)):=by
 intro C w b d0 d1 d2 hat
 go_enter Tryz.func82,Tryz.ntmps82
 go_wp2_with (first|(go_at_call 61;first|(refine(cmark_at ‹_›).mono ?_;rintro e w' ⟨rfl,rfl⟩)|(refine(cmark_bad ‹_›).mono ?_;rintro e w' ⟨⟨v,_,rfl⟩,rfl⟩))|(go_at_call 37;refine(cclose_at _ _ _ _ _ _ _ _ ‹_› (by first|exact fun _=>rfl|assumption|exact fun hb=>by cases hb) (by first|exact fun _=>low_ok ‹_›|(intro _;omega)|(intro hb;cases hb;done)|assumption) (by first|with_reducible assumption|exact Lib.hid rfl|assumption|exact run_hid _ _ _ _ _)).mono ?_;rintro e w' ⟨v,rfl,hat⟩)|(go_at_call 84;refine(cjoinedName_s (n:=0) (by omega) ‹_› (Lib.hid rfl) (run_hid _ _ _ _ _)).mono ?_;rintro e w' ⟨c,rfl,hat⟩)|(go_at_call 120;refine(cconstraint_f _ _ _ _ _ _ ‹_›).mono ?_;rintro e w' ⟨v,rfl,hat⟩))
 all_goals(first|go_end0|go_ret)
 all_goals exact⟨_,rfl,by assumption⟩
theorem ctypeParam_s {n:Nat} (hn:n≤1099511627776) (ih:∀ k,k≤n→AllC k):P0 82 (n+1) .group:=by
 have _:=ih
 intro C w b x y hat hy
 have hy:=hy.out
 cases x with
 |fail d0 d1 d2=>
  rw[run_fail] at hy
  obtain rfl:=Option.some.inj hy
  exact ctypeParam_f _ _ _ _ _ _ hat
 |ok s=>
  have hlo:C.low≤s.R.length:=low_nat hat
  rw[run] at hy
  try dsimp only at hy
  rw[bind_iff] at hy
  obtain⟨y0,hy0,hy⟩:=hy
  rw[bind_iff] at hy
  obtain⟨y1,hy1,hy⟩:=hy
  rw[bind_iff] at hy
  obtain⟨z,hz,hy⟩:=hy
  have hcase:∃ u,Hid ((if z.kind=26 then(run n .unionL z >>= fun v=>rClose y1.len 229 v) else if y1.kind=51 then rClose y1.len 229 z else some z)=some u)∧Hid (rClose s.R.length 233 u=some y):=by
   split at hy
   ·rename_i h26
    obtain⟨v,hv,hy⟩:=bind_some hy
    obtain⟨u,hu,hy⟩:=bind_some hy
    exact⟨u,Lib.hid (by rw[if_pos h26,hv.out];exact hu.out),Lib.hid hy⟩
   ·rename_i h26
    split at hy
    ·rename_i h51
     obtain⟨u,hu,hy⟩:=bind_some hy
     exact⟨u,Lib.hid (by rw[if_neg h26,if_pos h51];exact hu.out),Lib.hid hy⟩
    ·rename_i h51
     exact⟨z,Lib.hid (by rw[if_neg h26,if_neg h51]),Lib.hid hy⟩
  clear hy
  obtain⟨u,hu,hy⟩:=hcase
  all_goals go_enter Tryz.func82,Tryz.ntmps82
  all_goals go_wp2_with (first|(go_at_call 61;first|(refine(cmark_at ‹_›).mono ?_;rintro e w' ⟨rfl,rfl⟩)|(refine(cmark_bad ‹_›).mono ?_;rintro e w' ⟨⟨v,_,rfl⟩,rfl⟩))|(go_at_call 37;refine(cclose_at _ _ _ _ _ _ _ _ ‹_› (by first|exact fun _=>rfl|assumption|exact fun hb=>by cases hb) (by first|exact fun _=>low_ok ‹_›|(intro _;omega)|(intro hb;cases hb;done)|assumption) (by first|with_reducible assumption|exact Lib.hid rfl|assumption|exact run_hid _ _ _ _ _)).mono ?_;rintro e w' ⟨v,rfl,hat⟩)|(go_at_call 84;refine(cjoinedName_s (n:=n) (by omega) ‹_› (by first|with_reducible assumption|exact Lib.hid rfl) (by first|with_reducible assumption|exact run_hid _ _ _ _ _)).mono ?_;rintro e w' ⟨c,rfl,hat⟩)|(go_at_call 120;refine(cconstraint_s (n:=n) (by omega) ‹_› ‹_› ‹_› (fun j hj=>ih j (by omega))).mono ?_;rintro e w' ⟨v,rfl,hat⟩))
  all_goals(first|go_end0|go_ret)
  all_goals exact⟨_,rfl,by assumption⟩
open Go.RowKit
def rTl (k:Nat) (x:Res):Option Res:=if x.kind=60 then(rTake x >>= fun z=>if z.kind=63 then some z else run k .tpL z) else some x
def Mt (C:Kc) (b:Nat) (y:Res) (w:World) (k:Nat):Prop:=∃ x,Hid (CAt C w b x)∧Hid (rTl k x=some y)
noncomputable def mtOf (C:Kc) (b:Nat) (y:Res) (w:World):Nat:=least (Mt C b y w)
theorem Mt.out {C:Kc} {b k:Nat} {y:Res} {w:World} (h:Mt C b y w k):Mt C b y w (mtOf C b y w)∧mtOf C b y w≤k:=least_spec h
theorem ctparams_low {n:Nat} (ih:∀ k,k≤n→AllC k):∀ (C:Kc) (w:World) (b:Nat) (x y:Res) (m:Nat) (z1 z2 z3:Res),Hid (CAt C w b x)→(∀ s,x=.ok s→m=s.R.length)→Hid (rExpect 58 x=some z1)→Hid (run n .tpL z1=some z2)→Hid (rExpect 63 z2=some z3)→Hid (rClose m 264 z3=some y)→Calls Tryz.prog 25 #[.pointer (some ⟨b,0,none⟩)] w (CPost C b y):=by
 intro C w b x y m z1 z2 z3 hat hm h1 h2 h3 h4
 have hMK:∃ mv:Int,Hid (Calls Tryz.prog 61 #[.pointer (some ⟨b,0,none⟩)] w fun e w'=>e=.returned (.int .i64 mv)∧w=w')∧(z3.bad=false→mv=(m:Int))∧(z3.bad=false→(C.low:Int)≤mv):=by
  cases x with
  |fail d0 d1 d2=>
   have e1:=h1.out
   obtain rfl:=Option.some.inj e1
   have e2:=h2.out
   rw[run_fail] at e2
   obtain rfl:=Option.some.inj e2
   have e3:=h3.out
   obtain rfl:=Option.some.inj e3
   obtain⟨vL,vS,vR,σ,D,hr,_,hi⟩:=hat.out
   exact⟨_,Lib.hid (cmark_any hr),(fun h=>by cases h),(fun h=>by cases h)⟩
  |ok s=>exact⟨_,Lib.hid (cmark_at hat),(fun _=>by rw[hm s rfl]),fun _=>low_ok hat⟩
 obtain⟨mv,HMK,hmv,hlw⟩:=hMK
 have hfirst:∃ j y1,j≤n∧(∀ w',Hid (CAt C w' b z1)→Calls Tryz.prog 82 #[.pointer (some ⟨b,0,none⟩)] w' (CPost C b y1))∧Hid (rTl j y1=some z2):=by
  cases z1 with
  |fail d0 d1 d2=>
   have e2:=h2.out
   rw[run_fail] at e2
   obtain rfl:=Option.some.inj e2
   exact⟨0,.fail d0 d1 d2,Nat.zero_le _,fun w' h=>ctypeParam_f _ _ _ _ _ _ h,Lib.hid rfl⟩
  |ok s=>
   cases n with
   |zero=>exact absurd h2.out (by unfold run;simp)
   |succ n=>
    have e2:=h2.out
    rw[run] at e2
    try dsimp only at e2
    obtain⟨y1,hy1,e2⟩:=bind_some e2
    exact⟨n,y1,by omega,fun w' h=>(ih n (by omega)).group _ _ _ _ _ h hy1,Lib.hid e2⟩
 obtain⟨j,y1,hj,hTP,hT⟩:=hfirst
 have hfin:∃ m2:Int,mv=m2∧Hid (rClose m2 264 z3=some y):=by
  cases z3 with
  |fail d0 d1 d2=>exact⟨mv,rfl,h4⟩
  |ok zs=>exact⟨m,hmv rfl,h4⟩
 clear hmv h4
 obtain⟨m2,rfl,h4⟩:=hfin
 have HTP:=Lib.hid hTP
 clear hm hTP
 go_enter Tryz.func25,Tryz.ntmps25
 go_wp2_with (first|(go_at_call 61;refine HMK.out.mono ?_;rintro e w' ⟨rfl,rfl⟩)|(go_at_call 33;refine(cexpect_at ‹_› _ (by first|with_reducible assumption|exact Lib.hid rfl|assumption|exact run_hid _ _ _ _ _)).mono ?_;rintro e w' ⟨rfl,hat⟩)|(go_at_call 82;refine(HTP.out _ ‹_›).mono ?_;rintro e w' ⟨v,rfl,hat⟩))
 go_loopw [] (fun wr=>∃ k,k≤n∧Mt C b z2 wr k) (fun wr=>mtOf C b z2 wr)
 case atStart=>exact⟨j,hj,y1,by assumption,hT⟩
 case round=>
  clear hat hT HMK h1 h2 HTP
  obtain⟨k0,hk0n,hmt⟩:=hrel
  obtain⟨⟨x',hat',hr⟩,hle⟩:=hmt.out
  obtain⟨q,hq⟩:∃ q,mtOf C b z2 wr=q:=⟨_,rfl⟩
  rw[hq] at hr hle
  have hr0:=hr.out
  unfold rTl at hr0
  clear hmt hr
  by_cases h60:x'.kind=60
  ·rw[if_pos h60,bind_iff] at hr0
   obtain⟨z,hz,hr0⟩:=hr0
   by_cases h63:z.kind=63
   ·rw[if_pos h63] at hr0
    obtain rfl:=Option.some.inj hr0
    cases z with
    |fail=>cases h63
    |ok zs=>
     go_wp2_with (first
   |(go_at_call 61;first|(refine(cmark_at ‹_›).mono ?_;rintro e w' ⟨rfl,rfl⟩)|(refine(cmark_bad ‹_›).mono ?_;rintro e w' ⟨⟨v,_,rfl⟩,rfl⟩))
   |(go_at_call 33;refine(cexpect_at ‹_› _ (by first|with_reducible assumption|exact Lib.hid rfl|assumption|exact run_hid _ _ _ _ _)).mono ?_;rintro e w' ⟨rfl,hat⟩)
   |(go_at_call 83;first|(refine(ccame_yes ‹_› ‹_› (by first|with_reducible assumption|exact Lib.hid rfl|assumption|exact run_hid _ _ _ _ _)).mono ?_;rintro e w' ⟨rfl,hat⟩)|(refine(ccame_no ‹_› ?hno).mono ?_;(case hno=>first|assumption|rfl|simp [*]);rintro e w' ⟨rfl,hat⟩))
   |(go_at_call 57;first|(refine(ckind_is ‹_› ‹_›).mono ?_;rintro e w' ⟨rfl,hat⟩)|(refine(ckind_at ‹_›).mono ?_;rintro e w' ⟨rfl,hat⟩))
   |(go_at_call 37;refine(cclose_at _ _ _ _ _ _ _ _ ‹_› (by first|exact fun _=>rfl|assumption|exact fun hb=>by cases hb) (by first|exact fun _=>low_ok ‹_›|(intro _;omega)|(intro hb;cases hb;done)|assumption) (by first|with_reducible assumption|exact Lib.hid rfl|assumption|exact run_hid _ _ _ _ _)).mono ?_;rintro e w' ⟨v,rfl,hat⟩)
   |(go_at_call 82;first|(refine((ih _ ?hk).group _ _ _ _ _ ‹_› ‹_›).mono ?_;(case hk=>omega);rintro e w' ⟨v,rfl,hat⟩)|(refine(ctypeParam_f _ _ _ _ _ _ ‹_›).mono ?_;rintro e w' ⟨v,rfl,hat⟩)))
     go_end0
     exact⟨_,rfl,by assumption⟩
   ·rw[if_neg h63] at hr0
    have e63:(z.kind == 63)=false:=beq_eq_false_iff_ne.2 h63
    obtain⟨xs,rfl⟩:=ok_of_kind h60 (by decide)
    have ez:=hz.out
    obtain⟨rfl,_⟩:=chk_ok ez
    cases q with
    |zero=>exact absurd hr0 (by unfold run;simp)
    |succ q=>
     rw[run] at hr0
     try dsimp only at hr0
     obtain⟨y2,hy2,hr0⟩:=bind_some hr0
     have hT2:Hid (rTl q y2=some z2):=Lib.hid hr0
     go_wp2_with (first
   |(go_at_call 61;first|(refine(cmark_at ‹_›).mono ?_;rintro e w' ⟨rfl,rfl⟩)|(refine(cmark_bad ‹_›).mono ?_;rintro e w' ⟨⟨v,_,rfl⟩,rfl⟩))
   |(go_at_call 33;refine(cexpect_at ‹_› _ (by first|with_reducible assumption|exact Lib.hid rfl|assumption|exact run_hid _ _ _ _ _)).mono ?_;rintro e w' ⟨rfl,hat⟩)
   |(go_at_call 83;first|(refine(ccame_yes ‹_› ‹_› (by first|with_reducible assumption|exact Lib.hid rfl|assumption|exact run_hid _ _ _ _ _)).mono ?_;rintro e w' ⟨rfl,hat⟩)|(refine(ccame_no ‹_› ?hno).mono ?_;(case hno=>first|assumption|rfl|simp [*]);rintro e w' ⟨rfl,hat⟩))
   |(go_at_call 57;first|(refine(ckind_is ‹_› ‹_›).mono ?_;rintro e w' ⟨rfl,hat⟩)|(refine(ckind_at ‹_›).mono ?_;rintro e w' ⟨rfl,hat⟩))
   |(go_at_call 37;refine(cclose_at _ _ _ _ _ _ _ _ ‹_› (by first|exact fun _=>rfl|assumption|exact fun hb=>by cases hb) (by first|exact fun _=>low_ok ‹_›|(intro _;omega)|(intro hb;cases hb;done)|assumption) (by first|with_reducible assumption|exact Lib.hid rfl|assumption|exact run_hid _ _ _ _ _)).mono ?_;rintro e w' ⟨v,rfl,hat⟩)
   |(go_at_call 82;first|(refine((ih _ ?hk).group _ _ _ _ _ ‹_› ‹_›).mono ?_;(case hk=>omega);rintro e w' ⟨v,rfl,hat⟩)|(refine(ctypeParam_f _ _ _ _ _ _ ‹_›).mono ?_;rintro e w' ⟨v,rfl,hat⟩)))
     go_roundw
     case rel=>exact⟨q,by omega,y2,by assumption,hT2⟩
     case measure=>
      have h5:=(Mt.out (C:=C) (b:=b) (y:=z2) (w:=w') ⟨y2,by assumption,hT2⟩).2
      omega
  ·rw[if_neg h60] at hr0
   obtain rfl:=Option.some.inj hr0
   have e60:(x'.kind == 60)=false:=beq_eq_false_iff_ne.2 h60
   go_wp2_with (first|(go_at_call 61;first|(refine(cmark_at ‹_›).mono ?_;rintro e w' ⟨rfl,rfl⟩)|(refine(cmark_bad ‹_›).mono ?_;rintro e w' ⟨⟨v,_,rfl⟩,rfl⟩))|(go_at_call 33;refine(cexpect_at ‹_› _ (by first|with_reducible assumption|exact Lib.hid rfl|assumption|exact run_hid _ _ _ _ _)).mono ?_;rintro e w' ⟨rfl,hat⟩)|(go_at_call 83;first|(refine(ccame_yes ‹_› ‹_› (by first|with_reducible assumption|exact Lib.hid rfl|assumption|exact run_hid _ _ _ _ _)).mono ?_;rintro e w' ⟨rfl,hat⟩)|(refine(ccame_no ‹_› ?hno).mono ?_;(case hno=>first|assumption|rfl|simp [*]);rintro e w' ⟨rfl,hat⟩))|(go_at_call 57;first|(refine(ckind_is ‹_› ‹_›).mono ?_;rintro e w' ⟨rfl,hat⟩)|(refine(ckind_at ‹_›).mono ?_;rintro e w' ⟨rfl,hat⟩))|(go_at_call 37;refine(cclose_at _ _ _ _ _ _ _ _ ‹_› (by first|exact fun _=>rfl|assumption|exact fun hb=>by cases hb) (by first|exact fun _=>low_ok ‹_›|(intro _;omega)|(intro hb;cases hb;done)|assumption) (by first|with_reducible assumption|exact Lib.hid rfl|assumption|exact run_hid _ _ _ _ _)).mono ?_;rintro e w' ⟨v,rfl,hat⟩)|(go_at_call 82;first|(refine((ih _ ?hk).group _ _ _ _ _ ‹_› ‹_›).mono ?_;(case hk=>omega);rintro e w' ⟨v,rfl,hat⟩)|(refine(ctypeParam_f _ _ _ _ _ _ ‹_›).mono ?_;rintro e w' ⟨v,rfl,hat⟩)))
   go_end0
   exact⟨_,rfl,by assumption⟩
theorem cTParams_s {n:Nat} (ih:∀ k,k≤n→AllC k):P0 25 (n+1) .tparams:=by
 intro C w b x y hat hy
 have hy:=hy.out
 cases x with
 |fail d0 d1 d2=>
  rw[run_fail] at hy
  obtain rfl:=Option.some.inj hy
  exact ctparams_low ih _ _ _ _ _ 0 _ _ _ hat (fun s h=>by cases h) (Lib.hid rfl) (run_hid _ _ _ _ _) (Lib.hid rfl) (Lib.hid rfl)
 |ok s=>
  rw[run] at hy
  try dsimp only at hy
  rw[bind_iff] at hy
  obtain⟨z1,hz1,hy⟩:=hy
  rw[bind_iff] at hy
  obtain⟨z2,hz2,hy⟩:=hy
  rw[bind_iff] at hy
  obtain⟨z3,hz3,hy⟩:=hy
  replace hy:=Lib.hid hy
  exact ctparams_low ih _ _ _ _ _ s.R.length _ _ _ hat (fun s' h=>by cases h;rfl) hz1 hz2 hz3 hy
open Go.RowKit
theorem List1_enters:Enters Tryz.prog 85:=enters_of Tryz.func85 (by kernel_rfl) rfl
theorem cList1_s {n:Nat} {C1:Kc} {b B0 B1:Nat} {h:Bool} (ih:AllC n) (HBX:Hid (∀ W' z,Hid (CAt C1 W' b z)→W'.cell? ⟨B0,0,none⟩=some (.pointer (some ⟨b,0,none⟩))∧W'.cell? ⟨B1,0,none⟩=some (.bool h))):CFun C1 b 85 (#[] ++ #[.pointer (some ⟨B0,0,none⟩),.pointer (some ⟨B1,0,none⟩)]) (run n (.X h)):=by
 intro w x y hat hy
 obtain⟨hc1,hc2⟩:=HBX.out _ _ hat
 rw[Array.empty_append]
 go_enter Tryz.func85,Tryz.ntmps85
 go_wp2_with (go_at_call 22;refine(ih.X _ _ _ _ _ _ hat hy).mono ?_;rintro e w' ⟨v,rfl,hat⟩)
 go_end0
 exact⟨_,rfl,by assumption⟩
theorem clist_low {n:Nat} (hn:n≤1099511627776) (ih:∀ k,k≤n→AllC k):∀ (C:Kc) (w:World) (b:Nat) (x y:Res) (h:Bool) (m:Nat) (z1 z2:Res),Hid (CAt C w b x)→(∀ s,x=.ok s→m=s.R.length)→Hid (run n (.X h) x=some z1)→Hid (run n (.listL h) z1=some z2)→Hid (rClose m 246 z2=some y)→Calls Tryz.prog 26 #[.pointer (some ⟨b,0,none⟩),.bool h] w (CPost C b y):=by
 intro C w b x y h m z1 z2 hat hm h1 h2 h4
 go_enter Tryz.func26,Tryz.ntmps26
 go_wp2_with fail
 obtain⟨C1,hat1,HBX,HBK⟩:=CAt.boxed2 hat (.pointer (some ⟨b,0,none⟩)) (.bool h) 25 4
 obtain⟨hc1,hc2⟩:=HBX.out _ _ hat1
 have hMK:∃ mv:Int,Hid (Calls Tryz.prog 61 #[.pointer (some ⟨b,0,none⟩)] ((w.alloc (.cells #[.pointer (some ⟨b,0,none⟩)] 25)).alloc (.cells #[.bool h] 4)) fun e w'=>e=.returned (.int .i64 mv)∧((w.alloc (.cells #[.pointer (some ⟨b,0,none⟩)] 25)).alloc (.cells #[.bool h] 4))=w')∧(z2.bad=false→mv=(m:Int))∧(z2.bad=false→(C1.low:Int)≤mv):=by
  cases x with
  |fail d0 d1 d2=>
   have e1:=h1.out
   rw[run_fail] at e1
   obtain rfl:=Option.some.inj e1
   have e2:=h2.out
   rw[run_fail] at e2
   obtain rfl:=Option.some.inj e2
   obtain⟨vL,vS,vR,σ,D,hr,_,hi⟩:=hat1.out
   exact⟨_,Lib.hid (cmark_any hr),(fun h=>by cases h),(fun h=>by cases h)⟩
  |ok s=>exact⟨_,Lib.hid (cmark_at hat1),(fun _=>by rw[hm s rfl]),fun _=>low_ok hat1⟩
 obtain⟨mv,HMK,hmv,hlw⟩:=hMK
 clear hm
 have HJ:Hid (∀ W',Hid (CAt C1 W' b x)→Calls Tryz.prog 84 #[.pointer (some ⟨b,0,none⟩),.int .i64 60,.func (.func 85) #[] #[.pointer (some ⟨w.heap.size,0,none⟩),.pointer (some ⟨w.heap.size+1,0,none⟩)]] W' fun e w'=>∃ c:Int,e=.returned (.int .i64 c)∧Hid (CAt C1 w' b z2)):=Lib.hid (fun W' hW=>by
  refine(joined_any (p:=.listL h) (n:=n) (g:=fun k=>run k (.X h)) (A:=#[]) (B:=#[.pointer (some ⟨w.heap.size,0,none⟩),.pointer (some ⟨w.heap.size+1,0,none⟩)]) (by':=60) hn List1_enters (fun k hk=>cList1_s (ih k hk) HBX) (by decide) (fun k s=>by rw[run]) hW h1 h2).mono ?_
  rintro e w' ⟨c,rfl,h,_⟩
  exact⟨c,rfl,h⟩)
 have hfin:∃ m2:Int,mv=m2∧Hid (rClose m2 246 z2=some y):=by
  cases z2 with
  |fail d0 d1 d2=>exact⟨mv,rfl,h4⟩
  |ok zs=>exact⟨m,hmv rfl,h4⟩
 clear hmv h4
 obtain⟨m2,rfl,h4⟩:=hfin
 go_wp2_with (first|(go_at_call 61;refine HMK.out.mono ?_;rintro e w' ⟨rfl,rfl⟩)|(go_at_call 84;refine(HJ.out _ ‹_›).mono ?_;rintro e w' ⟨c,rfl,hat⟩;have hc:=(HBX.out _ _ hat).1)|(go_at_call 37;refine(cclose_at _ _ _ _ _ _ _ _ ‹_› (by first|exact fun _=>rfl|assumption|exact fun hb=>by cases hb) (by first|exact fun _=>low_ok ‹_›|(intro _;omega)|(intro hb;cases hb;done)|assumption) (by first|with_reducible assumption|exact Lib.hid rfl|assumption|exact run_hid _ _ _ _ _)).mono ?_;rintro e w' ⟨v,rfl,hat⟩))
 go_end0
 exact⟨_,rfl,HBK.out _ _ ‹_›⟩
theorem cList_s {n:Nat} (hn:n≤1099511627776) (ih:∀ k,k≤n→AllC k):PB 26 (n+1) .list:=by
 intro C w b x y h hat hy
 have hy:=hy.out
 cases x with
 |fail d0 d1 d2=>
  rw[run_fail] at hy
  obtain rfl:=Option.some.inj hy
  exact clist_low hn ih _ _ _ _ _ _ 0 _ _ hat (fun s h=>by cases h) (run_hid _ _ _ _ _) (run_hid _ _ _ _ _) (Lib.hid rfl)
 |ok s=>
  rw[run] at hy
  try dsimp only at hy
  rw[bind_iff] at hy
  obtain⟨z1,hz1,hy⟩:=hy
  rw[bind_iff] at hy
  obtain⟨z2,hz2,hy⟩:=hy
  replace hy:=Lib.hid hy
  exact clist_low hn ih _ _ _ _ _ _ s.R.length _ _ hat (fun s' h=>by cases h;rfl) hz1 hz2 hy
end Go.Proofs.YtcekbbkidipbnaaGreat.rd
