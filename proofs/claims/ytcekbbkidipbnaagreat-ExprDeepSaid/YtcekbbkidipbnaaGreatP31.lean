/-
  Texts put together: Fm, Fn.
-/
import Derived.Test.YtcekbbkidipbnaaGreatP28
set_option maxRecDepth 100000
set_option maxHeartbeats 8000000
namespace Go.Proofs.YtcekbbkidipbnaaGreat.rd
open Go.RowKit
theorem zwS {n:Nat} (HCL:CloseC) (ih:∀ k,k≤n→All k):C0 51 (n+1) .type:=by
 have _:=HCL
 have _:=ih
 intro C w b x y hat hy
 have hy:=hy.out
 cases x with
 |fail d0 d1 d2=>
  rw[zfB] at hy
  obtain rfl:=Option.some.inj hy
  exact zgo HCL _ _ _ _ _ _ hat
 |ok s=>
  rw[run] at hy
  try dsimp only at hy
  rw[zfu] at hy
  obtain⟨z,hz,hy⟩:=hy
  cases z with
  |fail a0 a1 a2=>
   rw[if_pos (zfv a0 a1 a2)] at hy
   obtain rfl:=Option.some.inj hy
   clear hy
   all_goals go_enter Tryz.func51,Tryz.ntmps51
   all_goals exact zaa
  |ok t=>
   rw[if_neg zeA] at hy
   by_cases h10:(Res.ok t).kind=10
   ·rw[if_pos h10] at hy
    rw[zfu] at hy
    obtain⟨z1,hz1,hy⟩:=hy
    by_cases h58:z1.kind=58
    ·rw[if_pos h58] at hy
     rw[zfu] at hy
     obtain⟨z2,hz2,hy⟩:=hy
     rw[zfu] at hy
     obtain⟨z3,hz3,hy⟩:=hy
     rw[zfu] at hy
     obtain⟨z4,hz4,hy⟩:=hy
     rw[zfu] at hy
     obtain⟨z5,hz5,hy⟩:=hy
     rw[zfu] at hy
     obtain⟨z6,hz6,hy⟩:=hy
     replace hy:=Lib.hid hy
     all_goals go_enter Tryz.func51,Tryz.ntmps51
     all_goals go_wp2_with (first|(go_at_call 42;refine(zhG ‹_› zeu).mono ?_;rintro e w' ⟨rfl,hat⟩)|(go_at_call 62;first|(refine(zfE ‹_›).mono ?_;rintro e w' ⟨rfl,rfl⟩)|(refine(zfD ‹_›).mono ?_;rintro e w' ⟨⟨v,rfl⟩,rfl⟩))|(go_at_call 58;first|(refine(zgT ‹_› ‹_›).mono ?_;rintro e w' ⟨rfl,rfl⟩)|(refine(zgN ‹_›).mono ?_;rintro e w' ⟨rfl,rfl⟩))|(go_at_call 32;refine(zfK ‹_› zeu).mono ?_;rintro e w' ⟨v,rfl,hat⟩)|(go_at_call 96;refine(zgP HCL ‹_› zeu).mono ?_;rintro e w' ⟨v,rfl,hat⟩)|(go_at_call 51;first|(refine((ih _ ?hk).type _ _ _ _ _ ‹_› ‹_›).mono ?_;(case hk=>omega);rintro e w' ⟨v,rfl,hat⟩)|(refine(zgo HCL _ _ _ _ _ _ ‹_›).mono ?_;rintro e w' ⟨v,rfl,hat⟩))|(go_at_call 34;refine(zfG ‹_› _ zeu).mono ?_;rintro e w' ⟨rfl,hat⟩)|(go_at_call 38;refine(HCL _ _ _ _ _ _ _ _ ‹_› zev zeu).mono ?_;rintro e w' ⟨v,rfl,hat⟩)|(go_at_call 52;first|(refine((ih _ ?hk).sig _ _ _ _ _ ‹_› ‹_›).mono ?_;(case hk=>omega);rintro e w' ⟨v,rfl,hat⟩)|(refine(zjr HCL _ _ _ _ _ _ ‹_›).mono ?_;rintro e w' ⟨v,rfl,hat⟩))|(go_at_call 97;first|(refine((ih _ ?hk).array _ _ _ _ _ _ _ ‹_› zev ‹_›).mono ?_;(case hk=>omega);rintro e w' ⟨v,rfl,hat⟩)|(refine(zil HCL _ _ _ _ _ _ _ ‹_›).mono ?_;rintro e w' ⟨v,rfl,hat⟩))|(go_at_call 98;first|(refine((ih _ ?hk).items _ _ _ _ _ _ ‹_› ‹_›).mono ?_;(case hk=>omega);rintro e w' ⟨v,rfl,hat⟩)|(refine(ziq HCL _ _ _ _ _ _ _ ‹_›).mono ?_;rintro e w' ⟨v,rfl,hat⟩))|(go_at_call 46;refine(zgw ‹_› _ zeu).mono ?_;rintro e w' ⟨v,rfl,hat⟩)|(go_at_call 44;refine(zjH ‹_› zeu).mono ?_;rintro e w' ⟨v,rfl,hat⟩)|(go_at_call 95;first|(with_reducible refine(zfC ‹_› ?hc).mono ?_;(case hc=>simp [Res.comes, *]);rintro e w' ⟨rfl,hat⟩)|(with_reducible refine(zfz ‹_› ?hc).mono ?_;(case hc=>simp [Res.comes, *]);rintro e w' ⟨rfl,hat⟩)))
     all_goals first|(go_end0;exact⟨_,rfl,by assumption⟩)|skip
     go_loopw [] (fun wr=>Lq C b z4 .tyL n wr) (fun wr=>lpOf C b z4 .tyL wr)
     case atStart=>exact Lq.at ‹_› ‹_›
     case round=>exact zad
    ·rw[if_neg h58] at hy
     iterate 16 (all_goals try(first|split at hy|(rw[zfu] at hy;obtain⟨z,hz,hy⟩:=hy;try(rw[zfF] at hz;subst hz))))
     all_goals(first|(obtain rfl:=Option.some.inj hy)|(replace hy:=Lib.hid hy))
     iterate 2 (all_goals try(rename _∧_=>ho;obtain⟨_,_⟩:=ho))
     iterate 7 (all_goals try(rename _∨_=>ho;rcases ho with ho|ho))
     all_goals(repeat (rename ¬ (_∨_)=>ho;rw[not_or] at ho;obtain⟨_,_⟩:=ho))
     all_goals go_enter Tryz.func51,Tryz.ntmps51
     all_goals exact zaa
   ·rw[if_neg h10] at hy
    iterate 16 (all_goals try(first|split at hy|(rw[zfu] at hy;obtain⟨z,hz,hy⟩:=hy;try(rw[zfF] at hz;subst hz))))
    all_goals(first|(obtain rfl:=Option.some.inj hy)|(replace hy:=Lib.hid hy))
    iterate 2 (all_goals try(rename _∧_=>ho;obtain⟨_,_⟩:=ho))
    iterate 7 (all_goals try(rename _∨_=>ho;rcases ho with ho|ho))
    all_goals(repeat (rename ¬ (_∨_)=>ho;rw[not_or] at ho;obtain⟨_,_⟩:=ho))
    all_goals(try have e10:((Res.ok t).kind == 10)=false:=by simp [*])
    all_goals(try have e57:((Res.ok t).kind == 57)=false:=by simp [*])
    all_goals(try have e22:((Res.ok t).kind == 22)=false:=by simp [*])
    all_goals(try have e79:((Res.ok t).kind == 79)=false:=by simp [*])
    all_goals(try have e58:((Res.ok t).kind == 58)=false:=by simp [*])
    all_goals(try have e83:((Res.ok t).kind == 83)=false:=by simp [*])
    all_goals(try have e87:((Res.ok t).kind == 87)=false:=by simp [*])
    all_goals(try have e82:((Res.ok t).kind == 82)=false:=by simp [*])
    all_goals go_enter Tryz.func51,Tryz.ntmps51
    all_goals exact zaa
open Go.RowKit
theorem zwO {n:Nat} (HCL:CloseC) (ih:∀ k,k≤n→All k):CB 124 (n+1) .unary:=by
 have _:=HCL
 have _:=ih
 intro C w b x y h hat hy
 have hy:=hy.out
 cases x with
 |fail d0 d1 d2=>
  rw[zfB] at hy
  obtain rfl:=Option.some.inj hy
  exact zhw HCL _ _ _ _ _ _ _ hat
 |ok s=>
  rw[run] at hy
  try dsimp only at hy
  split at hy
  ·obtain⟨z1,hz1,hy⟩:=bind_some hy
   obtain⟨z2,hz2,hy⟩:=bind_some hy
   iterate 5 (all_goals try(rename _∨_=>ho;rcases ho with ho|ho))
   all_goals(
    cases z2 with
    |fail a0 a1 a2=>
     simp only[zfB,zle,zkr,Option.bind_eq_bind,Option.bind_some] at hy
     obtain rfl:=Option.some.inj hy
     clear hy
     all_goals go_enter Tryz.func124,Tryz.ntmps124
     all_goals exact zac
    |ok t=>
     rw[zfu] at hy
     obtain⟨z3,hz3,hy⟩:=hy
     rw[zfu] at hy
     obtain⟨z4,hz4,hy⟩:=hy
     replace hy:=Lib.hid hy
     all_goals go_enter Tryz.func124,Tryz.ntmps124
     all_goals go_wp2_with (first|(go_at_call 62;first|(refine(zfE ‹_›).mono ?_;rintro e w' ⟨rfl,rfl⟩)|(refine(zfD ‹_›).mono ?_;rintro e w' ⟨⟨v,rfl⟩,rfl⟩))|(go_at_call 32;refine(zfK ‹_› zeu).mono ?_;rintro e w' ⟨v,rfl,hat⟩)|(go_at_call 42;refine(zhG ‹_› zeu).mono ?_;rintro e w' ⟨rfl,hat⟩)|(go_at_call 124;first|(refine((ih _ ?hk).unary _ _ _ _ _ _ ‹_› ‹_›).mono ?_;(case hk=>omega);rintro e w' ⟨v,rfl,hat⟩)|(refine(zhw HCL _ _ _ _ _ _ _ ‹_›).mono ?_;rintro e w' ⟨v,rfl,hat⟩))|(go_at_call 44;refine(zjH ‹_› zeu).mono ?_;rintro e w' ⟨v,rfl,hat⟩)|(go_at_call 38;refine(HCL _ _ _ _ _ _ _ _ ‹_› zev zeu).mono ?_;rintro e w' ⟨v,rfl,hat⟩)|(go_at_call 143;first|(refine((ih _ ?hk).primary _ _ _ _ _ _ ‹_› ‹_›).mono ?_;(case hk=>omega);rintro e w' ⟨v,rfl,hat⟩)|(refine(zia HCL _ _ _ _ _ _ _ ‹_›).mono ?_;rintro e w' ⟨v,rfl,hat⟩))|(go_at_call 95;first|(with_reducible refine(zfC ‹_› ?hc).mono ?_;(case hc=>simp [Res.comes, *]);rintro e w' ⟨rfl,hat⟩)|(with_reducible refine(zfz ‹_› ?hc).mono ?_;(case hc=>simp [Res.comes, *]);rintro e w' ⟨rfl,hat⟩)|(with_reducible refine(zkk ‹_› ?hc).mono ?_;(case hc=>simp [Res.comes, *]);rintro e w' ⟨rfl,hat⟩)|(with_reducible refine(zjB ‹_› ?hc).mono ?_;(case hc=>simp [Res.comes, *]);rintro e w' ⟨rfl,hat⟩)))
     all_goals exact zar)
  ·split at hy
   ·obtain⟨z1,hz1,hy⟩:=bind_some hy
    obtain⟨z2,hz2,hy⟩:=bind_some hy
    iterate 5 (all_goals try(rename _∨_=>ho;rcases ho with ho|ho))
    all_goals(
     cases z2 with
     |fail a0 a1 a2=>
      simp only[zfB,zle,zkr,Option.bind_eq_bind,Option.bind_some] at hy
      obtain rfl:=Option.some.inj hy
      clear hy
      all_goals go_enter Tryz.func124,Tryz.ntmps124
      all_goals exact zac
     |ok t=>
      rw[zfu] at hy
      obtain⟨z3,hz3,hy⟩:=hy
      rw[zfu] at hy
      obtain⟨z4,hz4,hy⟩:=hy
      replace hy:=Lib.hid hy
      all_goals go_enter Tryz.func124,Tryz.ntmps124
      all_goals go_wp2_with (first|(go_at_call 62;first|(refine(zfE ‹_›).mono ?_;rintro e w' ⟨rfl,rfl⟩)|(refine(zfD ‹_›).mono ?_;rintro e w' ⟨⟨v,rfl⟩,rfl⟩))|(go_at_call 32;refine(zfK ‹_› zeu).mono ?_;rintro e w' ⟨v,rfl,hat⟩)|(go_at_call 42;refine(zhG ‹_› zeu).mono ?_;rintro e w' ⟨rfl,hat⟩)|(go_at_call 124;first|(refine((ih _ ?hk).unary _ _ _ _ _ _ ‹_› ‹_›).mono ?_;(case hk=>omega);rintro e w' ⟨v,rfl,hat⟩)|(refine(zhw HCL _ _ _ _ _ _ _ ‹_›).mono ?_;rintro e w' ⟨v,rfl,hat⟩))|(go_at_call 44;refine(zjH ‹_› zeu).mono ?_;rintro e w' ⟨v,rfl,hat⟩)|(go_at_call 38;refine(HCL _ _ _ _ _ _ _ _ ‹_› zev zeu).mono ?_;rintro e w' ⟨v,rfl,hat⟩)|(go_at_call 143;first|(refine((ih _ ?hk).primary _ _ _ _ _ _ ‹_› ‹_›).mono ?_;(case hk=>omega);rintro e w' ⟨v,rfl,hat⟩)|(refine(zia HCL _ _ _ _ _ _ _ ‹_›).mono ?_;rintro e w' ⟨v,rfl,hat⟩))|(go_at_call 95;first|(with_reducible refine(zfC ‹_› ?hc).mono ?_;(case hc=>simp [Res.comes, *]);rintro e w' ⟨rfl,hat⟩)|(with_reducible refine(zfz ‹_› ?hc).mono ?_;(case hc=>simp [Res.comes, *]);rintro e w' ⟨rfl,hat⟩)|(with_reducible refine(zkk ‹_› ?hc).mono ?_;(case hc=>simp [Res.comes, *]);rintro e w' ⟨rfl,hat⟩)|(with_reducible refine(zjB ‹_› ?hc).mono ?_;(case hc=>simp [Res.comes, *]);rintro e w' ⟨rfl,hat⟩)))
      all_goals exact zar)
   ·replace hy:=Lib.hid hy
    rename ¬ (_∨_)=>ho
    simp only[not_or] at ho
    obtain⟨_,_,_,_,_⟩:=ho
    all_goals go_enter Tryz.func124,Tryz.ntmps124
    all_goals exact zac
theorem zuH {n:Nat} (HCL:CloseC) (ih:∀ k,k≤n→All k):CBin 94 (n+1):=by
 intro C w b x y p h hat hy
 have hy:=hy.out
 cases x with
 |fail d0 d1 d2=>
  rw[zfB] at hy
  obtain rfl:=Option.some.inj hy
  exact zix HCL _ _ _ _ _ _ _ _ hat
 |ok s=>
  rw[run] at hy
  rw[zfu] at hy
  obtain⟨z1,hz1,hy⟩:=hy
  replace hy:=Lib.hid hy
  go_enter Tryz.func94,Tryz.ntmps94
  go_wp2_with (first|(go_at_call 62;first|(refine(zfE ‹_›).mono ?_;rintro e w' ⟨rfl,rfl⟩)|(refine(zfD ‹_›).mono ?_;rintro e w' ⟨⟨v,rfl⟩,rfl⟩))|(go_at_call 58;first|(refine(zgT ‹_› ‹_›).mono ?_;rintro e w' ⟨rfl,rfl⟩)|(refine(zgN ‹_›).mono ?_;rintro e w' ⟨rfl,rfl⟩))|(go_at_call 124;first|(refine((ih _ ?hk).unary _ _ _ _ _ _ ‹_› ‹_›).mono ?_;(case hk=>omega);rintro e w' ⟨v,rfl,hat⟩)|(refine(zhw HCL _ _ _ _ _ _ _ ‹_›).mono ?_;rintro e w' ⟨v,rfl,hat⟩))|(go_at_call 32;refine(zfK ‹_› zeu).mono ?_;rintro e w' ⟨v,rfl,hat⟩)|(go_at_call 94;first|(refine((ih _ ?hk).binary _ _ _ _ _ _ _ ‹_› ‹_›).mono ?_;(case hk=>omega);rintro e w' ⟨v,rfl,hat⟩)|(refine(zix HCL _ _ _ _ _ _ _ _ ‹_›).mono ?_;rintro e w' ⟨v,rfl,hat⟩))|(go_at_call 38;refine(HCL _ _ _ _ _ _ _ _ ‹_› zev zeu).mono ?_;rintro e w' ⟨v,rfl,hat⟩)|(go_at_call 125;refine(zhO _ _).mono ?_;rintro e w' ⟨rfl,rfl⟩))
  go_loopw [] (fun wr=>Lq C b y (.binL p h s.R.length) n wr) (fun wr=>lpOf C b y (.binL p h s.R.length) wr)
  case atStart=>exact Lq.at ‹_› ‹_›
  case round=>
   rcases hrel.out with⟨d0,d1,d2,hu,hat⟩|⟨k,s',hk,hq,hat,hy'⟩
   ·subst hu
    have hk0:(Res.fail d0 d1 d2).kind=0:=rfl
    exact zae
   ·rw[run] at hy'
    try dsimp only at hy'
    have hy2:=hy'
    clear hy'
    split at hy2
    ·obtain rfl:=Option.some.inj hy2
     rename _∨_=>ho
     by_cases hq0:precOf (Res.ok s').kind=0
     ·have e0:(precOf (Res.ok s').kind == 0)=true:=by simp [hq0]
      exact zae
     ·have hq1:precOf (Res.ok s').kind<p:=by rcases ho with ho|ho;exact absurd ho hq0;exact ho
      have e0:(precOf (Res.ok s').kind == 0)=false:=by simp [hq0]
      have e1:decide (precOf (Res.ok s').kind<p)=true:=by simp [hq1]
      exact zae
    ·rename ¬ (_∨_)=>ho
     rw[not_or] at ho
     obtain⟨hq0,hq1⟩:=ho
     have e0:(precOf (Res.ok s').kind == 0)=false:=by simp [hq0]
     have e1:decide (precOf (Res.ok s').kind<p)=false:=by simp [hq1]
     have hp0:0≤precOf (Res.ok s').kind∧precOf (Res.ok s').kind≤5:=znC _
     rw[zfu] at hy2
     obtain⟨y1,hy1,hy2⟩:=hy2
     rw[zfu] at hy2
     obtain⟨y2,hy2x,hy2⟩:=hy2
     rw[zfu] at hy2
     obtain⟨y3,hy3,hy2⟩:=hy2
     replace hy2:=Lib.hid hy2
     have hw1:IntKind.i64.wrap (precOf (Res.ok s').kind+1)=precOf (Res.ok s').kind+1:=IntWalk.i64_in _ zdC
     exact zae
theorem zxg {n:Nat} (HCL:CloseC) (ih:∀ k,k≤n→All k) (hn:n≤1099511627776):C0 178 (n+1) .flat:=by
 have _:=HCL
 have _:=ih
 intro C w b x y hat hy
 have hy:=hy.out
 cases x with
 |fail d0 d1 d2=>
  rw[zfB] at hy
  obtain rfl:=Option.some.inj hy
  exact zpf HCL _ _ _ _ _ _ hat
 |ok s=>
  rw[run] at hy
  try dsimp only at hy
  rw[zfu] at hy
  obtain⟨z1,hz1,hy⟩:=hy
  rw[zfu] at hy
  obtain⟨z2,hz2,hy⟩:=hy
  replace hy:=Lib.hid hy
  go_enter Tryz.func178,Tryz.ntmps178
  go_wp2_with (first|(go_at_call 62;first|(refine(zfE ‹_›).mono ?_;rintro e w' ⟨rfl,rfl⟩)|(refine(zfD ‹_›).mono ?_;rintro e w' ⟨⟨v,rfl⟩,rfl⟩))|(go_at_call 34;refine(zfG ‹_› _ zeu).mono ?_;rintro e w' ⟨rfl,hat⟩;have hc8:=zft _ _ _ _ hat;first|rw[zfw] at hc8|rw[zfv] at hc8|skip)|(go_at_call 58;first|(refine(zgT ‹_› ‹_›).mono ?_;rintro e w' ⟨rfl,rfl⟩)|(refine(zgN ‹_›).mono ?_;rintro e w' ⟨rfl,rfl⟩))|(go_at_call 46;refine(zgw ‹_› _ zeu).mono ?_;rintro e w' ⟨v,rfl,hat⟩;have hc8:=zft _ _ _ _ hat;first|rw[zfw] at hc8|rw[zfv] at hc8|skip)|(go_at_call 32;refine(zfK ‹_› zeu).mono ?_;rintro e w' ⟨v,rfl,hat⟩;have hc8:=zft _ _ _ _ hat;first|rw[zfw] at hc8|rw[zfv] at hc8|skip)|(go_at_call 38;refine(HCL _ _ _ _ _ _ _ _ ‹_› zev zeu).mono ?_;rintro e w' ⟨v,rfl,hat⟩;have hc8:=zft _ _ _ _ hat;first|rw[zfw] at hc8|rw[zfv] at hc8|skip))
  go_loopw [3] (fun p wr=>∃ c k:Nat,c+k≤n+1∧p=.int .i64 (c:Int)∧Lp C b z2 (.flatL c) wr k) (fun p wr=>lpOf C b z2 (.flatL (intOf p).toNat) wr)
  case atStart=>exact⟨1,n,by omega,rfl,z1,by assumption,by assumption⟩
  case round=>
   obtain⟨c,k0,hck,rfl,hlp⟩:=hrel
   have hq0:lpOf C b z2 (.flatL (intOf (.int .i64 (c:Int))).toNat) wr=lpOf C b z2 (.flatL c) wr:=by simp [intOf]
   rcases Lq.out ⟨k0,Nat.le_refl _,hlp⟩ with⟨d0,d1,d2,hu,hat⟩|⟨k,s',hk,hq,hat,hy2⟩
   ·subst hu
    have hk0:(Res.fail d0 d1 d2).kind=0:=rfl
    have hc8:=zft _ _ _ _ hat
    rw[zfv] at hc8
    rcases Nat.eq_zero_or_pos c with rfl|hc0
    ·go_wp2_with (first
   |(go_at_call 62;first|(refine(zfE ‹_›).mono ?_;rintro e w' ⟨rfl,rfl⟩)|(refine(zfD ‹_›).mono ?_;rintro e w' ⟨⟨v,rfl⟩,rfl⟩))
   |(go_at_call 34;refine(zfG ‹_› _ zeu).mono ?_;rintro e w' ⟨rfl,hat⟩;have hc8:=zft _ _ _ _ hat;first|rw[zfw] at hc8|rw[zfv] at hc8|skip)
   |(go_at_call 58;first|(refine(zgT ‹_› ‹_›).mono ?_;rintro e w' ⟨rfl,rfl⟩)|(refine(zgN ‹_›).mono ?_;rintro e w' ⟨rfl,rfl⟩))
   |(go_at_call 46;refine(zgw ‹_› _ zeu).mono ?_;rintro e w' ⟨v,rfl,hat⟩;have hc8:=zft _ _ _ _ hat;first|rw[zfw] at hc8|rw[zfv] at hc8|skip)
   |(go_at_call 32;refine(zfK ‹_› zeu).mono ?_;rintro e w' ⟨v,rfl,hat⟩;have hc8:=zft _ _ _ _ hat;first|rw[zfw] at hc8|rw[zfv] at hc8|skip)
   |(go_at_call 38;refine(HCL _ _ _ _ _ _ _ _ ‹_› zev zeu).mono ?_;rintro e w' ⟨v,rfl,hat⟩;have hc8:=zft _ _ _ _ hat;first|rw[zfw] at hc8|rw[zfv] at hc8|skip))
     go_end0
     exact⟨_,rfl,by assumption⟩
    ·have hd:decide (0<(c:Int))=true:=decide_eq_true zdC
     exact zat
   ·rw[run] at hy2
    try dsimp only at hy2
    have hc8:=zft _ _ _ _ hat
    rw[zfw] at hc8
    rcases Nat.eq_zero_or_pos c with rfl|hc0
    ·rw[if_pos rfl] at hy2
     obtain rfl:=Option.some.inj hy2
     exact zat
    have hd:decide (0<(c:Int))=true:=decide_eq_true zdC
    rw[if_neg zdC] at hy2
    by_cases h0:(Res.ok s').kind=0
    ·rw[if_pos h0] at hy2
     obtain⟨d0,d1,d2,rfl⟩:=zgH hy2
     replace hy2:=Lib.hid hy2
     have hr5:Hid (run k (.flatL c) (.fail d0 d1 d2)=some (.fail d0 d1 d2)):=zgL _ _ _ _ _
     go_wp2_with (first
     |(go_at_call 62;first|(refine(zfE ‹_›).mono ?_;rintro e w' ⟨rfl,rfl⟩)|(refine(zfD ‹_›).mono ?_;rintro e w' ⟨⟨v,rfl⟩,rfl⟩))
     |(go_at_call 34;refine(zfG ‹_› _ zeu).mono ?_;rintro e w' ⟨rfl,hat⟩;have hc8:=zft _ _ _ _ hat;first|rw[zfw] at hc8|rw[zfv] at hc8|skip)
     |(go_at_call 58;first|(refine(zgT ‹_› ‹_›).mono ?_;rintro e w' ⟨rfl,rfl⟩)|(refine(zgN ‹_›).mono ?_;rintro e w' ⟨rfl,rfl⟩))
     |(go_at_call 46;refine(zgw ‹_› _ zeu).mono ?_;rintro e w' ⟨v,rfl,hat⟩;have hc8:=zft _ _ _ _ hat;first|rw[zfw] at hc8|rw[zfv] at hc8|skip)
     |(go_at_call 32;refine(zfK ‹_› zeu).mono ?_;rintro e w' ⟨v,rfl,hat⟩;have hc8:=zft _ _ _ _ hat;first|rw[zfw] at hc8|rw[zfv] at hc8|skip)
     |(go_at_call 38;refine(HCL _ _ _ _ _ _ _ _ ‹_› zev zeu).mono ?_;rintro e w' ⟨v,rfl,hat⟩;have hc8:=zft _ _ _ _ hat;first|rw[zfw] at hc8|rw[zfv] at hc8|skip))
     go_roundw
     case rel=>exact⟨c,k,by omega,rfl,_,by assumption,by assumption⟩
     case measure=>
      rw[hq0]
      refine(Lq.less (n:=n) (w0:=wr) (k:=k) zdC ‹_› ?_ hq).2
      simpa [intOf] using hr5
    rw[if_neg h0] at hy2
    by_cases h59:(Res.ok s').kind=59
    ·rw[if_pos h59] at hy2
     obtain⟨y1,hy1,hy2⟩:=bind_some hy2
     replace hy2:=Lib.hid hy2
     have hw1:IntKind.i64.wrap ((c:Int)+1)=(c:Int)+1:=IntWalk.i64_in _ zdC
     go_wp2_with (first
     |(go_at_call 62;first|(refine(zfE ‹_›).mono ?_;rintro e w' ⟨rfl,rfl⟩)|(refine(zfD ‹_›).mono ?_;rintro e w' ⟨⟨v,rfl⟩,rfl⟩))
     |(go_at_call 34;refine(zfG ‹_› _ zeu).mono ?_;rintro e w' ⟨rfl,hat⟩;have hc8:=zft _ _ _ _ hat;first|rw[zfw] at hc8|rw[zfv] at hc8|skip)
     |(go_at_call 58;first|(refine(zgT ‹_› ‹_›).mono ?_;rintro e w' ⟨rfl,rfl⟩)|(refine(zgN ‹_›).mono ?_;rintro e w' ⟨rfl,rfl⟩))
     |(go_at_call 46;refine(zgw ‹_› _ zeu).mono ?_;rintro e w' ⟨v,rfl,hat⟩;have hc8:=zft _ _ _ _ hat;first|rw[zfw] at hc8|rw[zfv] at hc8|skip)
     |(go_at_call 32;refine(zfK ‹_› zeu).mono ?_;rintro e w' ⟨v,rfl,hat⟩;have hc8:=zft _ _ _ _ hat;first|rw[zfw] at hc8|rw[zfv] at hc8|skip)
     |(go_at_call 38;refine(HCL _ _ _ _ _ _ _ _ ‹_› zev zeu).mono ?_;rintro e w' ⟨v,rfl,hat⟩;have hc8:=zft _ _ _ _ hat;first|rw[zfw] at hc8|rw[zfv] at hc8|skip))
     go_roundw
     case rel=>exact⟨c+1,k,by omega,by go_num,_,by assumption,by assumption⟩
     case measure=>
      rw[hq0]
      have hq1:lpOf C b z2 (.flatL (intOf (.int .i64 ((c:Int)+1))).toNat) w'=lpOf C b z2 (.flatL (c+1)) w':=by simp only[intOf];rw[show((c:Int)+1).toNat=c+1 by omega]
      show lpOf C b z2 (.flatL (intOf (.int .i64 ((c:Int)+1))).toNat) w'<_
      rw[hq1,hq]
      exact Nat.lt_succ_of_le (zgc (P:=Lp C b z2 (.flatL (c+1)) w') ⟨_,by assumption,by assumption⟩).2
    rw[if_neg h59] at hy2
    by_cases h64:(Res.ok s').kind=64
    ·rw[if_pos h64] at hy2
     obtain⟨y1,hy1,hy2⟩:=bind_some hy2
     replace hy2:=Lib.hid hy2
     have hw1:IntKind.i64.wrap ((c:Int) - 1)=(c:Int) - 1:=IntWalk.i64_in _ zdC
     go_wp2_with (first
     |(go_at_call 62;first|(refine(zfE ‹_›).mono ?_;rintro e w' ⟨rfl,rfl⟩)|(refine(zfD ‹_›).mono ?_;rintro e w' ⟨⟨v,rfl⟩,rfl⟩))
     |(go_at_call 34;refine(zfG ‹_› _ zeu).mono ?_;rintro e w' ⟨rfl,hat⟩;have hc8:=zft _ _ _ _ hat;first|rw[zfw] at hc8|rw[zfv] at hc8|skip)
     |(go_at_call 58;first|(refine(zgT ‹_› ‹_›).mono ?_;rintro e w' ⟨rfl,rfl⟩)|(refine(zgN ‹_›).mono ?_;rintro e w' ⟨rfl,rfl⟩))
     |(go_at_call 46;refine(zgw ‹_› _ zeu).mono ?_;rintro e w' ⟨v,rfl,hat⟩;have hc8:=zft _ _ _ _ hat;first|rw[zfw] at hc8|rw[zfv] at hc8|skip)
     |(go_at_call 32;refine(zfK ‹_› zeu).mono ?_;rintro e w' ⟨v,rfl,hat⟩;have hc8:=zft _ _ _ _ hat;first|rw[zfw] at hc8|rw[zfv] at hc8|skip)
     |(go_at_call 38;refine(HCL _ _ _ _ _ _ _ _ ‹_› zev zeu).mono ?_;rintro e w' ⟨v,rfl,hat⟩;have hc8:=zft _ _ _ _ hat;first|rw[zfw] at hc8|rw[zfv] at hc8|skip))
     go_roundw
     case rel=>exact⟨c - 1,k,by omega,by go_num,_,by assumption,by assumption⟩
     case measure=>
      rw[hq0]
      have hq1:lpOf C b z2 (.flatL (intOf (.int .i64 ((c:Int) - 1))).toNat) w'=lpOf C b z2 (.flatL (c - 1)) w':=by simp only[intOf];rw[show((c:Int) - 1).toNat=c - 1 by omega]
      show lpOf C b z2 (.flatL (intOf (.int .i64 ((c:Int) - 1))).toNat) w'<_
      rw[hq1,hq]
      exact Nat.lt_succ_of_le (zgc (P:=Lp C b z2 (.flatL (c - 1)) w') ⟨_,by assumption,by assumption⟩).2
    rw[if_neg h64] at hy2
    obtain⟨y1,hy1,hy2⟩:=bind_some hy2
    replace hy2:=Lib.hid hy2
    all_goals(try have e0:((Res.ok s').kind == 0)=false:=by simp [*])
    all_goals(try have e59:((Res.ok s').kind == 59)=false:=by simp [*])
    all_goals(try have e64:((Res.ok s').kind == 64)=false:=by simp [*])
    go_wp2_with (first
    |(go_at_call 62;first|(refine(zfE ‹_›).mono ?_;rintro e w' ⟨rfl,rfl⟩)|(refine(zfD ‹_›).mono ?_;rintro e w' ⟨⟨v,rfl⟩,rfl⟩))
    |(go_at_call 34;refine(zfG ‹_› _ zeu).mono ?_;rintro e w' ⟨rfl,hat⟩;have hc8:=zft _ _ _ _ hat;first|rw[zfw] at hc8|rw[zfv] at hc8|skip)
    |(go_at_call 58;first|(refine(zgT ‹_› ‹_›).mono ?_;rintro e w' ⟨rfl,rfl⟩)|(refine(zgN ‹_›).mono ?_;rintro e w' ⟨rfl,rfl⟩))
    |(go_at_call 46;refine(zgw ‹_› _ zeu).mono ?_;rintro e w' ⟨v,rfl,hat⟩;have hc8:=zft _ _ _ _ hat;first|rw[zfw] at hc8|rw[zfv] at hc8|skip)
    |(go_at_call 32;refine(zfK ‹_› zeu).mono ?_;rintro e w' ⟨v,rfl,hat⟩;have hc8:=zft _ _ _ _ hat;first|rw[zfw] at hc8|rw[zfv] at hc8|skip)
    |(go_at_call 38;refine(HCL _ _ _ _ _ _ _ _ ‹_› zev zeu).mono ?_;rintro e w' ⟨v,rfl,hat⟩;have hc8:=zft _ _ _ _ hat;first|rw[zfw] at hc8|rw[zfv] at hc8|skip))
    go_roundw
    case rel=>exact⟨c,k,by omega,rfl,_,by assumption,by assumption⟩
    case measure=>
     rw[hq0,hq]
     show lpOf C b z2 (.flatL (intOf (.int .i64 (c:Int))).toNat) w'<_
     rw[show lpOf C b z2 (.flatL (intOf (.int .i64 (c:Int))).toNat) w'=lpOf C b z2 (.flatL c) w' by simp [intOf]]
     exact Nat.lt_succ_of_le (zgc (P:=Lp C b z2 (.flatL c) w') ⟨_,by assumption,by assumption⟩).2
end Go.Proofs.YtcekbbkidipbnaaGreat.rd
