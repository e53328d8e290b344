/-
  Texts put together: Fj, Fk, Fl.
-/
import Derived.Test.YtcekbbkidipbnaaGreatP28
set_option maxRecDepth 100000
set_option maxHeartbeats 8000000
namespace Go.Proofs.YtcekbbkidipbnaaGreat.rd
open Go.RowKit
theorem zwY {n:Nat} (HCL:CloseC) (ih:∀ k,k≤n→All k):CM 163 (n+1) .call:=by
 have _:=HCL
 have _:=ih
 intro C w b x y m m' hat hm hy
 have hy:=hy.out
 cases x with
 |fail d0 d1 d2=>
  rw[zfB] at hy
  obtain rfl:=Option.some.inj hy
  exact zih HCL _ _ _ _ _ _ _ hat
 |ok s=>
  rw[run] at hy
  try dsimp only at hy
  have hm':=hm rfl
  subst hm'
  clear hm
  rw[zfu] at hy
  obtain⟨z1,hz1,hy⟩:=hy
  rw[zfu] at hy
  obtain⟨z2,hz2,hy⟩:=hy
  rw[zfu] at hy
  obtain⟨z3,hz3,hy⟩:=hy
  replace hy:=Lib.hid hy
  all_goals go_enter Tryz.func163,Tryz.ntmps163
  all_goals go_wp2_with (first|(go_at_call 32;refine(zfK ‹_› zeu).mono ?_;rintro e w' ⟨v,rfl,hat⟩;have hc8:=zft _ _ _ _ hat;first|rw[zfw] at hc8|rw[zfv] at hc8|skip)|(go_at_call 49;first|(refine((ih _ ?hk).X _ _ _ _ _ _ ‹_› ‹_›).mono ?_;(case hk=>omega);rintro e w' ⟨v,rfl,hat⟩)|(refine(X_f HCL _ _ _ _ _ _ _ ‹_›).mono ?_;rintro e w' ⟨v,rfl,hat⟩);have hc8:=zft _ _ _ _ hat;first|rw[zfw] at hc8|rw[zfv] at hc8|skip)|(go_at_call 34;refine(zfG ‹_› _ zeu).mono ?_;rintro e w' ⟨rfl,hat⟩;have hc8:=zft _ _ _ _ hat;first|rw[zfw] at hc8|rw[zfv] at hc8|skip)|(go_at_call 38;refine(HCL _ _ _ _ _ _ _ _ ‹_› zev zeu).mono ?_;rintro e w' ⟨v,rfl,hat⟩;have hc8:=zft _ _ _ _ hat;first|rw[zfw] at hc8|rw[zfv] at hc8|skip)|(go_at_call 95;first|(with_reducible refine(zfC ‹_› ?hc).mono ?_;(case hc=>simp [Res.comes, *]);rintro e w' ⟨rfl,hat⟩)|(with_reducible refine(zfz ‹_› ?hc).mono ?_;(case hc=>simp [Res.comes, *]);rintro e w' ⟨rfl,hat⟩);have hc8:=zft _ _ _ _ hat;first|rw[zfw] at hc8|rw[zfv] at hc8|skip))
  all_goals first|(go_end0;exact⟨_,rfl,by assumption⟩)|skip
  go_loopw [] (fun wr=>Lq C b z2 .callL n wr) (fun wr=>lpOf C b z2 .callL wr)
  case atStart=>exact Lq.at ‹_› ‹_›
  case round=>
   rcases hrel.out with⟨d0,d1,d2,hu,hat⟩|⟨k,s',hk,hq,hat,hy'⟩
   ·subst hu
    have hk0:(Res.fail d0 d1 d2).kind=0:=rfl
    have hc8:=zft _ _ _ _ hat
    first|rw[zfw] at hc8|rw[zfv] at hc8
    go_wp2_with (first|(go_at_call 32;refine(zfK ‹_› zeu).mono ?_;rintro e w' ⟨v,rfl,hat⟩;have hc8:=zft _ _ _ _ hat;first|rw[zfw] at hc8|rw[zfv] at hc8|skip)|(go_at_call 62;first|(refine(zfE ‹_›).mono ?_;rintro e w' ⟨rfl,rfl⟩)|(refine(zfD ‹_›).mono ?_;rintro e w' ⟨⟨v,rfl⟩,rfl⟩))|(go_at_call 182;first|(refine((ih _ ?hk).value _ _ _ _ _ ‹_› ‹_›).mono ?_;(case hk=>omega);rintro e w' ⟨v,rfl,hat⟩)|(refine(zin HCL _ _ _ _ _ _ ‹_›).mono ?_;rintro e w' ⟨v,rfl,hat⟩);have hc8:=zft _ _ _ _ hat;first|rw[zfw] at hc8|rw[zfv] at hc8|skip)|(go_at_call 34;refine(zfG ‹_› _ zeu).mono ?_;rintro e w' ⟨rfl,hat⟩;have hc8:=zft _ _ _ _ hat;first|rw[zfw] at hc8|rw[zfv] at hc8|skip)|(go_at_call 38;refine(HCL _ _ _ _ _ _ _ _ ‹_› zev zeu).mono ?_;rintro e w' ⟨v,rfl,hat⟩;have hc8:=zft _ _ _ _ hat;first|rw[zfw] at hc8|rw[zfv] at hc8|skip)|(go_at_call 95;first|(with_reducible refine(zfC ‹_› ?hc).mono ?_;(case hc=>simp [Res.comes, *]);rintro e w' ⟨rfl,hat⟩)|(with_reducible refine(zfz ‹_› ?hc).mono ?_;(case hc=>simp [Res.comes, *]);rintro e w' ⟨rfl,hat⟩);have hc8:=zft _ _ _ _ hat;first|rw[zfw] at hc8|rw[zfv] at hc8|skip)|(go_at_call 49;first|(refine((ih _ ?hk).X _ _ _ _ _ _ ‹_› ‹_›).mono ?_;(case hk=>omega);rintro e w' ⟨v,rfl,hat⟩)|(refine(X_f HCL _ _ _ _ _ _ _ ‹_›).mono ?_;rintro e w' ⟨v,rfl,hat⟩);have hc8:=zft _ _ _ _ hat;first|rw[zfw] at hc8|rw[zfv] at hc8|skip))
    all_goals exact zay
   ·rw[run] at hy'
    try dsimp only at hy'
    have hc8:=zft _ _ _ _ hat
    first|rw[zfw] at hc8|rw[zfv] at hc8
    have hy2:=hy'
    clear hy'
    iterate 16 (all_goals try(first|split at hy2|(rw[zfu] at hy2;obtain⟨z,hz,hy2⟩:=hy2;try(rw[zfF] at hz;subst hz))))
    all_goals(first|(obtain rfl:=Option.some.inj hy2)|(replace hy2:=Lib.hid hy2))
    iterate 2 (all_goals try(rename _∧_=>ho;obtain⟨_,_⟩:=ho))
    iterate 7 (all_goals try(rename _∨_=>ho;rcases ho with ho|ho))
    all_goals(repeat (rename ¬ (_∨_)=>ho;rw[not_or] at ho;obtain⟨_,_⟩:=ho))
    all_goals go_wp2_with (first|(go_at_call 32;refine(zfK ‹_› zeu).mono ?_;rintro e w' ⟨v,rfl,hat⟩;have hc8:=zft _ _ _ _ hat;first|rw[zfw] at hc8|rw[zfv] at hc8|skip)|(go_at_call 62;first|(refine(zfE ‹_›).mono ?_;rintro e w' ⟨rfl,rfl⟩)|(refine(zfD ‹_›).mono ?_;rintro e w' ⟨⟨v,rfl⟩,rfl⟩))|(go_at_call 182;first|(refine((ih _ ?hk).value _ _ _ _ _ ‹_› ‹_›).mono ?_;(case hk=>omega);rintro e w' ⟨v,rfl,hat⟩)|(refine(zin HCL _ _ _ _ _ _ ‹_›).mono ?_;rintro e w' ⟨v,rfl,hat⟩);have hc8:=zft _ _ _ _ hat;first|rw[zfw] at hc8|rw[zfv] at hc8|skip)|(go_at_call 34;refine(zfG ‹_› _ zeu).mono ?_;rintro e w' ⟨rfl,hat⟩;have hc8:=zft _ _ _ _ hat;first|rw[zfw] at hc8|rw[zfv] at hc8|skip)|(go_at_call 38;refine(HCL _ _ _ _ _ _ _ _ ‹_› zev zeu).mono ?_;rintro e w' ⟨v,rfl,hat⟩;have hc8:=zft _ _ _ _ hat;first|rw[zfw] at hc8|rw[zfv] at hc8|skip)|(go_at_call 95;first|(with_reducible refine(zfC ‹_› ?hc).mono ?_;(case hc=>simp [Res.comes, *]);rintro e w' ⟨rfl,hat⟩)|(with_reducible refine(zfz ‹_› ?hc).mono ?_;(case hc=>simp [Res.comes, *]);rintro e w' ⟨rfl,hat⟩);have hc8:=zft _ _ _ _ hat;first|rw[zfw] at hc8|rw[zfv] at hc8|skip)|(go_at_call 49;first|(refine((ih _ ?hk).X _ _ _ _ _ _ ‹_› ‹_›).mono ?_;(case hk=>omega);rintro e w' ⟨v,rfl,hat⟩)|(refine(X_f HCL _ _ _ _ _ _ _ ‹_›).mono ?_;rintro e w' ⟨v,rfl,hat⟩);have hc8:=zft _ _ _ _ hat;first|rw[zfw] at hc8|rw[zfv] at hc8|skip))
    all_goals exact zay
theorem zui {n:Nat} (HCL:CloseC) (ih:∀ k,k≤n→All k):C0 165 (n+1) .values:=by
 have _:=HCL
 have _:=ih
 intro C w b x y hat hy
 have hy:=hy.out
 cases x with
 |fail d0 d1 d2=>
  rw[zfB] at hy
  obtain rfl:=Option.some.inj hy
  exact zhb HCL _ _ _ _ _ _ hat
 |ok s=>
  rw[run] at hy
  try dsimp only at hy
  rw[zfu] at hy
  obtain⟨z1,hz1,hy⟩:=hy
  rw[zfu] at hy
  obtain⟨z2,hz2,hy⟩:=hy
  replace hy:=Lib.hid hy
  all_goals go_enter Tryz.func165,Tryz.ntmps165
  all_goals go_wp2_with (first|(go_at_call 32;refine(zfK ‹_› zeu).mono ?_;rintro e w' ⟨v,rfl,hat⟩;have hc8:=zft _ _ _ _ hat;first|rw[zfw] at hc8|rw[zfv] at hc8|skip)|(go_at_call 62;first|(refine(zfE ‹_›).mono ?_;rintro e w' ⟨rfl,rfl⟩)|(refine(zfD ‹_›).mono ?_;rintro e w' ⟨⟨v,rfl⟩,rfl⟩))|(go_at_call 182;first|(refine((ih _ ?hk).value _ _ _ _ _ ‹_› ‹_›).mono ?_;(case hk=>omega);rintro e w' ⟨v,rfl,hat⟩)|(refine(zin HCL _ _ _ _ _ _ ‹_›).mono ?_;rintro e w' ⟨v,rfl,hat⟩);have hc8:=zft _ _ _ _ hat;first|rw[zfw] at hc8|rw[zfv] at hc8|skip)|(go_at_call 34;refine(zfG ‹_› _ zeu).mono ?_;rintro e w' ⟨rfl,hat⟩;have hc8:=zft _ _ _ _ hat;first|rw[zfw] at hc8|rw[zfv] at hc8|skip)|(go_at_call 38;refine(HCL _ _ _ _ _ _ _ _ ‹_› zev zeu).mono ?_;rintro e w' ⟨v,rfl,hat⟩;have hc8:=zft _ _ _ _ hat;first|rw[zfw] at hc8|rw[zfv] at hc8|skip)|(go_at_call 95;first|(with_reducible refine(zfC ‹_› ?hc).mono ?_;(case hc=>simp [Res.comes, *]);rintro e w' ⟨rfl,hat⟩)|(with_reducible refine(zfz ‹_› ?hc).mono ?_;(case hc=>simp [Res.comes, *]);rintro e w' ⟨rfl,hat⟩);have hc8:=zft _ _ _ _ hat;first|rw[zfw] at hc8|rw[zfv] at hc8|skip))
  all_goals first|(go_end0;exact⟨_,rfl,by assumption⟩)|skip
  go_loopw [] (fun wr=>Lq C b z2 .valL n wr) (fun wr=>lpOf C b z2 .valL wr)
  case atStart=>exact Lq.at ‹_› ‹_›
  case round=>
   rcases hrel.out with⟨d0,d1,d2,hu,hat⟩|⟨k,s',hk,hq,hat,hy'⟩
   ·subst hu
    have hk0:(Res.fail d0 d1 d2).kind=0:=rfl
    have hc8:=zft _ _ _ _ hat
    first|rw[zfw] at hc8|rw[zfv] at hc8
    go_wp2_with (first|(go_at_call 32;refine(zfK ‹_› zeu).mono ?_;rintro e w' ⟨v,rfl,hat⟩;have hc8:=zft _ _ _ _ hat;first|rw[zfw] at hc8|rw[zfv] at hc8|skip)|(go_at_call 62;first|(refine(zfE ‹_›).mono ?_;rintro e w' ⟨rfl,rfl⟩)|(refine(zfD ‹_›).mono ?_;rintro e w' ⟨⟨v,rfl⟩,rfl⟩))|(go_at_call 182;first|(refine((ih _ ?hk).value _ _ _ _ _ ‹_› ‹_›).mono ?_;(case hk=>omega);rintro e w' ⟨v,rfl,hat⟩)|(refine(zin HCL _ _ _ _ _ _ ‹_›).mono ?_;rintro e w' ⟨v,rfl,hat⟩);have hc8:=zft _ _ _ _ hat;first|rw[zfw] at hc8|rw[zfv] at hc8|skip)|(go_at_call 34;refine(zfG ‹_› _ zeu).mono ?_;rintro e w' ⟨rfl,hat⟩;have hc8:=zft _ _ _ _ hat;first|rw[zfw] at hc8|rw[zfv] at hc8|skip)|(go_at_call 38;refine(HCL _ _ _ _ _ _ _ _ ‹_› zev zeu).mono ?_;rintro e w' ⟨v,rfl,hat⟩;have hc8:=zft _ _ _ _ hat;first|rw[zfw] at hc8|rw[zfv] at hc8|skip)|(go_at_call 95;first|(with_reducible refine(zfC ‹_› ?hc).mono ?_;(case hc=>simp [Res.comes, *]);rintro e w' ⟨rfl,hat⟩)|(with_reducible refine(zfz ‹_› ?hc).mono ?_;(case hc=>simp [Res.comes, *]);rintro e w' ⟨rfl,hat⟩);have hc8:=zft _ _ _ _ hat;first|rw[zfw] at hc8|rw[zfv] at hc8|skip)|(go_at_call 49;first|(refine((ih _ ?hk).X _ _ _ _ _ _ ‹_› ‹_›).mono ?_;(case hk=>omega);rintro e w' ⟨v,rfl,hat⟩)|(refine(X_f HCL _ _ _ _ _ _ _ ‹_›).mono ?_;rintro e w' ⟨v,rfl,hat⟩);have hc8:=zft _ _ _ _ hat;first|rw[zfw] at hc8|rw[zfv] at hc8|skip))
    all_goals exact zay
   ·rw[run] at hy'
    try dsimp only at hy'
    have hc8:=zft _ _ _ _ hat
    first|rw[zfw] at hc8|rw[zfv] at hc8
    have hy2:=hy'
    clear hy'
    iterate 16 (all_goals try(first|split at hy2|(rw[zfu] at hy2;obtain⟨z,hz,hy2⟩:=hy2;try(rw[zfF] at hz;subst hz))))
    all_goals(first|(obtain rfl:=Option.some.inj hy2)|(replace hy2:=Lib.hid hy2))
    iterate 2 (all_goals try(rename _∧_=>ho;obtain⟨_,_⟩:=ho))
    iterate 7 (all_goals try(rename _∨_=>ho;rcases ho with ho|ho))
    all_goals(repeat (rename ¬ (_∨_)=>ho;rw[not_or] at ho;obtain⟨_,_⟩:=ho))
    all_goals go_wp2_with (first|(go_at_call 32;refine(zfK ‹_› zeu).mono ?_;rintro e w' ⟨v,rfl,hat⟩;have hc8:=zft _ _ _ _ hat;first|rw[zfw] at hc8|rw[zfv] at hc8|skip)|(go_at_call 62;first|(refine(zfE ‹_›).mono ?_;rintro e w' ⟨rfl,rfl⟩)|(refine(zfD ‹_›).mono ?_;rintro e w' ⟨⟨v,rfl⟩,rfl⟩))|(go_at_call 182;first|(refine((ih _ ?hk).value _ _ _ _ _ ‹_› ‹_›).mono ?_;(case hk=>omega);rintro e w' ⟨v,rfl,hat⟩)|(refine(zin HCL _ _ _ _ _ _ ‹_›).mono ?_;rintro e w' ⟨v,rfl,hat⟩);have hc8:=zft _ _ _ _ hat;first|rw[zfw] at hc8|rw[zfv] at hc8|skip)|(go_at_call 34;refine(zfG ‹_› _ zeu).mono ?_;rintro e w' ⟨rfl,hat⟩;have hc8:=zft _ _ _ _ hat;first|rw[zfw] at hc8|rw[zfv] at hc8|skip)|(go_at_call 38;refine(HCL _ _ _ _ _ _ _ _ ‹_› zev zeu).mono ?_;rintro e w' ⟨v,rfl,hat⟩;have hc8:=zft _ _ _ _ hat;first|rw[zfw] at hc8|rw[zfv] at hc8|skip)|(go_at_call 95;first|(with_reducible refine(zfC ‹_› ?hc).mono ?_;(case hc=>simp [Res.comes, *]);rintro e w' ⟨rfl,hat⟩)|(with_reducible refine(zfz ‹_› ?hc).mono ?_;(case hc=>simp [Res.comes, *]);rintro e w' ⟨rfl,hat⟩);have hc8:=zft _ _ _ _ hat;first|rw[zfw] at hc8|rw[zfv] at hc8|skip)|(go_at_call 49;first|(refine((ih _ ?hk).X _ _ _ _ _ _ ‹_› ‹_›).mono ?_;(case hk=>omega);rintro e w' ⟨v,rfl,hat⟩)|(refine(X_f HCL _ _ _ _ _ _ _ ‹_›).mono ?_;rintro e w' ⟨v,rfl,hat⟩);have hc8:=zft _ _ _ _ hat;first|rw[zfw] at hc8|rw[zfv] at hc8|skip))
    all_goals exact zay
theorem zwN {n:Nat} (HCL:CloseC) (ih:∀ k,k≤n→All k):CB 98 (n+1) .items:=by
 have _:=HCL
 have _:=ih
 intro C w b x y h hat hy
 have hy:=hy.out
 cases x with
 |fail d0 d1 d2=>
  rw[zfB] at hy
  obtain rfl:=Option.some.inj hy
  exact ziq HCL _ _ _ _ _ _ _ hat
 |ok s=>
  rw[run] at hy
  try dsimp only at hy
  rw[zfu] at hy
  obtain⟨z1,hz1,hy⟩:=hy
  rw[zfu] at hy
  obtain⟨z2,hz2,hy⟩:=hy
  replace hy:=Lib.hid hy
  cases h
  ·all_goals go_enter Tryz.func98,Tryz.ntmps98
   all_goals go_wp2_with (first|(go_at_call 32;refine(zfK ‹_› zeu).mono ?_;rintro e w' ⟨v,rfl,hat⟩;have hc8:=zft _ _ _ _ hat;first|rw[zfw] at hc8|rw[zfv] at hc8|skip)|(go_at_call 126;first|(refine((ih _ ?hk).field _ _ _ _ _ ‹_› ‹_›).mono ?_;(case hk=>omega);rintro e w' ⟨v,rfl,hat⟩)|(refine(zif HCL _ _ _ _ _ _ ‹_›).mono ?_;rintro e w' ⟨v,rfl,hat⟩);have hc8:=zft _ _ _ _ hat;first|rw[zfw] at hc8|rw[zfv] at hc8|skip)|(go_at_call 127;first|(refine((ih _ ?hk).element _ _ _ _ _ ‹_› ‹_›).mono ?_;(case hk=>omega);rintro e w' ⟨v,rfl,hat⟩)|(refine(zhi HCL _ _ _ _ _ _ ‹_›).mono ?_;rintro e w' ⟨v,rfl,hat⟩);have hc8:=zft _ _ _ _ hat;first|rw[zfw] at hc8|rw[zfv] at hc8|skip)|(go_at_call 34;refine(zfG ‹_› _ zeu).mono ?_;rintro e w' ⟨rfl,hat⟩;have hc8:=zft _ _ _ _ hat;first|rw[zfw] at hc8|rw[zfv] at hc8|skip)|(go_at_call 95;first|(with_reducible refine(zfC ‹_› ?hc).mono ?_;(case hc=>simp [Res.comes, *]);rintro e w' ⟨rfl,hat⟩)|(with_reducible refine(zfz ‹_› ?hc).mono ?_;(case hc=>simp [Res.comes, *]);rintro e w' ⟨rfl,hat⟩)|(with_reducible refine(zho ‹_› ?hc).mono ?_;(case hc=>simp [Res.comes, *]);rintro e w' ⟨rfl,hat⟩)|(with_reducible refine(zhj ‹_› ?hc).mono ?_;(case hc=>simp [Res.comes, *]);rintro e w' ⟨rfl,hat⟩);have hc8:=zft _ _ _ _ hat;first|rw[zfw] at hc8|rw[zfv] at hc8|skip))
   all_goals first|(go_end0;exact⟨_,rfl,by assumption⟩)|skip
   go_loopw [] (fun wr=>Lq C b z2 (.itL false) n wr) (fun wr=>lpOf C b z2 (.itL false) wr)
   case atStart=>exact Lq.at ‹_› ‹_›
   case round=>
    rcases hrel.out with⟨d0,d1,d2,hu,hat⟩|⟨k,s',hk,hq,hat,hy'⟩
    ·subst hu
     have hk0:(Res.fail d0 d1 d2).kind=0:=rfl
     have hc8:=zft _ _ _ _ hat
     first|rw[zfw] at hc8|rw[zfv] at hc8
     go_wp2_with (first|(go_at_call 32;refine(zfK ‹_› zeu).mono ?_;rintro e w' ⟨v,rfl,hat⟩;have hc8:=zft _ _ _ _ hat;first|rw[zfw] at hc8|rw[zfv] at hc8|skip)|(go_at_call 126;first|(refine((ih _ ?hk).field _ _ _ _ _ ‹_› ‹_›).mono ?_;(case hk=>omega);rintro e w' ⟨v,rfl,hat⟩)|(refine(zif HCL _ _ _ _ _ _ ‹_›).mono ?_;rintro e w' ⟨v,rfl,hat⟩);have hc8:=zft _ _ _ _ hat;first|rw[zfw] at hc8|rw[zfv] at hc8|skip)|(go_at_call 127;first|(refine((ih _ ?hk).element _ _ _ _ _ ‹_› ‹_›).mono ?_;(case hk=>omega);rintro e w' ⟨v,rfl,hat⟩)|(refine(zhi HCL _ _ _ _ _ _ ‹_›).mono ?_;rintro e w' ⟨v,rfl,hat⟩);have hc8:=zft _ _ _ _ hat;first|rw[zfw] at hc8|rw[zfv] at hc8|skip)|(go_at_call 34;refine(zfG ‹_› _ zeu).mono ?_;rintro e w' ⟨rfl,hat⟩;have hc8:=zft _ _ _ _ hat;first|rw[zfw] at hc8|rw[zfv] at hc8|skip)|(go_at_call 95;first|(with_reducible refine(zfC ‹_› ?hc).mono ?_;(case hc=>simp [Res.comes, *]);rintro e w' ⟨rfl,hat⟩)|(with_reducible refine(zfz ‹_› ?hc).mono ?_;(case hc=>simp [Res.comes, *]);rintro e w' ⟨rfl,hat⟩)|(with_reducible refine(zho ‹_› ?hc).mono ?_;(case hc=>simp [Res.comes, *]);rintro e w' ⟨rfl,hat⟩)|(with_reducible refine(zhj ‹_› ?hc).mono ?_;(case hc=>simp [Res.comes, *]);rintro e w' ⟨rfl,hat⟩);have hc8:=zft _ _ _ _ hat;first|rw[zfw] at hc8|rw[zfv] at hc8|skip))
     all_goals exact zay
    ·rw[run] at hy'
     try dsimp only at hy'
     have hc8:=zft _ _ _ _ hat
     first|rw[zfw] at hc8|rw[zfv] at hc8
     have hy2:=hy'
     clear hy'
     iterate 16 (all_goals try(first|split at hy2|(rw[zfu] at hy2;obtain⟨z,hz,hy2⟩:=hy2;try(rw[zfF] at hz;subst hz))))
     all_goals(first|(obtain rfl:=Option.some.inj hy2)|(replace hy2:=Lib.hid hy2))
     iterate 2 (all_goals try(rename _∧_=>ho;obtain⟨_,_⟩:=ho))
     iterate 7 (all_goals try(rename _∨_=>ho;rcases ho with ho|ho))
     all_goals(repeat (rename ¬ (_∨_)=>ho;rw[not_or] at ho;obtain⟨_,_⟩:=ho))
     all_goals go_wp2_with (first|(go_at_call 32;refine(zfK ‹_› zeu).mono ?_;rintro e w' ⟨v,rfl,hat⟩;have hc8:=zft _ _ _ _ hat;first|rw[zfw] at hc8|rw[zfv] at hc8|skip)|(go_at_call 126;first|(refine((ih _ ?hk).field _ _ _ _ _ ‹_› ‹_›).mono ?_;(case hk=>omega);rintro e w' ⟨v,rfl,hat⟩)|(refine(zif HCL _ _ _ _ _ _ ‹_›).mono ?_;rintro e w' ⟨v,rfl,hat⟩);have hc8:=zft _ _ _ _ hat;first|rw[zfw] at hc8|rw[zfv] at hc8|skip)|(go_at_call 127;first|(refine((ih _ ?hk).element _ _ _ _ _ ‹_› ‹_›).mono ?_;(case hk=>omega);rintro e w' ⟨v,rfl,hat⟩)|(refine(zhi HCL _ _ _ _ _ _ ‹_›).mono ?_;rintro e w' ⟨v,rfl,hat⟩);have hc8:=zft _ _ _ _ hat;first|rw[zfw] at hc8|rw[zfv] at hc8|skip)|(go_at_call 34;refine(zfG ‹_› _ zeu).mono ?_;rintro e w' ⟨rfl,hat⟩;have hc8:=zft _ _ _ _ hat;first|rw[zfw] at hc8|rw[zfv] at hc8|skip)|(go_at_call 95;first|(with_reducible refine(zfC ‹_› ?hc).mono ?_;(case hc=>simp [Res.comes, *]);rintro e w' ⟨rfl,hat⟩)|(with_reducible refine(zfz ‹_› ?hc).mono ?_;(case hc=>simp [Res.comes, *]);rintro e w' ⟨rfl,hat⟩)|(with_reducible refine(zho ‹_› ?hc).mono ?_;(case hc=>simp [Res.comes, *]);rintro e w' ⟨rfl,hat⟩)|(with_reducible refine(zhj ‹_› ?hc).mono ?_;(case hc=>simp [Res.comes, *]);rintro e w' ⟨rfl,hat⟩);have hc8:=zft _ _ _ _ hat;first|rw[zfw] at hc8|rw[zfv] at hc8|skip))
     all_goals exact zay
  ·all_goals go_enter Tryz.func98,Tryz.ntmps98
   all_goals go_wp2_with (first|(go_at_call 32;refine(zfK ‹_› zeu).mono ?_;rintro e w' ⟨v,rfl,hat⟩;have hc8:=zft _ _ _ _ hat;first|rw[zfw] at hc8|rw[zfv] at hc8|skip)|(go_at_call 126;first|(refine((ih _ ?hk).field _ _ _ _ _ ‹_› ‹_›).mono ?_;(case hk=>omega);rintro e w' ⟨v,rfl,hat⟩)|(refine(zif HCL _ _ _ _ _ _ ‹_›).mono ?_;rintro e w' ⟨v,rfl,hat⟩);have hc8:=zft _ _ _ _ hat;first|rw[zfw] at hc8|rw[zfv] at hc8|skip)|(go_at_call 127;first|(refine((ih _ ?hk).element _ _ _ _ _ ‹_› ‹_›).mono ?_;(case hk=>omega);rintro e w' ⟨v,rfl,hat⟩)|(refine(zhi HCL _ _ _ _ _ _ ‹_›).mono ?_;rintro e w' ⟨v,rfl,hat⟩);have hc8:=zft _ _ _ _ hat;first|rw[zfw] at hc8|rw[zfv] at hc8|skip)|(go_at_call 34;refine(zfG ‹_› _ zeu).mono ?_;rintro e w' ⟨rfl,hat⟩;have hc8:=zft _ _ _ _ hat;first|rw[zfw] at hc8|rw[zfv] at hc8|skip)|(go_at_call 95;first|(with_reducible refine(zfC ‹_› ?hc).mono ?_;(case hc=>simp [Res.comes, *]);rintro e w' ⟨rfl,hat⟩)|(with_reducible refine(zfz ‹_› ?hc).mono ?_;(case hc=>simp [Res.comes, *]);rintro e w' ⟨rfl,hat⟩)|(with_reducible refine(zho ‹_› ?hc).mono ?_;(case hc=>simp [Res.comes, *]);rintro e w' ⟨rfl,hat⟩)|(with_reducible refine(zhj ‹_› ?hc).mono ?_;(case hc=>simp [Res.comes, *]);rintro e w' ⟨rfl,hat⟩);have hc8:=zft _ _ _ _ hat;first|rw[zfw] at hc8|rw[zfv] at hc8|skip))
   all_goals first|(go_end0;exact⟨_,rfl,by assumption⟩)|skip
   go_loopw [] (fun wr=>Lq C b z2 (.itL true) n wr) (fun wr=>lpOf C b z2 (.itL true) wr)
   case atStart=>exact Lq.at ‹_› ‹_›
   case round=>
    rcases hrel.out with⟨d0,d1,d2,hu,hat⟩|⟨k,s',hk,hq,hat,hy'⟩
    ·subst hu
     have hk0:(Res.fail d0 d1 d2).kind=0:=rfl
     have hc8:=zft _ _ _ _ hat
     first|rw[zfw] at hc8|rw[zfv] at hc8
     go_wp2_with (first|(go_at_call 32;refine(zfK ‹_› zeu).mono ?_;rintro e w' ⟨v,rfl,hat⟩;have hc8:=zft _ _ _ _ hat;first|rw[zfw] at hc8|rw[zfv] at hc8|skip)|(go_at_call 126;first|(refine((ih _ ?hk).field _ _ _ _ _ ‹_› ‹_›).mono ?_;(case hk=>omega);rintro e w' ⟨v,rfl,hat⟩)|(refine(zif HCL _ _ _ _ _ _ ‹_›).mono ?_;rintro e w' ⟨v,rfl,hat⟩);have hc8:=zft _ _ _ _ hat;first|rw[zfw] at hc8|rw[zfv] at hc8|skip)|(go_at_call 127;first|(refine((ih _ ?hk).element _ _ _ _ _ ‹_› ‹_›).mono ?_;(case hk=>omega);rintro e w' ⟨v,rfl,hat⟩)|(refine(zhi HCL _ _ _ _ _ _ ‹_›).mono ?_;rintro e w' ⟨v,rfl,hat⟩);have hc8:=zft _ _ _ _ hat;first|rw[zfw] at hc8|rw[zfv] at hc8|skip)|(go_at_call 34;refine(zfG ‹_› _ zeu).mono ?_;rintro e w' ⟨rfl,hat⟩;have hc8:=zft _ _ _ _ hat;first|rw[zfw] at hc8|rw[zfv] at hc8|skip)|(go_at_call 95;first|(with_reducible refine(zfC ‹_› ?hc).mono ?_;(case hc=>simp [Res.comes, *]);rintro e w' ⟨rfl,hat⟩)|(with_reducible refine(zfz ‹_› ?hc).mono ?_;(case hc=>simp [Res.comes, *]);rintro e w' ⟨rfl,hat⟩)|(with_reducible refine(zho ‹_› ?hc).mono ?_;(case hc=>simp [Res.comes, *]);rintro e w' ⟨rfl,hat⟩)|(with_reducible refine(zhj ‹_› ?hc).mono ?_;(case hc=>simp [Res.comes, *]);rintro e w' ⟨rfl,hat⟩);have hc8:=zft _ _ _ _ hat;first|rw[zfw] at hc8|rw[zfv] at hc8|skip))
     all_goals exact zay
    ·rw[run] at hy'
     try dsimp only at hy'
     have hc8:=zft _ _ _ _ hat
     first|rw[zfw] at hc8|rw[zfv] at hc8
     have hy2:=hy'
     clear hy'
     iterate 16 (all_goals try(first|split at hy2|(rw[zfu] at hy2;obtain⟨z,hz,hy2⟩:=hy2;try(rw[zfF] at hz;subst hz))))
     all_goals(first|(obtain rfl:=Option.some.inj hy2)|(replace hy2:=Lib.hid hy2))
     iterate 2 (all_goals try(rename _∧_=>ho;obtain⟨_,_⟩:=ho))
     iterate 7 (all_goals try(rename _∨_=>ho;rcases ho with ho|ho))
     all_goals(repeat (rename ¬ (_∨_)=>ho;rw[not_or] at ho;obtain⟨_,_⟩:=ho))
     all_goals go_wp2_with (first|(go_at_call 32;refine(zfK ‹_› zeu).mono ?_;rintro e w' ⟨v,rfl,hat⟩;have hc8:=zft _ _ _ _ hat;first|rw[zfw] at hc8|rw[zfv] at hc8|skip)|(go_at_call 126;first|(refine((ih _ ?hk).field _ _ _ _ _ ‹_› ‹_›).mono ?_;(case hk=>omega);rintro e w' ⟨v,rfl,hat⟩)|(refine(zif HCL _ _ _ _ _ _ ‹_›).mono ?_;rintro e w' ⟨v,rfl,hat⟩);have hc8:=zft _ _ _ _ hat;first|rw[zfw] at hc8|rw[zfv] at hc8|skip)|(go_at_call 127;first|(refine((ih _ ?hk).element _ _ _ _ _ ‹_› ‹_›).mono ?_;(case hk=>omega);rintro e w' ⟨v,rfl,hat⟩)|(refine(zhi HCL _ _ _ _ _ _ ‹_›).mono ?_;rintro e w' ⟨v,rfl,hat⟩);have hc8:=zft _ _ _ _ hat;first|rw[zfw] at hc8|rw[zfv] at hc8|skip)|(go_at_call 34;refine(zfG ‹_› _ zeu).mono ?_;rintro e w' ⟨rfl,hat⟩;have hc8:=zft _ _ _ _ hat;first|rw[zfw] at hc8|rw[zfv] at hc8|skip)|(go_at_call 95;first|(with_reducible refine(zfC ‹_› ?hc).mono ?_;(case hc=>simp [Res.comes, *]);rintro e w' ⟨rfl,hat⟩)|(with_reducible refine(zfz ‹_› ?hc).mono ?_;(case hc=>simp [Res.comes, *]);rintro e w' ⟨rfl,hat⟩)|(with_reducible refine(zho ‹_› ?hc).mono ?_;(case hc=>simp [Res.comes, *]);rintro e w' ⟨rfl,hat⟩)|(with_reducible refine(zhj ‹_› ?hc).mono ?_;(case hc=>simp [Res.comes, *]);rintro e w' ⟨rfl,hat⟩);have hc8:=zft _ _ _ _ hat;first|rw[zfw] at hc8|rw[zfv] at hc8|skip))
     all_goals exact zay
open Go.RowKit
theorem zwt {n:Nat} (HCL:CloseC) (ih:∀ k,k≤n→All k):C0 126 (n+1) .field:=by
 have _:=HCL
 have _:=ih
 intro C w b x y hat hy
 have hy:=hy.out
 cases x with
 |fail d0 d1 d2=>
  rw[zfB] at hy
  obtain rfl:=Option.some.inj hy
  exact zif HCL _ _ _ _ _ _ hat
 |ok s=>
  rw[run] at hy
  try dsimp only at hy
  split at hy
  ·iterate 16 (all_goals try(first|split at hy|(rw[zfu] at hy;obtain⟨z,hz,hy⟩:=hy;try(rw[zfF] at hz;subst hz))))
   all_goals(first|(obtain rfl:=Option.some.inj hy)|(replace hy:=Lib.hid hy))
   iterate 2 (all_goals try(rename _∧_=>ho;obtain⟨_,_⟩:=ho))
   iterate 7 (all_goals try(rename _∨_=>ho;rcases ho with ho|ho))
   all_goals(repeat (rename ¬ (_∨_)=>ho;rw[not_or] at ho;obtain⟨_,_⟩:=ho))
   all_goals go_enter Tryz.func126,Tryz.ntmps126
   all_goals exact zaa
  ·split at hy
   ·iterate 16 (all_goals try(first|split at hy|(rw[zfu] at hy;obtain⟨z,hz,hy⟩:=hy;try(rw[zfF] at hz;subst hz))))
    all_goals(first|(obtain rfl:=Option.some.inj hy)|(replace hy:=Lib.hid hy))
    iterate 2 (all_goals try(rename _∧_=>ho;obtain⟨_,_⟩:=ho))
    iterate 7 (all_goals try(rename _∨_=>ho;rcases ho with ho|ho))
    all_goals(repeat (rename ¬ (_∨_)=>ho;rw[not_or] at ho;obtain⟨_,_⟩:=ho))
    all_goals go_enter Tryz.func126,Tryz.ntmps126
    all_goals exact zaa
   ·rename ¬ (_∧_)=>hneg
    by_cases h10:(Res.ok s).kind=10
    ·have hneg2:=not_and.1 hneg h10
     clear hneg
     simp only[not_or] at hneg2
     obtain⟨_,_,_,_⟩:=hneg2
     all_goals(try have a15:((Res.ok s).ahead 1 == 15)=false:=by simp [*])
     all_goals(try have a16:((Res.ok s).ahead 1 == 16)=false:=by simp [*])
     all_goals(try have a64:((Res.ok s).ahead 1 == 64)=false:=by simp [*])
     all_goals(try have a61:((Res.ok s).ahead 1 == 61)=false:=by simp [*])
     rw[zfu] at hy
     obtain⟨z1,hz1,hy⟩:=hy
     rw[zfu] at hy
     obtain⟨z2,hz2,hy⟩:=hy
     rw[zfu] at hy
     obtain⟨z3,hz3,hy⟩:=hy
     replace hy:=Lib.hid hy
     all_goals go_enter Tryz.func126,Tryz.ntmps126
     all_goals go_wp2_with (first|(go_at_call 62;first|(refine(zfE ‹_›).mono ?_;rintro e w' ⟨rfl,rfl⟩)|(refine(zfD ‹_›).mono ?_;rintro e w' ⟨⟨v,rfl⟩,rfl⟩))|(go_at_call 32;refine(zfK ‹_› zeu).mono ?_;rintro e w' ⟨v,rfl,hat⟩)|(go_at_call 96;refine(zgP HCL ‹_› zeu).mono ?_;rintro e w' ⟨v,rfl,hat⟩)|(go_at_call 38;refine(HCL _ _ _ _ _ _ _ _ ‹_› zev zeu).mono ?_;rintro e w' ⟨v,rfl,hat⟩)|(go_at_call 48;refine(zgW HCL ‹_› zeu).mono ?_;rintro e w' ⟨v,rfl,hat⟩)|(go_at_call 51;first|(refine((ih _ ?hk).type _ _ _ _ _ ‹_› ‹_›).mono ?_;(case hk=>omega);rintro e w' ⟨v,rfl,hat⟩)|(refine(zgo HCL _ _ _ _ _ _ ‹_›).mono ?_;rintro e w' ⟨v,rfl,hat⟩))|(go_at_call 95;first|(with_reducible refine(zfC ‹_› ?hc).mono ?_;(case hc=>simp [Res.comes, *]);rintro e w' ⟨rfl,hat⟩)|(with_reducible refine(zfz ‹_› ?hc).mono ?_;(case hc=>simp [Res.comes, *]);rintro e w' ⟨rfl,hat⟩))|(go_at_call 60;first|(refine(zhU ‹_› 1 zdD ‹_›).mono ?_;rintro e w' ⟨rfl,rfl⟩)|(refine(zgQ ‹_› 1 zdD).mono ?_;rintro e w' ⟨rfl,rfl⟩)))
     all_goals first|(go_end0;exact⟨_,rfl,by assumption⟩)|skip
     go_loopw [] (fun wr=>Lq C b z2 .names n wr) (fun wr=>lpOf C b z2 .names wr)
     case atStart=>exact Lq.at ‹_› ‹_›
     case round=>exact zad
    ·clear hneg
     rw[zfu] at hy
     obtain⟨z1,hz1,hy⟩:=hy
     rw[zfu] at hy
     obtain⟨z2,hz2,hy⟩:=hy
     rw[zfu] at hy
     obtain⟨z3,hz3,hy⟩:=hy
     replace hy:=Lib.hid hy
     all_goals go_enter Tryz.func126,Tryz.ntmps126
     all_goals go_wp2_with (first|(go_at_call 62;first|(refine(zfE ‹_›).mono ?_;rintro e w' ⟨rfl,rfl⟩)|(refine(zfD ‹_›).mono ?_;rintro e w' ⟨⟨v,rfl⟩,rfl⟩))|(go_at_call 32;refine(zfK ‹_› zeu).mono ?_;rintro e w' ⟨v,rfl,hat⟩)|(go_at_call 96;refine(zgP HCL ‹_› zeu).mono ?_;rintro e w' ⟨v,rfl,hat⟩)|(go_at_call 38;refine(HCL _ _ _ _ _ _ _ _ ‹_› zev zeu).mono ?_;rintro e w' ⟨v,rfl,hat⟩)|(go_at_call 48;refine(zgW HCL ‹_› zeu).mono ?_;rintro e w' ⟨v,rfl,hat⟩)|(go_at_call 51;first|(refine((ih _ ?hk).type _ _ _ _ _ ‹_› ‹_›).mono ?_;(case hk=>omega);rintro e w' ⟨v,rfl,hat⟩)|(refine(zgo HCL _ _ _ _ _ _ ‹_›).mono ?_;rintro e w' ⟨v,rfl,hat⟩))|(go_at_call 95;first|(with_reducible refine(zfC ‹_› ?hc).mono ?_;(case hc=>simp [Res.comes, *]);rintro e w' ⟨rfl,hat⟩)|(with_reducible refine(zfz ‹_› ?hc).mono ?_;(case hc=>simp [Res.comes, *]);rintro e w' ⟨rfl,hat⟩))|(go_at_call 60;first|(refine(zhU ‹_› 1 zdD ‹_›).mono ?_;rintro e w' ⟨rfl,rfl⟩)|(refine(zgQ ‹_› 1 zdD).mono ?_;rintro e w' ⟨rfl,rfl⟩)))
     all_goals first|(go_end0;exact⟨_,rfl,by assumption⟩)|skip
     go_loopw [] (fun wr=>Lq C b z2 .names n wr) (fun wr=>lpOf C b z2 .names wr)
     case atStart=>exact Lq.at ‹_› ‹_›
     case round=>exact zad
open Go.RowKit
theorem zwo {n:Nat} (HCL:CloseC) (ih:∀ k,k≤n→All k):CM 162 (n+1) .index:=by
 have _:=HCL
 have _:=ih
 intro C w b x y m m' hat hm hy
 have hy:=hy.out
 cases x with
 |fail d0 d1 d2=>
  rw[zfB] at hy
  obtain rfl:=Option.some.inj hy
  exact zhM HCL _ _ _ _ _ _ _ hat
 |ok s=>
  rw[run] at hy
  try dsimp only at hy
  have hm':=hm rfl
  subst hm'
  clear hm
  rw[zfu] at hy
  obtain⟨z0,hz0,hy⟩:=hy
  have hcase:∃ z,Hid ((if z0.kind=65 then rNone z0 else run n (.X false) z0)=some z)∧(if z.kind=65 then run n (.cut m') z else(run n .idxL z >>= fun u=>rExpect 63 u >>= fun v=>rClose m' 208 v))=some y:=by
   exact zcf
  clear hy
  obtain⟨z1,hz1,hy⟩:=hcase
  have hz1':=hz1.out
  clear hz1
  split at hy
  ·replace hy:=Lib.hid hy
   split at hz1'
   all_goals replace hz1':=Lib.hid hz1'
   all_goals go_enter Tryz.func162,Tryz.ntmps162
   all_goals exact zaa
  ·rw[zfu] at hy
   obtain⟨z2,hz2,hy⟩:=hy
   rw[zfu] at hy
   obtain⟨z3,hz3,hy⟩:=hy
   replace hy:=Lib.hid hy
   split at hz1'
   ·replace hz1':=Lib.hid hz1'
    all_goals go_enter Tryz.func162,Tryz.ntmps162
    all_goals go_wp2_with (first|(go_at_call 32;refine(zfK ‹_› zeu).mono ?_;rintro e w' ⟨v,rfl,hat⟩)|(go_at_call 36;refine(zgU ‹_› zeu).mono ?_;rintro e w' ⟨v,rfl,hat⟩)|(go_at_call 49;first|(refine((ih _ ?hk).X _ _ _ _ _ _ ‹_› ‹_›).mono ?_;(case hk=>omega);rintro e w' ⟨v,rfl,hat⟩)|(refine(X_f HCL _ _ _ _ _ _ _ ‹_›).mono ?_;rintro e w' ⟨v,rfl,hat⟩))|(go_at_call 179;first|(refine((ih _ ?hk).cut _ _ _ _ _ _ _ ‹_› zev ‹_›).mono ?_;(case hk=>omega);rintro e w' ⟨v,rfl,hat⟩)|(refine(ziB HCL _ _ _ _ _ _ _ ‹_›).mono ?_;rintro e w' ⟨v,rfl,hat⟩))|(go_at_call 34;refine(zfG ‹_› _ zeu).mono ?_;rintro e w' ⟨rfl,hat⟩)|(go_at_call 38;refine(HCL _ _ _ _ _ _ _ _ ‹_› zev zeu).mono ?_;rintro e w' ⟨v,rfl,hat⟩)|(go_at_call 95;first|(with_reducible refine(zfC ‹_› ?hc).mono ?_;(case hc=>simp [Res.comes, *]);rintro e w' ⟨rfl,hat⟩)|(with_reducible refine(zfz ‹_› ?hc).mono ?_;(case hc=>simp [Res.comes, *]);rintro e w' ⟨rfl,hat⟩)))
    all_goals first|(go_end0;exact⟨_,rfl,by assumption⟩)|skip
    go_loopw [] (fun wr=>Lq C b z2 .idxL n wr) (fun wr=>lpOf C b z2 .idxL wr)
    case atStart=>exact Lq.at ‹_› ‹_›
    case round=>exact zad
   ·replace hz1':=Lib.hid hz1'
    all_goals go_enter Tryz.func162,Tryz.ntmps162
    all_goals go_wp2_with (first|(go_at_call 32;refine(zfK ‹_› zeu).mono ?_;rintro e w' ⟨v,rfl,hat⟩)|(go_at_call 36;refine(zgU ‹_› zeu).mono ?_;rintro e w' ⟨v,rfl,hat⟩)|(go_at_call 49;first|(refine((ih _ ?hk).X _ _ _ _ _ _ ‹_› ‹_›).mono ?_;(case hk=>omega);rintro e w' ⟨v,rfl,hat⟩)|(refine(X_f HCL _ _ _ _ _ _ _ ‹_›).mono ?_;rintro e w' ⟨v,rfl,hat⟩))|(go_at_call 179;first|(refine((ih _ ?hk).cut _ _ _ _ _ _ _ ‹_› zev ‹_›).mono ?_;(case hk=>omega);rintro e w' ⟨v,rfl,hat⟩)|(refine(ziB HCL _ _ _ _ _ _ _ ‹_›).mono ?_;rintro e w' ⟨v,rfl,hat⟩))|(go_at_call 34;refine(zfG ‹_› _ zeu).mono ?_;rintro e w' ⟨rfl,hat⟩)|(go_at_call 38;refine(HCL _ _ _ _ _ _ _ _ ‹_› zev zeu).mono ?_;rintro e w' ⟨v,rfl,hat⟩)|(go_at_call 95;first|(with_reducible refine(zfC ‹_› ?hc).mono ?_;(case hc=>simp [Res.comes, *]);rintro e w' ⟨rfl,hat⟩)|(with_reducible refine(zfz ‹_› ?hc).mono ?_;(case hc=>simp [Res.comes, *]);rintro e w' ⟨rfl,hat⟩)))
    all_goals first|(go_end0;exact⟨_,rfl,by assumption⟩)|skip
    go_loopw [] (fun wr=>Lq C b z2 .idxL n wr) (fun wr=>lpOf C b z2 .idxL wr)
    case atStart=>exact Lq.at ‹_› ‹_›
    case round=>exact zad
end Go.Proofs.YtcekbbkidipbnaaGreat.rd
