/-
  Texts put together: Hc, He, Hj, Hg, Hh, Hi.
-/
import Derived.Test.YtcekbbkidipbnaaGreatP39
set_option maxRecDepth 100000
set_option maxHeartbeats 8000000
namespace Go.Proofs.YtcekbbkidipbnaaGreat.rd
open Go.RowKit
theorem zgY {n:Nat} {C:Kc} {w:World} {b:Nat} {x y:Res} (ih:AllC n) (h:Hid (CAt C w b x)) (hy:Hid (run n (.X false) x=some y)):Calls Tryz.prog 139 #[.pointer (some ⟨b,0,none⟩)] w (CPost C b y):=by
 go_enter Tryz.func139,Tryz.ntmps139
 go_wp2_with (go_at_call 22;refine(ih.X _ _ _ _ _ _ h hy).mono ?_;rintro e w' ⟨v,rfl,hat⟩)
 go_end0
 exact⟨_,rfl,by assumption⟩
theorem cX_s {n:Nat} (ih:∀ k,k≤n→AllC k):PB 22 (n+1) .X:=by
 have _:=ih
 intro C w b x y h hat hy
 have hy:=hy.out
 cases x with
 |fail d0 d1 d2=>
  rw[zfB] at hy
  obtain rfl:=Option.some.inj hy
  exact cX_f _ _ _ _ _ _ _ hat
 |ok s=>
  have hlo:C.low≤s.R.length:=zgs hat
  rw[run] at hy
  try dsimp only at hy
  obtain⟨z,hz,hy⟩:=bind_some hy
  cases z with
  |fail a0 a1 a2=>
   simp only[zfB,zle,Option.bind_eq_bind,Option.bind_some] at hy
   obtain rfl:=Option.some.inj hy
   clear hy
   all_goals go_enter Tryz.func22,Tryz.ntmps22
   all_goals exact zaa
  |ok t=>
   iterate 16 (all_goals try(first|split at hy|(rw[zfu] at hy;obtain⟨z,hz,hy⟩:=hy;try(rw[zfF] at hz;subst hz))))
   all_goals(first|(obtain rfl:=Option.some.inj hy)|(replace hy:=Lib.hid hy))
   iterate 2 (all_goals try(rename _∧_=>ho;obtain⟨_,_⟩:=ho))
   iterate 7 (all_goals try(rename _∨_=>ho;rcases ho with ho|ho))
   all_goals(repeat (rename ¬ (_∨_)=>ho;rw[not_or] at ho;obtain⟨_,_⟩:=ho))
   all_goals go_enter Tryz.func22,Tryz.ntmps22
   all_goals exact zaa
theorem zpM {n:Nat} (ih:∀ k,k≤n→AllC k) {C:Kc} {w:World} {b:Nat} {s:St} {z1 z2 z3 z4 y:Res} {h:Bool} {k:Int} (hat:Hid (CAt C w b (.ok s))) (h1:Hid (rTake (.ok s)=some z1)) (h2:Hid (rDown z1=some z2)) (h3:Hid (run n (.unary h) z2=some z3)) (h4:Hid (rUp z3=some z4)) (h5:Hid (rClose s.R.length k z4=some y)):Calls Tryz.prog 136 #[.pointer (some ⟨b,0,none⟩),.bool h,.int .i64 k] w (CPost C b y):=by
 have _:=ih
 cases z2 with
 |fail a0 a1 a2=>
  have e3:=h3.out
  rw[zfB] at e3
  obtain rfl:=Option.some.inj e3
  have e4:=h4.out
  obtain rfl:=Option.some.inj e4
  clear e3 e4
  all_goals go_enter Tryz.func136,Tryz.ntmps136
  all_goals exact zaa
 |ok t=>
  all_goals go_enter Tryz.func136,Tryz.ntmps136
  all_goals exact zaa
theorem zvd {n:Nat} (ih:∀ k,k≤n→AllC k):PB 113 (n+1) .unary:=by
 have _:=ih
 intro C w b x y h hat hy
 have hy:=hy.out
 cases x with
 |fail d0 d1 d2=>
  rw[zfB] at hy
  obtain rfl:=Option.some.inj hy
  exact zhk _ _ _ _ _ _ _ hat
 |ok s=>
  have hlo:C.low≤s.R.length:=zgs hat
  rw[run] at hy
  try dsimp only at hy
  iterate 16 (all_goals try(first|split at hy|(rw[zfu] at hy;obtain⟨z,hz,hy⟩:=hy;try(rw[zfF] at hz;subst hz))))
  all_goals(first|(obtain rfl:=Option.some.inj hy)|(replace hy:=Lib.hid hy))
  iterate 2 (all_goals try(rename _∧_=>ho;obtain⟨_,_⟩:=ho))
  iterate 7 (all_goals try(rename _∨_=>ho;rcases ho with ho|ho))
  all_goals(repeat (rename ¬ (_∨_)=>ho;rw[not_or] at ho;obtain⟨_,_⟩:=ho))
  all_goals(try have e20:((Res.ok s).kind == 20)=false:=by simp [*])
  all_goals(try have e21:((Res.ok s).kind == 21)=false:=by simp [*])
  all_goals(try have e50:((Res.ok s).kind == 50)=false:=by simp [*])
  all_goals(try have e27:((Res.ok s).kind == 27)=false:=by simp [*])
  all_goals(try have e25:((Res.ok s).kind == 25)=false:=by simp [*])
  all_goals(try have e22:((Res.ok s).kind == 22)=false:=by simp [*])
  all_goals go_enter Tryz.func113,Tryz.ntmps113
  all_goals exact zaa
open Go.RowKit
theorem zms {x z:Res} (h:Hid (rNone x=some z)):z.kind=x.kind:=by
 have h:=h.out
 cases x with
 |fail a b c=>obtain rfl:=Option.some.inj h;rfl
 |ok s=>obtain⟨rfl,_⟩:=zgg h;rfl
theorem zrD {x z y:Res} (h:Hid (rNone x=some z)) (c:Int) (hy:rFail c z=some y):rFail c x=some y:=by
 have h:=h.out
 cases x with
 |fail a b c=>obtain rfl:=Option.some.inj h;exact hy
 |ok s=>obtain⟨rfl,_⟩:=zgg h;exact hy
theorem zoQ {x y:Res} {k:Int} (hk:x.kind=k) (h0:k≠0) (h:Hid (rTake x=some y)):Hid (rExpect k x=some y):=by
 have h:=h.out
 cases x with
 |fail a b c=>exact absurd hk.symm h0
 |ok s=>
  refine Lib.hid ?_
  unfold rExpect lift St.expect
  simp only[]
  rw[if_pos ⟨h0,hk⟩]
  exact h
theorem zkw:Enters Tryz.prog 139:=enters_of Tryz.func139 zeQ rfl
theorem znk {n:Nat} {C:Kc} {w:World} {b:Nat} {x z y:Res} (hat:Hid (CAt C w b x)) (h1:Hid (run n .idxL x=some z)) (h2:Hid (rExpect 63 z=some y)) (ih:∀ k,k≤n→AllC k):Calls Tryz.prog 116 #[.pointer (some ⟨b,0,none⟩),.func (.func 139) #[.pointer (some ⟨b,0,none⟩)] #[]] w (CPost C b y):=
 ziJ (p:=.idxL) (n:=n) (g:=fun k=>run k (.X false)) zkw (fun k hk w x y h hy=>by rw[Array.append_empty];exact zgY (ih k hk) h hy) (fun k s=>by rw[run]) hat h1 h2
theorem ziw {n:Nat} {C:Kc} {w:World} {b:Nat} {s:St} {z:Res} {y:Res} (hat:Hid (CAt C w b (.ok s))) (h1:Hid (run n .value (.ok s)=some z)) (h2:Hid ((if z.kind=65 then(rTake z >>= fun u=>run n .value u >>= fun v=>rClose s.R.length 215 v) else some z)=some y)) (ih:∀ k,k≤n→AllC k):Calls Tryz.prog 177 #[.pointer (some ⟨b,0,none⟩)] w (CPost C b y):=by
 have _:=ih
 have hy:=h2.out
 clear h2
 iterate 16 (all_goals try(first|split at hy|(rw[zfu] at hy;obtain⟨z,hz,hy⟩:=hy;try(rw[zfF] at hz;subst hz))))
 all_goals(first|(obtain rfl:=Option.some.inj hy)|(replace hy:=Lib.hid hy))
 iterate 2 (all_goals try(rename _∧_=>ho;obtain⟨_,_⟩:=ho))
 iterate 7 (all_goals try(rename _∨_=>ho;rcases ho with ho|ho))
 all_goals(repeat (rename ¬ (_∨_)=>ho;rw[not_or] at ho;obtain⟨_,_⟩:=ho))
 all_goals go_enter Tryz.func177,Tryz.ntmps177
 all_goals exact zaa
theorem zhy:∀ (C:Kc) (w:World) (b:Nat) (d0 d1 d2:Int),Hid (CAt C w b (.fail d0 d1 d2))→Calls Tryz.prog 177 #[.pointer (some ⟨b,0,none⟩)] w (CPost C b (.fail d0 d1 d2)):=by
 intro C w b d0 d1 d2 hat
 have hk0:(Res.fail d0 d1 d2).kind=0:=rfl
 go_enter Tryz.func177,Tryz.ntmps177
 exact zab
open Go.RowKit
theorem zpa {n:Nat} {C:Kc} {w:World} {b:Nat} {s:St} {z:Res} {m:Int} {y:Res} (hat:Hid (CAt C w b (.ok s))) (h1:Hid (rTake (.ok s)=some z)) (hy0:Hid ((if z.kind=89 then(rTake z >>= fun u=>rExpect 62 u >>= fun v=>rClose m 212 v) else(run n .type z >>= fun u=>rExpect 62 u >>= fun v=>rClose m 211 v))=some y)) (hlm:(C.low:Int)≤m) (ih:∀ k,k≤n→AllC k):Calls Tryz.prog 175 #[.pointer (some ⟨b,0,none⟩),.int .i64 m] w (CPost C b y):=by
 have _:=ih
 have hy:=hy0.out
 clear hy0
 iterate 16 (all_goals try(first|split at hy|(rw[zfu] at hy;obtain⟨z,hz,hy⟩:=hy;try(rw[zfF] at hz;subst hz))))
 all_goals(first|(obtain rfl:=Option.some.inj hy)|(replace hy:=Lib.hid hy))
 iterate 2 (all_goals try(rename _∧_=>ho;obtain⟨_,_⟩:=ho))
 iterate 7 (all_goals try(rename _∨_=>ho;rcases ho with ho|ho))
 all_goals(repeat (rename ¬ (_∨_)=>ho;rw[not_or] at ho;obtain⟨_,_⟩:=ho))
 all_goals(try have e89:(z.kind == 89)=false:=by simp [*])
 all_goals go_enter Tryz.func175,Tryz.ntmps175
 all_goals exact zaa
theorem zoM {n:Nat} (ih:∀ k,k≤n→AllC k):PM 154 (n+1) .period:=by
 have _:=ih
 intro C w b x y m m' hat hm hlw hy
 have hy:=hy.out
 cases x with
 |fail d0 d1 d2=>
  rw[zfB] at hy
  obtain rfl:=Option.some.inj hy
  clear hy
  have hk0:(Res.fail d0 d1 d2).kind=0:=rfl
  all_goals go_enter Tryz.func154,Tryz.ntmps154
  all_goals exact zaa
 |ok s=>
  have hlo:C.low≤s.R.length:=zgs hat
  rw[run] at hy
  try dsimp only at hy
  have hm':=hm rfl
  subst hm'
  clear hm
  have hlm:=hlw rfl
  clear hlw
  rw[zfu] at hy
  obtain⟨z1,hz1,hy⟩:=hy
  by_cases h57:z1.kind=57
  ·rw[if_neg (by rw[h57];decide),if_pos h57] at hy
   obtain⟨t,rfl⟩:=zhl h57 zdD
   rw[zfu] at hy
   obtain⟨z2,hz2,hy⟩:=hy
   replace hy:=Lib.hid hy
   all_goals go_enter Tryz.func154,Tryz.ntmps154
   all_goals exact zaa
  ·rw[if_neg (c:=z1.kind=57) h57] at hy
   have e57:(z1.kind == 57)=false:=by simp [*]
   iterate 16 (all_goals try(first|split at hy|(rw[zfu] at hy;obtain⟨z,hz,hy⟩:=hy;try(rw[zfF] at hz;subst hz))))
   all_goals(first|(obtain rfl:=Option.some.inj hy)|(replace hy:=Lib.hid hy))
   iterate 2 (all_goals try(rename _∧_=>ho;obtain⟨_,_⟩:=ho))
   iterate 7 (all_goals try(rename _∨_=>ho;rcases ho with ho|ho))
   all_goals(repeat (rename ¬ (_∨_)=>ho;rw[not_or] at ho;obtain⟨_,_⟩:=ho))
   all_goals(try have e10:(z1.kind == 10)=false:=by simp [*])
   all_goals go_enter Tryz.func154,Tryz.ntmps154
   all_goals exact zaa
open Go.RowKit
theorem zwd {n:Nat} (ih:∀ k,k≤n→AllC k):PM 156 (n+1) .call:=by
 have _:=ih
 intro C w b x y m m' hat hm hlw hy
 have hy:=hy.out
 cases x with
 |fail d0 d1 d2=>
  rw[zfB] at hy
  obtain rfl:=Option.some.inj hy
  clear hy
  have hk0:(Res.fail d0 d1 d2).kind=0:=rfl
  go_enter Tryz.func156,Tryz.ntmps156
  go_wp2_with (first|(go_at_call 31;refine(zfZ ‹_› zeu).mono ?_;rintro e w' ⟨v,rfl,hat⟩)|(go_at_call 57;first|(refine(zfI ‹_› ‹_›).mono ?_;rintro e w' ⟨rfl,hat⟩)|(refine(zfH ‹_›).mono ?_;rintro e w' ⟨rfl,hat⟩))|(go_at_call 139;first|(refine(zgY (ih:=ih _ ?hk) ‹_› ‹_›).mono ?_;(case hk=>omega);rintro e w' ⟨v,rfl,hat⟩)|(refine(zgv _ _ _ _ _ _ ‹_›).mono ?_;rintro e w' ⟨v,rfl,hat⟩))|(go_at_call 83;first|(refine(zfX ‹_› ‹_› zeu).mono ?_;rintro e w' ⟨rfl,hat⟩)|(refine(zgb ‹_› ?hno).mono ?_;(case hno=>first|assumption|rfl|simp [*]);rintro e w' ⟨rfl,hat⟩))|(go_at_call 33;refine(zfO ‹_› _ zeu).mono ?_;rintro e w' ⟨rfl,hat⟩)|(go_at_call 37;refine(zfP _ _ _ _ _ _ _ _ ‹_› zev zez zeu).mono ?_;rintro e w' ⟨v,rfl,hat⟩))
  go_loopw [] (fun wr=>Hid (CAt C wr b (.fail d0 d1 d2))) (fun _=>0)
  case atStart=>assumption
  case round=>
   have hat:=hrel
   exact zab
 |ok s=>
  have hlo:C.low≤s.R.length:=zgs hat
  rw[run] at hy
  try dsimp only at hy
  have hm':=hm rfl
  subst hm'
  clear hm
  have hlm:=hlw rfl
  clear hlw
  rw[zfu] at hy
  obtain⟨z1,hz1,hy⟩:=hy
  rw[zfu] at hy
  obtain⟨z2,hz2,hy⟩:=hy
  rw[zfu] at hy
  obtain⟨z3,hz3,hy⟩:=hy
  replace hy:=Lib.hid hy
  all_goals go_enter Tryz.func156,Tryz.ntmps156
  all_goals go_wp2_with (first|(go_at_call 31;refine(zfZ ‹_› zeu).mono ?_;rintro e w' ⟨v,rfl,hat⟩)|(go_at_call 57;first|(refine(zfI ‹_› ‹_›).mono ?_;rintro e w' ⟨rfl,hat⟩)|(refine(zfH ‹_›).mono ?_;rintro e w' ⟨rfl,hat⟩))|(go_at_call 139;first|(refine(zgY (ih:=ih _ ?hk) ‹_› ‹_›).mono ?_;(case hk=>omega);rintro e w' ⟨v,rfl,hat⟩)|(refine(zgv _ _ _ _ _ _ ‹_›).mono ?_;rintro e w' ⟨v,rfl,hat⟩))|(go_at_call 83;first|(refine(zfX ‹_› ‹_› zeu).mono ?_;rintro e w' ⟨rfl,hat⟩)|(refine(zgb ‹_› ?hno).mono ?_;(case hno=>first|assumption|rfl|simp [*]);rintro e w' ⟨rfl,hat⟩))|(go_at_call 33;refine(zfO ‹_› _ zeu).mono ?_;rintro e w' ⟨rfl,hat⟩)|(go_at_call 37;refine(zfP _ _ _ _ _ _ _ _ ‹_› zev zez zeu).mono ?_;rintro e w' ⟨v,rfl,hat⟩))
  all_goals first|(go_end0;exact⟨_,rfl,by assumption⟩)|skip
  go_loopw [] (fun wr=>Mq C b z2 .callL n wr) (fun wr=>mpOf C b z2 .callL wr)
  case atStart=>exact Mq.at ‹_› ‹_›
  case round=>
   rcases hrel.out with⟨d0,d1,d2,hu,hat⟩|⟨k,s',hk,hq,hat,hy'⟩
   ·subst hu
    have hk0:(Res.fail d0 d1 d2).kind=0:=rfl
    exact zam
   ·rw[run] at hy'
    try dsimp only at hy'
    have hy2:=hy'
    clear hy'
    iterate 16 (all_goals try(first|split at hy2|(rw[zfu] at hy2;obtain⟨z,hz,hy2⟩:=hy2;try(rw[zfF] at hz;subst hz))))
    all_goals(first|(obtain rfl:=Option.some.inj hy2)|(replace hy2:=Lib.hid hy2))
    iterate 2 (all_goals try(rename _∧_=>ho;obtain⟨_,_⟩:=ho))
    iterate 7 (all_goals try(rename _∨_=>ho;rcases ho with ho|ho))
    all_goals(repeat (rename ¬ (_∨_)=>ho;rw[not_or] at ho;obtain⟨_,_⟩:=ho))
    all_goals go_wp2_with (first
   |(go_at_call 31;refine(zfZ ‹_› zeu).mono ?_;rintro e w' ⟨v,rfl,hat⟩)
   |(go_at_call 57;first|(refine(zfI ‹_› ‹_›).mono ?_;rintro e w' ⟨rfl,hat⟩)|(refine(zfH ‹_›).mono ?_;rintro e w' ⟨rfl,hat⟩))
   |(go_at_call 139;first|(refine(zgY (ih:=ih _ ?hk) ‹_› ‹_›).mono ?_;(case hk=>omega);rintro e w' ⟨v,rfl,hat⟩)|(refine(zgv _ _ _ _ _ _ ‹_›).mono ?_;rintro e w' ⟨v,rfl,hat⟩))
   |(go_at_call 83;first|(refine(zfX ‹_› ‹_› zeu).mono ?_;rintro e w' ⟨rfl,hat⟩)|(refine(zgb ‹_› ?hno).mono ?_;(case hno=>first|assumption|rfl|simp [*]);rintro e w' ⟨rfl,hat⟩))
   |(go_at_call 33;refine(zfO ‹_› _ zeu).mono ?_;rintro e w' ⟨rfl,hat⟩)
   |(go_at_call 37;refine(zfP _ _ _ _ _ _ _ _ ‹_› zev zez zeu).mono ?_;rintro e w' ⟨v,rfl,hat⟩))
    all_goals(first|(go_roundw;(case rel=>exact(Mq.less zdC ‹_› ‹_› hq).1);(case measure=>exact(Mq.less (n:=n) zdC ‹_› ‹_› hq).2))|(go_end0;exact⟨_,rfl,by assumption⟩)|(go_ret;exact⟨_,rfl,by assumption⟩))
open Go.RowKit
theorem zwW {n:Nat} (ih:∀ k,k≤n→AllC k):PM 176 (n+1) .cut:=by
 have _:=ih
 intro C w b x y m m' hat hm hlw hy
 have hy:=hy.out
 cases x with
 |fail d0 d1 d2=>
  rw[zfB] at hy
  obtain rfl:=Option.some.inj hy
  clear hy
  have hk0:(Res.fail d0 d1 d2).kind=0:=rfl
  all_goals go_enter Tryz.func176,Tryz.ntmps176
  all_goals exact zaa
 |ok s=>
  have hlo:C.low≤s.R.length:=zgs hat
  rw[run] at hy
  try dsimp only at hy
  have hm':=hm rfl
  subst hm'
  clear hm
  have hlm:=hlw rfl
  clear hlw
  rw[zfu] at hy
  obtain⟨z1,hz1,hy⟩:=hy
  by_cases h65:z1.kind=65
  ·rw[if_pos (.inl h65),zfu] at hy
   obtain⟨z2,hz2,hy⟩:=hy
   rw[if_pos ((zms hz2).trans h65)] at hy
   have hy2:=zrD hz2 _ hy
   clear hy hz2
   obtain⟨d0,d1,d2,rfl⟩:=zgH hy2
   have hk0:(Res.fail d0 d1 d2).kind=0:=rfl
   replace hy2:=Lib.hid hy2
   all_goals go_enter Tryz.func176,Tryz.ntmps176
   all_goals exact zaa
  ·by_cases h63:z1.kind=63
   ·rw[if_pos (.inr h63),zfu] at hy
    obtain⟨z2,hz2,hy⟩:=hy
    have hk2:z2.kind=63:=(zms hz2).trans h63
    rw[if_neg (by rw[hk2];decide)] at hy
    have e65:(z1.kind == 65)=false:=by simp [*]
    have e652:(z2.kind == 65)=false:=by simp [*]
    iterate 16 (all_goals try(first|split at hy|(rw[zfu] at hy;obtain⟨z,hz,hy⟩:=hy;try(rw[zfF] at hz;subst hz))))
    all_goals(first|(obtain rfl:=Option.some.inj hy)|(replace hy:=Lib.hid hy))
    iterate 2 (all_goals try(rename _∧_=>ho;obtain⟨_,_⟩:=ho))
    iterate 7 (all_goals try(rename _∨_=>ho;rcases ho with ho|ho))
    all_goals(repeat (rename ¬ (_∨_)=>ho;rw[not_or] at ho;obtain⟨_,_⟩:=ho))
    all_goals go_enter Tryz.func176,Tryz.ntmps176
    all_goals exact zaa
   ·rw[if_neg (by rintro(h|h);exact h65 h;exact h63 h)] at hy
    have e65:(z1.kind == 65)=false:=by simp [*]
    have e63:(z1.kind == 63)=false:=by simp [*]
    iterate 16 (all_goals try(first|split at hy|(rw[zfu] at hy;obtain⟨z,hz,hy⟩:=hy;try(rw[zfF] at hz;subst hz))))
    all_goals(first|(obtain rfl:=Option.some.inj hy)|(replace hy:=Lib.hid hy))
    iterate 2 (all_goals try(rename _∧_=>ho;obtain⟨_,_⟩:=ho))
    iterate 7 (all_goals try(rename _∨_=>ho;rcases ho with ho|ho))
    all_goals(repeat (rename ¬ (_∨_)=>ho;rw[not_or] at ho;obtain⟨_,_⟩:=ho))
    all_goals go_enter Tryz.func176,Tryz.ntmps176
    all_goals exact zaa
open Go.RowKit
theorem zvJ {n:Nat} (ih:∀ k,k≤n→AllC k):PM 155 (n+1) .index:=by
 have _:=ih
 intro C w b x y m m' hat hm hlw hy
 have hy:=hy.out
 cases x with
 |fail d0 d1 d2=>
  rw[zfB] at hy
  obtain rfl:=Option.some.inj hy
  clear hy
  have hk0:(Res.fail d0 d1 d2).kind=0:=rfl
  all_goals go_enter Tryz.func155,Tryz.ntmps155
  all_goals exact zaf
 |ok s=>
  have hlo:C.low≤s.R.length:=zgs hat
  rw[run] at hy
  try dsimp only at hy
  have hm':=hm rfl
  subst hm'
  clear hm
  have hlm:=hlw rfl
  clear hlw
  rw[zfu] at hy
  obtain⟨z0,hz0,hy⟩:=hy
  have hcase:∃ z,Hid ((if z0.kind=65 then rNone z0 else run n (.X false) z0)=some z)∧(if z.kind=65 then run n (.cut m') z else(run n .idxL z >>= fun u=>rExpect 63 u >>= fun v=>rClose m' 208 v))=some y:=by
   exact zcf
  clear hy
  obtain⟨z1,hz1,hy⟩:=hcase
  have hz1':=hz1.out
  clear hz1
  split at hy
  ·replace hy:=Lib.hid hy
   split at hz1'
   all_goals replace hz1':=Lib.hid hz1'
   all_goals(try have e65:(z0.kind == 65)=false:=by simp [*])
   all_goals go_enter Tryz.func155,Tryz.ntmps155
   all_goals exact zaa
  ·rw[zfu] at hy
   obtain⟨z2,hz2,hy⟩:=hy
   rw[zfu] at hy
   obtain⟨z3,hz3,hy⟩:=hy
   replace hy:=Lib.hid hy
   have e651:(z1.kind == 65)=false:=by simp [*]
   split at hz1'
   all_goals replace hz1':=Lib.hid hz1'
   all_goals(try have e65:(z0.kind == 65)=false:=by simp [*])
   all_goals go_enter Tryz.func155,Tryz.ntmps155
   all_goals exact zaa
end Go.Proofs.YtcekbbkidipbnaaGreat.rd
