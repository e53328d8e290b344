/-
  Texts put together: Hf, Hk, Hm, Hq, Hr.
-/
import Derived.Test.YtcekbbkidipbnaaGreatP40
import Derived.Test.YtcekbbkidipbnaaGreatP39
set_option maxRecDepth 100000
set_option maxHeartbeats 8000000
namespace Go.Proofs.YtcekbbkidipbnaaGreat.rd
open Go.RowKit
theorem ztw {n:Nat} (ih:∀ k,k≤n→AllC k):PVal 158 (n+1):=by
 intro C w b x z0 y m m' kind hat hm hlw hz0 hy
 have hz:=hz0.out
 clear hz0
 cases x with
 |fail d0 d1 d2=>
  rw[zfB] at hz
  obtain rfl:=Option.some.inj hz
  have hk0:(Res.fail d0 d1 d2).kind=0:=rfl
  have e:=hy.out
  obtain rfl:=Option.some.inj e
  clear e hz hy
  go_enter Tryz.func158,Tryz.ntmps158
  go_wp2_with (first|(go_at_call 33;refine(zfO ‹_› _ zeu).mono ?_;rintro e w' ⟨rfl,hat⟩)|(go_at_call 57;first|(refine(zfI ‹_› ‹_›).mono ?_;rintro e w' ⟨rfl,hat⟩)|(refine(zfH ‹_›).mono ?_;rintro e w' ⟨rfl,hat⟩))|(go_at_call 177;first|(refine(ziw ‹_› ‹_› ‹_› (fun j hj=>ih j zdC)).mono ?_;rintro e w' ⟨v,rfl,hat⟩)|(refine(zhy _ _ _ _ _ _ ‹_›).mono ?_;rintro e w' ⟨v,rfl,hat⟩))|(go_at_call 83;first|(refine(zfX ‹_› ‹_› zeu).mono ?_;rintro e w' ⟨rfl,hat⟩)|(refine(zgb ‹_› ?hno).mono ?_;(case hno=>first|assumption|rfl|simp [*]);rintro e w' ⟨rfl,hat⟩))|(go_at_call 37;refine(zfP _ _ _ _ _ _ _ _ ‹_› zev zez zeu).mono ?_;rintro e w' ⟨v,rfl,hat⟩))
  go_loopw [] (fun wr=>Hid (CAt C wr b (.fail d0 d1 d2))) (fun _=>0)
  case atStart=>assumption
  case round=>
   have hat:=hrel
   exact zab
 |ok s=>
  have hm:=hm rfl
  subst hm
  have hlm:=hlw rfl
  clear hlw
  rw[run] at hz
  rw[zfu] at hz
  obtain⟨z1,hz1,hz⟩:=hz
  rw[zfu] at hz
  obtain⟨z2,hz2,hz⟩:=hz
  replace hz:=Lib.hid hz
  go_enter Tryz.func158,Tryz.ntmps158
  go_wp2_with (first|(go_at_call 33;refine(zfO ‹_› _ zeu).mono ?_;rintro e w' ⟨rfl,hat⟩)|(go_at_call 57;first|(refine(zfI ‹_› ‹_›).mono ?_;rintro e w' ⟨rfl,hat⟩)|(refine(zfH ‹_›).mono ?_;rintro e w' ⟨rfl,hat⟩))|(go_at_call 177;first|(refine(ziw ‹_› ‹_› ‹_› (fun j hj=>ih j zdC)).mono ?_;rintro e w' ⟨v,rfl,hat⟩)|(refine(zhy _ _ _ _ _ _ ‹_›).mono ?_;rintro e w' ⟨v,rfl,hat⟩))|(go_at_call 83;first|(refine(zfX ‹_› ‹_› zeu).mono ?_;rintro e w' ⟨rfl,hat⟩)|(refine(zgb ‹_› ?hno).mono ?_;(case hno=>first|assumption|rfl|simp [*]);rintro e w' ⟨rfl,hat⟩))|(go_at_call 37;refine(zfP _ _ _ _ _ _ _ _ ‹_› zev zez zeu).mono ?_;rintro e w' ⟨v,rfl,hat⟩))
  go_loopw [] (fun wr=>Mq C b z2 .valL n wr) (fun wr=>mpOf C b z2 .valL wr)
  case atStart=>exact Mq.at ‹_› ‹_›
  case round=>
   rcases hrel.out with⟨d0,d1,d2,hu,hat⟩|⟨k,s',hk,hq,hat,hy'⟩
   ·subst hu
    have hk0:(Res.fail d0 d1 d2).kind=0:=rfl
    exact zam
   ·rw[run] at hy'
    try dsimp only at hy'
    have hy2:=hy'
    clear hy'
    split at hy2
    ·obtain rfl:=Option.some.inj hy2
     clear hy2
     exact zam
    ·rw[zfu] at hy2
     obtain⟨y1,hy1,hy2⟩:=hy2
     have hcase:∃ y2,Hid ((if y1.kind=65 then(rTake y1 >>= fun u=>run k .value u >>= fun v=>rClose s'.R.length 215 v) else some y1)=some y2)∧(if y2.kind=60 then(rTake y2 >>= fun u=>run k .valL u) else some y2)=some z2:=by
      split at hy2
      ·rename_i h65
       rw[zfu] at hy2
       obtain⟨a1,ha1,hy2⟩:=hy2
       rw[zfu] at hy2
       obtain⟨a2,ha2,hy2⟩:=hy2
       rw[zfu] at hy2
       obtain⟨a3,ha3,hy2⟩:=hy2
       refine⟨a3,Lib.hid ?_,hy2⟩
       rw[if_pos h65]
       have e1:=ha1.out
       have e2:=ha2.out
       have e3:=ha3.out
       rw[e1]
       show(run k .value a1 >>= _)=_
       rw[e2]
       exact e3
      ·rename_i h65
       exact⟨y1,Lib.hid (by rw[if_neg h65]),hy2⟩
     clear hy2
     obtain⟨y2,hyk,hy2⟩:=hcase
     by_cases h60:y2.kind=60
     ·rw[if_pos h60,zfu] at hy2
      obtain⟨y3,hy3,hy2⟩:=hy2
      replace hy2:=Lib.hid hy2
      exact zaC
     ·rw[if_neg h60] at hy2
      obtain rfl:=Option.some.inj hy2
      clear hy2
      exact zam
theorem zum {n:Nat} (ih:∀ k,k≤n→AllC k):P0 190 (n+1) .value:=by
 have _:=ih
 intro C w b x y hat hy
 have hy:=hy.out
 cases x with
 |fail d0 d1 d2=>
  rw[zfB] at hy
  obtain rfl:=Option.some.inj hy
  exact zki _ _ _ _ _ _ hat
 |ok s=>
  have hlo:C.low≤s.R.length:=zgs hat
  rw[run] at hy
  try dsimp only at hy
  split at hy
  case isFalse hk=>
   replace hy:=Lib.hid hy
   all_goals go_enter Tryz.func190,Tryz.ntmps190
   all_goals exact zaa
  case isTrue hk=>
   obtain⟨z,hz,hy⟩:=bind_some hy
   cases z with
   |fail a0 a1 a2=>
    simp only[zfB,zle,zkr,Option.bind_eq_bind,Option.bind_some] at hy
    obtain rfl:=Option.some.inj hy
    clear hy
    all_goals go_enter Tryz.func190,Tryz.ntmps190
    all_goals exact zaa
   |ok t=>
    iterate 16 (all_goals try(first|split at hy|(rw[zfu] at hy;obtain⟨z,hz,hy⟩:=hy;try(rw[zfF] at hz;subst hz))))
    all_goals(first|(obtain rfl:=Option.some.inj hy)|(replace hy:=Lib.hid hy))
    iterate 2 (all_goals try(rename _∧_=>ho;obtain⟨_,_⟩:=ho))
    iterate 7 (all_goals try(rename _∨_=>ho;rcases ho with ho|ho))
    all_goals(repeat (rename ¬ (_∨_)=>ho;rw[not_or] at ho;obtain⟨_,_⟩:=ho))
    all_goals go_enter Tryz.func190,Tryz.ntmps190
    all_goals exact zaa
open Go.RowKit
theorem zwI {n:Nat} (ih:∀ k,k≤n→AllC k) (hn:n≤1099511627776):P0 189 (n+1) .flat:=by
 have _:=ih
 intro C w b x y hat hy
 have hy:=hy.out
 have hmain:∃ z1 z2,∃ m':Nat,Hid (rExpect 59 x=some z1)∧Hid (run n (.flatL 1) z1=some z2)∧Hid (rClose m' 217 z2=some y)∧(∀ s,x=.ok s→m'=s.R.length):=by
  exact zbE
 clear hy
 obtain⟨z1,z2,m',hz1,hz2,hy,hmm⟩:=hmain
 have hMK:∃ mv:Int,Hid (Calls Tryz.prog 61 #[.pointer (some ⟨b,0,none⟩)] w fun e w'=>e=.returned (.int .i64 mv)∧w=w')∧(z2.bad=false→mv=(m':Int))∧(z2.bad=false→(C.low:Int)≤mv):=by
  exact zbG
 obtain⟨mv,HMK,hmv,hlw⟩:=hMK
 clear hmm
 go_enter Tryz.func189,Tryz.ntmps189
 go_wp2_with (first|(go_at_call 61;refine HMK.out.mono ?_;rintro e w' ⟨rfl,rfl⟩)|(go_at_call 33;refine(zfO ‹_› _ zeu).mono ?_;rintro e w' ⟨rfl,hat⟩))
 go_loopw [3] (fun p wr=>∃ c k:Nat,c+k≤n+1∧p=.int .i64 (c:Int)∧Mp C b z2 (.flatL c) wr k) (fun p wr=>mpOf C b z2 (.flatL (intOf p).toNat) wr)
 case atStart=>exact⟨1,n,by omega,rfl,z1,by assumption,by assumption⟩
 case round=>
  obtain⟨c,k0,hck,rfl,hlp⟩:=hrel
  have hq0:mpOf C b z2 (.flatL (intOf (.int .i64 (c:Int))).toNat) wr=mpOf C b z2 (.flatL c) wr:=by simp [intOf]
  clear hat hz1 hz2 HMK
  rcases Mq.out ⟨k0,Nat.le_refl _,hlp⟩ with⟨d0,d1,d2,hu,hat⟩|⟨k,s',hk,hq,hat,hy2⟩
  ·subst hu
   have hk0:(Res.fail d0 d1 d2).kind=0:=rfl
   have e:=hy.out
   obtain rfl:=Option.some.inj e
   rcases Nat.eq_zero_or_pos c with rfl|hc0
   ·go_wp2_with (first
   |(go_at_call 61;first|(refine(zfS ‹_›).mono ?_;rintro e w' ⟨rfl,rfl⟩)|(refine(zfQ ‹_›).mono ?_;rintro e w' ⟨⟨v,_,rfl⟩,rfl⟩))
   |(go_at_call 33;refine(zfO ‹_› _ zeu).mono ?_;rintro e w' ⟨rfl,hat⟩)
   |(go_at_call 57;first|(refine(zfI ‹_› ‹_›).mono ?_;rintro e w' ⟨rfl,hat⟩)|(refine(zfH ‹_›).mono ?_;rintro e w' ⟨rfl,hat⟩))
   |(go_at_call 45;refine(zgu ‹_› _ zeu).mono ?_;rintro e w' ⟨v,rfl,hat⟩)
   |(go_at_call 31;refine(zfZ ‹_› zeu).mono ?_;rintro e w' ⟨v,rfl,hat⟩)
   |(go_at_call 37;refine(zfP _ _ _ _ _ _ _ _ ‹_› zev zez zeu).mono ?_;rintro e w' ⟨v,rfl,hat⟩))
    go_end0
    exact⟨_,rfl,by assumption⟩
   ·have hd:decide (0<(c:Int))=true:=decide_eq_true zdC
    exact zab
  ·rw[run] at hy2
   try dsimp only at hy2
   rcases Nat.eq_zero_or_pos c with rfl|hc0
   ·rw[if_pos rfl] at hy2
    obtain rfl:=Option.some.inj hy2
    have hmv':=hmv rfl
    subst hmv'
    have hlm:=hlw rfl
    exact zat
   have hd:decide (0<(c:Int))=true:=decide_eq_true zdC
   rw[if_neg zdC] at hy2
   by_cases h0:(Res.ok s').kind=0
   ·rw[if_pos h0] at hy2
    obtain⟨d0,d1,d2,rfl⟩:=zgH hy2
    replace hy2:=Lib.hid hy2
    have e:=hy.out
    obtain rfl:=Option.some.inj e
    exact zab
   exact zaA
open Go.RowKit
theorem zjK:Enters Tryz.prog 23:=enters_of Tryz.func23 zeQ rfl
theorem zrl:Enters Tryz.prog 24:=enters_of Tryz.func24 zeQ rfl
theorem zmC:Enters Tryz.prog 76:=enters_of Tryz.func76 zeQ rfl
theorem zoe:Enters Tryz.prog 74:=enters_of Tryz.func74 zeQ rfl
theorem zpi:Enters Tryz.prog 77:=enters_of Tryz.func77 zeQ rfl
theorem zog:Enters Tryz.prog 80:=enters_of Tryz.func80 zeQ rfl
theorem zpA:Enters Tryz.prog 79:=enters_of Tryz.func79 zeQ rfl
theorem zmD:Enters Tryz.prog 81:=enters_of Tryz.func81 zeQ rfl
theorem zlE:Enters Tryz.prog 115:=enters_of Tryz.func115 zeQ rfl
theorem zmQ:Enters Tryz.prog 138:=enters_of Tryz.func138 zeQ rfl
theorem zpR:Enters Tryz.prog 47:=enters_of Tryz.func47 zeQ rfl
theorem zqh:Enters Tryz.prog 140:=enters_of Tryz.func140 zeQ rfl
theorem ztt {n:Nat} {C:Kc} {w:World} {b:Nat} {x z y:Res} (hat:Hid (CAt C w b x)) (h1:Hid (run n .tyL x=some z)) (h2:Hid (rExpect 63 z=some y)) (ih:∀ k,k≤n→AllC k):Calls Tryz.prog 116 #[.pointer (some ⟨b,0,none⟩),.func (.func 23) #[.pointer (some ⟨b,0,none⟩)] #[]] w (CPost C b y):=
 ziJ (p:=.tyL) (n:=n) (g:=fun k=>run k .type) zjK (fun k hk w x y h hy=>by rw[Array.append_empty];exact(ih k hk).type _ _ _ _ _ h hy) (fun k s=>by rw[run]) hat h1 h2
theorem zqy {n:Nat} {C:Kc} {w:World} {b:Nat} {s:St} {z y:Res} (hat:Hid (CAt C w b (.ok s))) (h1:Hid (rQualified (.ok s)=some z)) (h3:Hid ((if z.kind=58 then(rTake z >>= fun u=>run n .type u >>= fun v=>run n .tyL v >>= fun v2=>rExpect 63 v2 >>= fun v3=>rClose s.R.length 208 v3) else some z)=some y)) (ih:∀ k,k≤n→AllC k):Calls Tryz.prog 72 #[.pointer (some ⟨b,0,none⟩)] w (CPost C b y):=by
 have hy:=h3.out
 clear h3
 iterate 16 (all_goals try(first|split at hy|(rw[zfu] at hy;obtain⟨z,hz,hy⟩:=hy;try(rw[zfF] at hz;subst hz))))
 all_goals(first|(obtain rfl:=Option.some.inj hy)|(replace hy:=Lib.hid hy))
 iterate 2 (all_goals try(rename _∧_=>ho;obtain⟨_,_⟩:=ho))
 iterate 7 (all_goals try(rename _∨_=>ho;rcases ho with ho|ho))
 all_goals(repeat (rename ¬ (_∨_)=>ho;rw[not_or] at ho;obtain⟨_,_⟩:=ho))
 all_goals(try have e58:(z.kind == 58)=false:=by simp [*])
 all_goals go_enter Tryz.func72,Tryz.ntmps72
 all_goals exact zac
theorem zoG (w:World):Calls Tryz.prog 138 #[] w fun e w'=>(∃ v,e=.returned v)∧w=w':=by
 go_enter Tryz.func138,Tryz.ntmps138
 go_wp2_with fail
 go_end0
 exact⟨⟨_,rfl⟩,rfl⟩
theorem zps {C:Kc} {b:Nat}:CFun C b 138 (#[] ++ #[]) (fun r=>some r):=by
 intro w x y h hy
 rw[Array.append_empty]
 refine(zoG w).mono ?_
 rintro e w' ⟨⟨v,rfl⟩,rfl⟩
 have e:=Option.some.inj hy.out
 rw[← e]
 exact⟨v,rfl,h⟩
theorem ztN {n:Nat} {C:Kc} {w:World} {b:Nat} {s:St} {y:Res} (hat:Hid (CAt C w b (.ok s))) (h3:Hid ((if (Res.ok s).kind=56 then(rTake (.ok s) >>= fun u=>rClose s.R.length 218 u) else run n (.X false) (.ok s))=some y)) (ih:∀ k,k≤n→AllC k):Calls Tryz.prog 117 #[.pointer (some ⟨b,0,none⟩)] w (CPost C b y):=by
 have hy:=h3.out
 clear h3
 iterate 16 (all_goals try(first|split at hy|(rw[zfu] at hy;obtain⟨z,hz,hy⟩:=hy;try(rw[zfF] at hz;subst hz))))
 all_goals(first|(obtain rfl:=Option.some.inj hy)|(replace hy:=Lib.hid hy))
 iterate 2 (all_goals try(rename _∧_=>ho;obtain⟨_,_⟩:=ho))
 iterate 7 (all_goals try(rename _∨_=>ho;rcases ho with ho|ho))
 all_goals(repeat (rename ¬ (_∨_)=>ho;rw[not_or] at ho;obtain⟨_,_⟩:=ho))
 all_goals(try have e56:((Res.ok s).kind == 56)=false:=by simp [*])
 all_goals go_enter Tryz.func117,Tryz.ntmps117
 all_goals exact zaf
open Go.RowKit
theorem zoO {C:Kc} {w:World} {b:Nat} {x:Res} (h:Hid (CAt C w b x)):Calls Tryz.prog 118 #[.pointer (some ⟨b,0,none⟩)] w fun e w'=>e=.returned (.bool (x.ahead 1 == 15 || x.ahead 1 == 16 || x.ahead 1 == 64 || x.ahead 1 == 61))∧Hid (CAt C w' b x):=by
 have HA:=Lib.hid (zhE h 1 zdD)
 clear h
 generalize x.ahead 1=z at *
 have hcase:∃ r:Bool,(z == 15 || z == 16 || z == 64 || z == 61)=r:=⟨_,rfl⟩
 obtain⟨r,hr⟩:=hcase
 by_cases h15:z=15
 ·subst h15
  all_goals exact zbd
 by_cases h16:z=16
 ·subst h16
  all_goals exact zbd
 by_cases h64:z=64
 ·subst h64
  all_goals exact zbd
 by_cases h61:z=61
 ·subst h61
  all_goals exact zbd
 have e15:(z == 15)=false:=beq_eq_false_iff_ne.2 h15
 have e16:(z == 16)=false:=beq_eq_false_iff_ne.2 h16
 have e64:(z == 64)=false:=beq_eq_false_iff_ne.2 h64
 have e61:(z == 61)=false:=beq_eq_false_iff_ne.2 h61
 rw[e15,e16,e64,e61]
 all_goals exact zbd
theorem zpd {C:Kc} {w:World} {b:Nat} {x:Res} (h:Hid (CAt C w b x)) {r:Bool} (hr:(x.ahead 1 == 15 || x.ahead 1 == 16 || x.ahead 1 == 64 || x.ahead 1 == 61)=r):Calls Tryz.prog 118 #[.pointer (some ⟨b,0,none⟩)] w fun e w'=>e=.returned (.bool r)∧Hid (CAt C w' b x):=by
 rw[← hr];exact zoO h
theorem zhR {n:Nat} (hn:n≤1099511627776) {C:Kc} {w:World} {b:Nat} {x z y:Res} (hat:Hid (CAt C w b x)) (h1:Hid (rName x=some z)) (h2:Hid (run n .names z=some y)):Calls Tryz.prog 84 #[.pointer (some ⟨b,0,none⟩),.int .i64 60,.func (.func 47) #[.pointer (some ⟨b,0,none⟩)] #[]] w fun e w'=>∃ c:Int,e=.returned (.int .i64 c)∧Hid (CAt C w' b y):=by
 refine(zmv (p:=.names) (n:=n) (g:=fun _=>rName) (A:=#[.pointer (some ⟨b,0,none⟩)]) (B:=#[]) (by':=60) hn zpR (fun k hk w x y h hy=>by rw[Array.append_empty];exact zik h hy) zdD (fun k s=>by rw[run]) hat h1 h2).mono ?_
 rintro e w' ⟨c,rfl,h,_⟩
 exact⟨c,rfl,h⟩
open Go.RowKit
theorem zvf {n:Nat} (hn:n≤1099511627776) (ih:∀ k,k≤n→AllC k):P0 79 (n+1) .field:=by
 have _:=ih
 intro C w b x y hat hy
 have hy:=hy.out
 cases x with
 |fail d0 d1 d2=>
  rw[zfB] at hy
  obtain rfl:=Option.some.inj hy
  clear hy
  have hk0:(Res.fail d0 d1 d2).kind=0:=rfl
  all_goals go_enter Tryz.func79,Tryz.ntmps79
  all_goals exact zaf
 |ok s=>
  have hlo:C.low≤s.R.length:=zgs hat
  rw[run] at hy
  try dsimp only at hy
  have HF:Hid (CFun C b 115 (#[.pointer (some ⟨b,0,none⟩)] ++ #[]) rQualified):=Lib.hid (fun w x y h hy=>by rw[Array.append_empty];exact ziK h hy)
  by_cases h22:(Res.ok s).kind=22
  ·rw[if_pos h22] at hy
   iterate 16 (all_goals try(first|split at hy|(rw[zfu] at hy;obtain⟨z,hz,hy⟩:=hy;try(rw[zfF] at hz;subst hz))))
   all_goals(first|(obtain rfl:=Option.some.inj hy)|(replace hy:=Lib.hid hy))
   iterate 2 (all_goals try(rename _∧_=>ho;obtain⟨_,_⟩:=ho))
   iterate 7 (all_goals try(rename _∨_=>ho;rcases ho with ho|ho))
   all_goals(repeat (rename ¬ (_∨_)=>ho;rw[not_or] at ho;obtain⟨_,_⟩:=ho))
   all_goals go_enter Tryz.func79,Tryz.ntmps79
   all_goals exact zaa
  ·rw[if_neg h22] at hy
   have e22:((Res.ok s).kind == 22)=false:=beq_eq_false_iff_ne.2 h22
   by_cases h10:(Res.ok s).kind=10
   ·by_cases hE:(Res.ok s).ahead 1=15∨(Res.ok s).ahead 1=16∨(Res.ok s).ahead 1=64∨(Res.ok s).ahead 1=61
    ·rw[if_pos ⟨h10,hE⟩] at hy
     have hr:((Res.ok s).ahead 1 == 15 || (Res.ok s).ahead 1 == 16 || (Res.ok s).ahead 1 == 64 || (Res.ok s).ahead 1 == 61)=true:=by simp only[Bool.or_eq_true,beq_iff_eq];rcases hE with h|h|h|h <;> simp [h]
     iterate 16 (all_goals try(first|split at hy|(rw[zfu] at hy;obtain⟨z,hz,hy⟩:=hy;try(rw[zfF] at hz;subst hz))))
     all_goals(first|(obtain rfl:=Option.some.inj hy)|(replace hy:=Lib.hid hy))
     iterate 2 (all_goals try(rename _∧_=>ho;obtain⟨_,_⟩:=ho))
     iterate 7 (all_goals try(rename _∨_=>ho;rcases ho with ho|ho))
     all_goals(repeat (rename ¬ (_∨_)=>ho;rw[not_or] at ho;obtain⟨_,_⟩:=ho))
     all_goals go_enter Tryz.func79,Tryz.ntmps79
     all_goals exact zaa
    ·rw[if_neg (fun h=>hE h.2)] at hy
     have hr:((Res.ok s).ahead 1 == 15 || (Res.ok s).ahead 1 == 16 || (Res.ok s).ahead 1 == 64 || (Res.ok s).ahead 1 == 61)=false:=by
      simp only[not_or] at hE
      simp [hE.1,hE.2.1,hE.2.2.1,hE.2.2.2]
     rw[zfu] at hy
     obtain⟨z1,hz1,hy⟩:=hy
     rw[zfu] at hy
     obtain⟨z2,hz2,hy⟩:=hy
     rw[zfu] at hy
     obtain⟨z3,hz3,hy⟩:=hy
     replace hy:=Lib.hid hy
     all_goals go_enter Tryz.func79,Tryz.ntmps79
     all_goals exact zaa
   ·rw[if_neg (fun h=>h10 h.1)] at hy
    have e10:((Res.ok s).kind == 10)=false:=beq_eq_false_iff_ne.2 h10
    rw[zfu] at hy
    obtain⟨z1,hz1,hy⟩:=hy
    rw[zfu] at hy
    obtain⟨z2,hz2,hy⟩:=hy
    rw[zfu] at hy
    obtain⟨z3,hz3,hy⟩:=hy
    replace hy:=Lib.hid hy
    all_goals go_enter Tryz.func79,Tryz.ntmps79
    all_goals exact zaa
end Go.Proofs.YtcekbbkidipbnaaGreat.rd
