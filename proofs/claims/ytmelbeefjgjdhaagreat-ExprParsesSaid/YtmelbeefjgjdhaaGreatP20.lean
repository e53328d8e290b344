/-
  Texts put together: Gn, Ha, Hb, Hc, He.
-/
import Derived.Test.YtmelbeefjgjdhaaGreatP19
import Derived.Shelf.Abstract
set_option maxRecDepth 100000
set_option maxHeartbeats 8000000
namespace Go.Proofs.YtmelbeefjgjdhaaGreat.rd
open Go.RowKit
theorem wrapped_any {C:Kc} {w:World} {b f:Nat} {A B:Array Value} {g:Res→Option Res} {s:St} {z1 z2 y:Res} {k:Int} (hf:Enters Tryz.prog f) (hg:CFun C b f (A ++ B) g) (h:Hid (CAt C w b (.ok s))) (h1:Hid (rTake (.ok s)=some z1)) (h2:Hid (g z1=some z2)) (h3:Hid (rClose s.R.length k z2=some y)) :
  Calls Tryz.prog 73 #[.pointer (some ⟨b,0,none⟩),.int .i64 k,.func (.func f) A B] w (CPost C b y):=by
 unfold CFun at hg
 have HG:=Lib.hid hg
 clear hg
 unfold Enters at hf
 go_enter Tryz.func73,Tryz.ntmps73
 go_wp2_with (first|(go_at_call 61;refine(cmark_at ‹_›).mono ?_;rintro e w' ⟨rfl,rfl⟩)|(go_at_call 31;refine(ctake_at ‹_› h1).mono ?_;rintro e w' ⟨v,rfl,hat⟩)|(go_at_call 37;refine(cclose_at _ _ _ _ _ _ _ _ ‹_› (fun _=>rfl) (fun _=>low_ok h) h3).mono ?_;rintro e w' ⟨v,rfl,hat⟩)|((with_reducible refine(HG.out _ _ _ ‹_› h2).mono ?_);rintro e w' ⟨v,rfl,hat⟩))
 go_end0
 exact⟨_,rfl,by assumption⟩
def Mp (C:Kc) (b:Nat) (y:Res) (p:Pc) (w:World) (k:Nat):Prop:=∃ x,Hid (CAt C w b x)∧Hid (run k p x=some y)
noncomputable def mpOf (C:Kc) (b:Nat) (y:Res) (p:Pc) (w:World):Nat:=least (Mp C b y p w)
def Mq (C:Kc) (b:Nat) (y:Res) (p:Pc) (n:Nat) (w:World):Prop:=∃ k,k≤n∧Mp C b y p w k
section
variable {C:Kc} {w:World} {b n:Nat} {x y:Res} {p:Pc}
theorem Mq.at (hat:Hid (CAt C w b x)) (h:Hid (run n p x=some y)):Mq C b y p n w:=⟨n,Nat.le_refl _,x,hat,h⟩
theorem Mq.out (h:Mq C b y p n w):(∃ d0 d1 d2,y=.fail d0 d1 d2∧Hid (CAt C w b (.fail d0 d1 d2)))∨∃ k s,k<n∧mpOf C b y p w=k+1∧Hid (CAt C w b (.ok s))∧run (k+1) p (.ok s)=some y:=by
 obtain⟨k,hk,hp⟩:=h
 obtain⟨⟨x,hat,hr⟩,hle⟩:=least_spec hp
 have he:least (Mp C b y p w)=mpOf C b y p w:=rfl
 rw[he] at hr hle
 generalize mpOf C b y p w=q at *
 cases x with
 |fail d0 d1 d2=>
  have:=hr.out
  rw[run_fail] at this
  exact .inl ⟨d0,d1,d2,(Option.some.inj this).symm,hat⟩
 |ok s=>
  cases q with
  |zero=>exact absurd hr.out (by unfold run;simp)
  |succ q=>exact .inr ⟨q,s,by omega,rfl,hat,hr.out⟩
theorem Mq.less {k:Nat} {w0:World} (hk:k≤n) (hat:Hid (CAt C w b x)) (h:Hid (run k p x=some y)) (hq:mpOf C b y p w0=k+1):Mq C b y p n w∧mpOf C b y p w<mpOf C b y p w0:=
 ⟨⟨k,hk,x,hat,h⟩,by have h2:mpOf C b y p w≤k:=(least_spec (P:=Mp C b y p w) ⟨x,hat,h⟩).2;omega⟩
end
def Lj (C:Kc) (b:Nat) (by':Int) (n:Nat) (y z:Res) (p:Pc) (v:Value) (w:World) (k:Nat):Prop:=∃ (c:Nat) (x:Res),v=.int .i64 (c:Int)∧1≤c∧c+k≤n+1∧Hid (CAt C w b x)∧Hid (run k p x=some y)∧(c=1→x=z)∧(c≠1→(z.kind == by')=true)
noncomputable def ljOf (C:Kc) (b:Nat) (by':Int) (n:Nat) (y z:Res) (p:Pc) (v:Value) (w:World):Nat:=least (Lj C b by' n y z p v w)
theorem Lj.least {C:Kc} {b n k:Nat} {by':Int} {y z:Res} {p:Pc} {v:Value} {w:World} (h:Lj C b by' n y z p v w k):Lj C b by' n y z p v w (ljOf C b by' n y z p v w)∧ljOf C b by' n y z p v w≤k:=least_spec h
theorem joined_any {C:Kc} {w:World} {b f n:Nat} {A B:Array Value} {g:Nat→Res→Option Res} {x z y:Res} {by':Int} {p:Pc} (hn:n≤1099511627776) (hf:Enters Tryz.prog f) (hg:∀ k,k≤n→CFun C b f (A ++ B) (g k)) (hb0:by'≠0)
  (hl:∀ k s,run (k+1) p (.ok s)=if (Res.ok s).kind=by' then(rTake (.ok s) >>= fun u=>g k u >>= fun v=>run k p v) else some (.ok s)) (h:Hid (CAt C w b x)) (h1:Hid (g n x=some z)) (h2:Hid (run n p z=some y)) :
  Calls Tryz.prog 84 #[.pointer (some ⟨b,0,none⟩),.int .i64 by',.func (.func f) A B] w fun e w'=>∃ c:Int,e=.returned (.int .i64 c)∧Hid (CAt C w' b y)∧(y.bad=false→decide (1<c)=(z.kind == by')):=by
 unfold CFun at hg
 have HG:=Lib.hid hg
 have HL:=Lib.hid hl
 have HB0:=Lib.hid hb0
 clear hg hl hb0
 unfold Enters at hf
 go_enter Tryz.func84,Tryz.ntmps84
 go_wp2_with ((with_reducible refine(HG.out _ ?hk _ _ _ ‹_› ‹_›).mono ?_);(case hk=>omega);rintro e w' ⟨v,rfl,hat⟩)
 go_loopw [7] (fun pv wr=>∃ k,Lj C b by' n y z p pv wr k) (fun pv wr=>ljOf C b by' n y z p pv wr)
 case atStart=>exact⟨n,1,z,rfl,by omega,by omega,by assumption,h2,fun _=>rfl,fun e=>absurd rfl e⟩
 case round=>
  clear h h1 h2
  obtain⟨k0,hlj⟩:=hrel
  obtain⟨c,x',rfl,hc1,hck,hat',hr,hi0,hi1⟩:=(hlj.least).1
  obtain⟨q,hq⟩:∃ q,ljOf C b by' n y z p (.int .i64 (c:Int)) wr=q:=⟨_,rfl⟩
  rw[hq] at hck hr
  have HQ:=Lib.hid hq
  have HI:=Lib.hid (And.intro hi0 hi1)
  clear hlj hq hi0 hi1
  cases x' with
  |fail d0 d1 d2=>
   have hk0:((Res.fail d0 d1 d2).kind == by')=false:=beq_eq_false_iff_ne.2 (fun e=>HB0.out e.symm)
   have hy:=hr.out
   rw[run_fail] at hy
   obtain rfl:=Option.some.inj hy
   clear hy
   go_wp2_with (go_at_call 83;first|(refine(ccame_yes ‹_› ‹_› ‹_›).mono ?_;rintro e w' ⟨rfl,hat⟩)|(refine(ccame_no ‹_› ?hno).mono ?_;(case hno=>first|assumption|rfl|simp [*]);rintro e w' ⟨rfl,hat⟩))
   go_ret
   exact⟨_,rfl,by assumption,fun h=>by cases h⟩
  |ok s=>
   cases q with
   |zero=>exact absurd hr.out (by unfold run;simp)
   |succ k=>
    have hy:=hr.out
    rw[HL.out] at hy
    by_cases hkb:(Res.ok s).kind=by'
    ·rw[if_pos hkb,bind_iff] at hy
     obtain⟨u,hu,hy⟩:=hy
     rw[bind_iff] at hy
     obtain⟨v1,hv1,hy⟩:=hy
     replace hy:=Lib.hid hy
     have hc2:(c:Int)+1≤1099511627777:=by omega
     clear hr
     go_wp2_with (first|(go_at_call 83;first|(refine(ccame_yes ‹_› ‹_› ‹_›).mono ?_;rintro e w' ⟨rfl,hat⟩)|(refine(ccame_no ‹_› ?hno).mono ?_;(case hno=>first|assumption|rfl|simp [*]);rintro e w' ⟨rfl,hat⟩))|((with_reducible refine(HG.out _ ?hk _ _ _ ‹_› ‹_›).mono ?_);(case hk=>omega);rintro e w' ⟨v,rfl,hat⟩))
     go_roundw
     case rel=>exact⟨k,c+1,v1,by go_num,by omega,by omega,by assumption,hy,fun e=>by omega,fun _=>by
      by_cases h1:c=1
      ·have:=HI.out.1 h1
       rw[← this]
       exact beq_iff_eq.2 hkb
      ·exact HI.out.2 h1⟩
     case measure=>
      have hL:Lj C b by' n y z p (.int .i64 ((c+1:Nat):Int)) w' k:=⟨c+1,v1,rfl,by omega,by omega,by assumption,hy,fun e=>by omega,fun _=>by
       by_cases h1:c=1
       ·have:=HI.out.1 h1
        rw[← this]
        exact beq_iff_eq.2 hkb
       ·exact HI.out.2 h1⟩
      have h3:=(hL.least).2
      have h4:=HQ.out
      have e1:((c+1:Nat):Int)=(c:Int)+1:=by omega
      rw[e1] at h3
      omega
    ·rw[if_neg hkb] at hy
     obtain rfl:=Option.some.inj hy
     have hno:((Res.ok s).kind == by')=false:=beq_eq_false_iff_ne.2 hkb
     clear hr hy
     go_wp2_with (go_at_call 83;first|(refine(ccame_yes ‹_› ‹_› ‹_›).mono ?_;rintro e w' ⟨rfl,hat⟩)|(refine(ccame_no ‹_› ?hno).mono ?_;(case hno=>first|assumption|rfl|simp [*]);rintro e w' ⟨rfl,hat⟩))
     go_ret
     refine⟨_,rfl,by assumption,fun _=>?_⟩
     by_cases h1:c=1
     ·have:=HI.out.1 h1
      rw[← this,hno]
      subst h1
      rfl
     ·rw[HI.out.2 h1]
      exact decide_eq_true (by omega)
theorem closeList_any {C:Kc} {w:World} {b f n:Nat} {A B:Array Value} {g:Nat→Res→Option Res} {x z y:Res} {p:Pc} (hf:Enters Tryz.prog f) (hg:∀ k,k≤n→CFun C b f (A ++ B) (g k))
  (hl:∀ k s,run (k+1) p (.ok s)=if (Res.ok s).kind=60 then(rTake (.ok s) >>= fun u=>if u.kind=63 then run k p u else g k u >>= fun v=>run k p v) else some (.ok s)) (h:Hid (CAt C w b x)) (h1:Hid (run n p x=some z)) (h2:Hid (rExpect 63 z=some y)) :
  Calls Tryz.prog 116 #[.pointer (some ⟨b,0,none⟩),.func (.func f) A B] w (CPost C b y):=by
 unfold CFun at hg
 have HG:=Lib.hid hg
 have HL:=Lib.hid hl
 clear hg hl
 unfold Enters at hf
 go_enter Tryz.func116,Tryz.ntmps116
 go_wp2_with fail
 go_loopw [] (fun wr=>Mq C b z p n wr) (fun wr=>mpOf C b z p wr)
 case atStart=>exact Mq.at ‹_› h1
 case round=>
  clear h h1
  rcases hrel.out with⟨d0,d1,d2,hu,hat⟩|⟨k,s',hk,hq,hat,hy⟩
  ·subst hu
   have hk0:((Res.fail d0 d1 d2).kind == 60)=false:=rfl
   go_wp2_with (first|(go_at_call 83;first|(refine(ccame_yes ‹_› ‹_› ‹_›).mono ?_;rintro e w' ⟨rfl,hat⟩)|(refine(ccame_no ‹_› ?hno).mono ?_;(case hno=>first|assumption|rfl|simp [*]);rintro e w' ⟨rfl,hat⟩))|(go_at_call 33;refine(cexpect_at ‹_› _ (by first|assumption|exact Lib.hid rfl)).mono ?_;rintro e w' ⟨rfl,hat⟩))
   go_end0
   exact⟨_,rfl,by assumption⟩
  ·rw[HL.out] at hy
   by_cases hkb:(Res.ok s').kind=60
   ·rw[if_pos hkb,bind_iff] at hy
    obtain⟨u,hu,hy⟩:=hy
    by_cases hk63:u.kind=63
    ·rw[if_pos hk63] at hy
     replace hy:=Lib.hid hy
     go_wp2_with (first|(go_at_call 83;first|(refine(ccame_yes ‹_› ‹_› ‹_›).mono ?_;rintro e w' ⟨rfl,hat⟩)|(refine(ccame_no ‹_› ?hno).mono ?_;(case hno=>first|assumption|rfl|simp [*]);rintro e w' ⟨rfl,hat⟩))|(go_at_call 57;first|(refine(ckind_is ‹_› ‹_›).mono ?_;rintro e w' ⟨rfl,hat⟩)|(refine(ckind_at ‹_›).mono ?_;rintro e w' ⟨rfl,hat⟩)))
     go_roundw
     case rel=>exact(Mq.less (by omega) ‹_› ‹_› hq).1
     case measure=>exact(Mq.less (n:=n) (by omega) ‹_› ‹_› hq).2
    ·rw[if_neg hk63,bind_iff] at hy
     obtain⟨v1,hv1,hy⟩:=hy
     replace hy:=Lib.hid hy
     have hno63:(u.kind == 63)=false:=beq_eq_false_iff_ne.2 hk63
     go_wp2_with (first|(go_at_call 83;first|(refine(ccame_yes ‹_› ‹_› ‹_›).mono ?_;rintro e w' ⟨rfl,hat⟩)|(refine(ccame_no ‹_› ?hno).mono ?_;(case hno=>first|assumption|rfl|simp [*]);rintro e w' ⟨rfl,hat⟩))|(go_at_call 57;first|(refine(ckind_is ‹_› ‹_›).mono ?_;rintro e w' ⟨rfl,hat⟩)|(refine(ckind_at ‹_›).mono ?_;rintro e w' ⟨rfl,hat⟩))|((with_reducible refine(HG.out _ ?hk _ _ _ ‹_› ‹_›).mono ?_);(case hk=>omega);rintro e w' ⟨v,rfl,hat⟩))
     go_roundw
     case rel=>exact(Mq.less (by omega) ‹_› ‹_› hq).1
     case measure=>exact(Mq.less (n:=n) (by omega) ‹_› ‹_› hq).2
   ·rw[if_neg hkb] at hy
    obtain rfl:=Option.some.inj hy
    have hno:((Res.ok s').kind == 60)=false:=beq_eq_false_iff_ne.2 hkb
    go_wp2_with (first|(go_at_call 83;first|(refine(ccame_yes ‹_› ‹_› ‹_›).mono ?_;rintro e w' ⟨rfl,hat⟩)|(refine(ccame_no ‹_› ?hno).mono ?_;(case hno=>first|assumption|rfl|simp [*]);rintro e w' ⟨rfl,hat⟩))|(go_at_call 33;refine(cexpect_at ‹_› _ (by first|assumption|exact Lib.hid rfl)).mono ?_;rintro e w' ⟨rfl,hat⟩))
    go_end0
    exact⟨_,rfl,by assumption⟩
theorem items_any {C:Kc} {w:World} {b f n:Nat} {A B:Array Value} {g:Nat→Res→Option Res} {x z1 z y:Res} {p:Pc} (hf:Enters Tryz.prog f) (hg:∀ k,k≤n→CFun C b f (A ++ B) (g k)) (hs:∀ k d0 d1 d2,g k (.fail d0 d1 d2)=some (.fail d0 d1 d2))
  (hl:∀ k s,run (k+1) p (.ok s)=if (Res.ok s).kind=64 then some (.ok s) else(g k (.ok s) >>= fun u=>if u.kind=15∨u.kind=16 then(rTake u >>= fun v=>run k p v) else some u)) (h:Hid (CAt C w b x)) (h0:Hid (rExpect 59 x=some z1)) (h1:Hid (run n p z1=some z)) (h2:Hid (rExpect 64 z=some y)) :
  Calls Tryz.prog 78 #[.pointer (some ⟨b,0,none⟩),.func (.func f) A B] w (CPost C b y):=by
 unfold CFun at hg
 have HG:=Lib.hid hg
 have HL:=Lib.hid hl
 have HS:=Lib.hid hs
 clear hg hl hs
 unfold Enters at hf
 go_enter Tryz.func78,Tryz.ntmps78
 go_wp2_with (go_at_call 33;refine(cexpect_at ‹_› _ (by first|assumption|exact Lib.hid rfl)).mono ?_;rintro e w' ⟨rfl,hat⟩)
 go_loopw [] (fun wr=>Mq C b z p n wr) (fun wr=>mpOf C b z p wr)
 case atStart=>exact Mq.at ‹_› h1
 case round=>
  clear h h1 h0
  rcases hrel.out with⟨d0,d1,d2,hu,hat⟩|⟨k,s',hk,hq,hat,hy⟩
  ·subst hu
   have hk0:(Res.fail d0 d1 d2).kind=0:=rfl
   have hs0:Hid (g 0 (.fail d0 d1 d2)=some (.fail d0 d1 d2)):=Lib.hid (HS.out _ _ _ _)
   go_wp2_with (first|(go_at_call 57;first|(refine(ckind_is ‹_› ‹_›).mono ?_;rintro e w' ⟨rfl,hat⟩)|(refine(ckind_at ‹_›).mono ?_;rintro e w' ⟨rfl,hat⟩))|(go_at_call 83;first|(refine(ccame_yes ‹_› ‹_› ‹_›).mono ?_;rintro e w' ⟨rfl,hat⟩)|(refine(ccame_no ‹_› ?hno).mono ?_;(case hno=>first|assumption|rfl|simp [*]);rintro e w' ⟨rfl,hat⟩))|((with_reducible refine(HG.out _ ?hk _ _ _ ‹_› ‹_›).mono ?_);(case hk=>omega);rintro e w' ⟨v,rfl,hat⟩)|(go_at_call 33;refine(cexpect_at ‹_› _ (by first|assumption|exact Lib.hid rfl)).mono ?_;rintro e w' ⟨rfl,hat⟩))
   go_end0
   exact⟨_,rfl,by assumption⟩
  ·rw[HL.out] at hy
   by_cases hkb:(Res.ok s').kind=64
   ·rw[if_pos hkb] at hy
    obtain rfl:=Option.some.inj hy
    go_wp2_with (first|(go_at_call 57;first|(refine(ckind_is ‹_› ‹_›).mono ?_;rintro e w' ⟨rfl,hat⟩)|(refine(ckind_at ‹_›).mono ?_;rintro e w' ⟨rfl,hat⟩))|(go_at_call 33;refine(cexpect_at ‹_› _ (by first|assumption|exact Lib.hid rfl)).mono ?_;rintro e w' ⟨rfl,hat⟩))
    go_end0
    exact⟨_,rfl,by assumption⟩
   ·rw[if_neg hkb,bind_iff] at hy
    obtain⟨u,hu,hy⟩:=hy
    have hno64:((Res.ok s').kind == 64)=false:=beq_eq_false_iff_ne.2 hkb
    by_cases h15:u.kind=15
    ·rw[if_pos (.inl h15),bind_iff] at hy
     obtain⟨v1,hv1,hy⟩:=hy
     replace hy:=Lib.hid hy
     go_wp2_with (first|(go_at_call 57;first|(refine(ckind_is ‹_› ‹_›).mono ?_;rintro e w' ⟨rfl,hat⟩)|(refine(ckind_at ‹_›).mono ?_;rintro e w' ⟨rfl,hat⟩))|(go_at_call 83;first|(refine(ccame_yes ‹_› ‹_› ‹_›).mono ?_;rintro e w' ⟨rfl,hat⟩)|(refine(ccame_no ‹_› ?hno).mono ?_;(case hno=>first|assumption|rfl|simp [*]);rintro e w' ⟨rfl,hat⟩))|((with_reducible refine(HG.out _ ?hk _ _ _ ‹_› ‹_›).mono ?_);(case hk=>omega);rintro e w' ⟨v,rfl,hat⟩))
     go_roundw
     case rel=>exact(Mq.less (by omega) ‹_› ‹_› hq).1
     case measure=>exact(Mq.less (n:=n) (by omega) ‹_› ‹_› hq).2
    ·by_cases h16:u.kind=16
     ·rw[if_pos (.inr h16),bind_iff] at hy
      obtain⟨v1,hv1,hy⟩:=hy
      replace hy:=Lib.hid hy
      go_wp2_with (first|(go_at_call 57;first|(refine(ckind_is ‹_› ‹_›).mono ?_;rintro e w' ⟨rfl,hat⟩)|(refine(ckind_at ‹_›).mono ?_;rintro e w' ⟨rfl,hat⟩))|(go_at_call 83;first|(refine(ccame_yes ‹_› ‹_› ‹_›).mono ?_;rintro e w' ⟨rfl,hat⟩)|(refine(ccame_no ‹_› ?hno).mono ?_;(case hno=>first|assumption|rfl|simp [*]);rintro e w' ⟨rfl,hat⟩))|((with_reducible refine(HG.out _ ?hk _ _ _ ‹_› ‹_›).mono ?_);(case hk=>omega);rintro e w' ⟨v,rfl,hat⟩))
      go_roundw
      case rel=>exact(Mq.less (by omega) ‹_› ‹_› hq).1
      case measure=>exact(Mq.less (n:=n) (by omega) ‹_› ‹_› hq).2
     ·rw[if_neg (by rintro(h|h);exact h15 h;exact h16 h)] at hy
      obtain rfl:=Option.some.inj hy
      go_wp2_with (first|(go_at_call 57;first|(refine(ckind_is ‹_› ‹_›).mono ?_;rintro e w' ⟨rfl,hat⟩)|(refine(ckind_at ‹_›).mono ?_;rintro e w' ⟨rfl,hat⟩))|(go_at_call 83;first|(refine(ccame_yes ‹_› ‹_› ‹_›).mono ?_;rintro e w' ⟨rfl,hat⟩)|(refine(ccame_no ‹_› ?hno).mono ?_;(case hno=>first|assumption|rfl|simp [*]);rintro e w' ⟨rfl,hat⟩))|((with_reducible refine(HG.out _ ?hk _ _ _ ‹_› ‹_›).mono ?_);(case hk=>omega);rintro e w' ⟨v,rfl,hat⟩)|(go_at_call 33;refine(cexpect_at ‹_› _ (by first|assumption|exact Lib.hid rfl)).mono ?_;rintro e w' ⟨rfl,hat⟩))
      go_end0
      exact⟨_,rfl,by assumption⟩
open Go.RowKit
def P0 (f n:Nat) (p:Pc):Prop:=∀ (C:Kc) (w:World) (b:Nat) (x y:Res),Hid (CAt C w b x)→Hid (run n p x=some y)→Calls Tryz.prog f #[.pointer (some ⟨b,0,none⟩)] w (CPost C b y)
def PB (f n:Nat) (p:Bool→Pc):Prop:=∀ (C:Kc) (w:World) (b:Nat) (x y:Res) (h:Bool),Hid (CAt C w b x)→Hid (run n (p h) x=some y)→Calls Tryz.prog f #[.pointer (some ⟨b,0,none⟩),.bool h] w (CPost C b y)
def PM (f n:Nat) (p:Nat→Pc):Prop:=∀ (C:Kc) (w:World) (b:Nat) (x y:Res) (m:Int) (m':Nat),Hid (CAt C w b x)→(x.bad=false→m=(m':Int))→(x.bad=false→C.low≤m')→Hid (run n (p m') x=some y)→Calls Tryz.prog f #[.pointer (some ⟨b,0,none⟩),.int .i64 m] w (CPost C b y)
def PBin (f n:Nat):Prop:=∀ (C:Kc) (w:World) (b:Nat) (x y:Res) (p:Int) (h:Bool),Hid (CAt C w b x)→Hid (run n (.binary p h) x=some y)→Calls Tryz.prog f #[.pointer (some ⟨b,0,none⟩),.bool h,.int .i64 p] w (CPost C b y)
def PArr (f n:Nat):Prop:=∀ (C:Kc) (w:World) (b:Nat) (s:St) (y:Res),Hid (CAt C w b (.ok s))→Hid (run n (.array s.R.length) (.ok s)=some y)→Calls Tryz.prog f #[.pointer (some ⟨b,0,none⟩)] w (CPost C b y)
def PVal (f n:Nat):Prop:=∀ (C:Kc) (w:World) (b:Nat) (x z y:Res) (m m' k:Int),Hid (CAt C w b x)→(x.bad=false→m=m')→(x.bad=false→(C.low:Int)≤m')→Hid (run n .values x=some z)→Hid (rClose m' k z=some y)→Calls Tryz.prog f #[.pointer (some ⟨b,0,none⟩),.int .i64 m,.int .i64 k] w (CPost C b y)
def PUni (f n:Nat):Prop:=∀ (C:Kc) (w:World) (b:Nat) (x z y:Res),Hid (CAt C w b x)→Hid (run n .term x=some z)→Hid (run n .unionL z=some y)→Calls Tryz.prog f #[.pointer (some ⟨b,0,none⟩)] w fun e w'=>∃ c:Int,e=.returned (.int .i64 c)∧Hid (CAt C w' b y)∧(y.bad=false→decide (1<c)=(z.kind == 26))
structure AllC (n:Nat):Prop where
 X:PB 22 n .X
 unary:PB 113 n .unary
 primary:PB 137 n .primary
 binary:PBin 71 n
 period:PM 154 n .period
 index:PM 155 n .index
 cut:PM 176 n .cut
 call:PM 156 n .call
 value:P0 190 n .value
 operand:P0 153 n .operand
 flat:P0 189 n .flat
 type:P0 23 n .type
 field:P0 79 n .field
 element:P0 81 n .element
 term:P0 140 n .term
 sig:P0 24 n .sig
 params:P0 53 n .params
 group:P0 82 n .group
 values:PVal 158 n
 array:PArr 75 n
theorem Res.kind_fail (a b c:Int):(Res.fail a b c).kind=0:=rfl
section
variable {C:Kc} {w:World} {b:Nat} {x y:Res}
theorem cname_at (h:Hid (CAt C w b x)) (hy:Hid (rName x=some y)):Calls Tryz.prog 47 #[.pointer (some ⟨b,0,none⟩)] w (CPost C b y):=by
 have hy:=hy.out
 cases x with
 |fail d0 d1 d2=>
  obtain rfl:=Option.some.inj hy
  clear hy
  have hk0:(Res.fail d0 d1 d2).kind=0:=rfl
  all_goals go_enter Tryz.func47,Tryz.ntmps47
  all_goals go_wp2_with (first|(go_at_call 61;first|(refine(cmark_at ‹_›).mono ?_;rintro e w' ⟨rfl,rfl⟩)|(refine(cmark_bad ‹_›).mono ?_;rintro e w' ⟨⟨v,_,rfl⟩,rfl⟩))|(go_at_call 33;refine(cexpect_at ‹_› _ (by first|with_reducible assumption|exact Lib.hid rfl|assumption|exact run_hid _ _ _ _ _)).mono ?_;rintro e w' ⟨rfl,hat⟩)|(go_at_call 37;refine(cclose_at _ _ _ _ _ _ _ _ ‹_› (by first|exact fun _=>rfl|assumption|exact fun hb=>by cases hb) (by first|exact fun _=>low_ok ‹_›|(intro _;omega)|(intro hb;cases hb;done)|assumption) (by first|with_reducible assumption|exact Lib.hid rfl|assumption|exact run_hid _ _ _ _ _)).mono ?_;rintro e w' ⟨v,rfl,hat⟩))
  all_goals(first|go_end0|go_ret)
  all_goals exact⟨_,rfl,by assumption⟩
 |ok s=>
  unfold rName at hy
  try dsimp only at hy
  iterate 16 (all_goals try(first|split at hy|(rw[bind_iff] at hy;obtain⟨z,hz,hy⟩:=hy;try(rw[some_hid] at hz;subst hz))))
  all_goals(first|(obtain rfl:=Option.some.inj hy)|(replace hy:=Lib.hid hy))
  iterate 2 (all_goals try(rename _∧_=>ho;obtain⟨_,_⟩:=ho))
  iterate 7 (all_goals try(rename _∨_=>ho;rcases ho with ho|ho))
  all_goals(repeat (rename ¬ (_∨_)=>ho;rw[not_or] at ho;obtain⟨_,_⟩:=ho))
  all_goals go_enter Tryz.func47,Tryz.ntmps47
  all_goals go_wp2_with (first|(go_at_call 61;first|(refine(cmark_at ‹_›).mono ?_;rintro e w' ⟨rfl,rfl⟩)|(refine(cmark_bad ‹_›).mono ?_;rintro e w' ⟨⟨v,_,rfl⟩,rfl⟩))|(go_at_call 33;refine(cexpect_at ‹_› _ (by first|with_reducible assumption|exact Lib.hid rfl|assumption|exact run_hid _ _ _ _ _)).mono ?_;rintro e w' ⟨rfl,hat⟩)|(go_at_call 37;refine(cclose_at _ _ _ _ _ _ _ _ ‹_› (by first|exact fun _=>rfl|assumption|exact fun hb=>by cases hb) (by first|exact fun _=>low_ok ‹_›|(intro _;omega)|(intro hb;cases hb;done)|assumption) (by first|with_reducible assumption|exact Lib.hid rfl|assumption|exact run_hid _ _ _ _ _)).mono ?_;rintro e w' ⟨v,rfl,hat⟩))
  all_goals(first|go_end0|go_ret)
  all_goals exact⟨_,rfl,by assumption⟩
theorem cqualified_at (h:Hid (CAt C w b x)) (hy:Hid (rQualified x=some y)):Calls Tryz.prog 115 #[.pointer (some ⟨b,0,none⟩)] w (CPost C b y):=by
 have hy:=hy.out
 cases x with
 |fail d0 d1 d2=>
  obtain rfl:=Option.some.inj hy
  clear hy
  have hk0:(Res.fail d0 d1 d2).kind=0:=rfl
  all_goals go_enter Tryz.func115,Tryz.ntmps115
  all_goals go_wp2_with (first|(go_at_call 61;first|(refine(cmark_at ‹_›).mono ?_;rintro e w' ⟨rfl,rfl⟩)|(refine(cmark_bad ‹_›).mono ?_;rintro e w' ⟨⟨v,_,rfl⟩,rfl⟩))|(go_at_call 47;refine(cname_at ‹_› (by first|with_reducible assumption|exact Lib.hid rfl|assumption|exact run_hid _ _ _ _ _)).mono ?_;rintro e w' ⟨v,rfl,hat⟩)|(go_at_call 83;first|(refine(ccame_yes ‹_› ‹_› (by first|with_reducible assumption|exact Lib.hid rfl|assumption|exact run_hid _ _ _ _ _)).mono ?_;rintro e w' ⟨rfl,hat⟩)|(refine(ccame_no ‹_› ?hno).mono ?_;(case hno=>first|assumption|rfl|simp [*]);rintro e w' ⟨rfl,hat⟩))|(go_at_call 37;refine(cclose_at _ _ _ _ _ _ _ _ ‹_› (by first|exact fun _=>rfl|assumption|exact fun hb=>by cases hb) (by first|exact fun _=>low_ok ‹_›|(intro _;omega)|(intro hb;cases hb;done)|assumption) (by first|with_reducible assumption|exact Lib.hid rfl|assumption|exact run_hid _ _ _ _ _)).mono ?_;rintro e w' ⟨v,rfl,hat⟩))
  all_goals(first|go_end0|go_ret)
  all_goals exact⟨_,rfl,by assumption⟩
 |ok s=>
  unfold rQualified at hy
  try dsimp only at hy
  iterate 16 (all_goals try(first|split at hy|(rw[bind_iff] at hy;obtain⟨z,hz,hy⟩:=hy;try(rw[some_hid] at hz;subst hz))))
  all_goals(first|(obtain rfl:=Option.some.inj hy)|(replace hy:=Lib.hid hy))
  iterate 2 (all_goals try(rename _∧_=>ho;obtain⟨_,_⟩:=ho))
  iterate 7 (all_goals try(rename _∨_=>ho;rcases ho with ho|ho))
  all_goals(repeat (rename ¬ (_∨_)=>ho;rw[not_or] at ho;obtain⟨_,_⟩:=ho))
  all_goals go_enter Tryz.func115,Tryz.ntmps115
  all_goals go_wp2_with (first|(go_at_call 61;first|(refine(cmark_at ‹_›).mono ?_;rintro e w' ⟨rfl,rfl⟩)|(refine(cmark_bad ‹_›).mono ?_;rintro e w' ⟨⟨v,_,rfl⟩,rfl⟩))|(go_at_call 47;refine(cname_at ‹_› (by first|with_reducible assumption|exact Lib.hid rfl|assumption|exact run_hid _ _ _ _ _)).mono ?_;rintro e w' ⟨v,rfl,hat⟩)|(go_at_call 83;first|(refine(ccame_yes ‹_› ‹_› (by first|with_reducible assumption|exact Lib.hid rfl|assumption|exact run_hid _ _ _ _ _)).mono ?_;rintro e w' ⟨rfl,hat⟩)|(refine(ccame_no ‹_› ?hno).mono ?_;(case hno=>first|assumption|rfl|simp [*]);rintro e w' ⟨rfl,hat⟩))|(go_at_call 37;refine(cclose_at _ _ _ _ _ _ _ _ ‹_› (by first|exact fun _=>rfl|assumption|exact fun hb=>by cases hb) (by first|exact fun _=>low_ok ‹_›|(intro _;omega)|(intro hb;cases hb;done)|assumption) (by first|with_reducible assumption|exact Lib.hid rfl|assumption|exact run_hid _ _ _ _ _)).mono ?_;rintro e w' ⟨v,rfl,hat⟩))
  all_goals(first|go_end0|go_ret)
  all_goals exact⟨_,rfl,by assumption⟩
end
open Go.RowKit
theorem cX_f:∀ (C:Kc) (w:World) (b:Nat) (d0 d1 d2:Int) (h:Bool),Hid (CAt C w b (.fail d0 d1 d2))→Calls Tryz.prog 22 #[.pointer (some ⟨b,0,none⟩),.bool h] w (CPost C b (.fail d0 d1 d2)):=by
 intro C w b d0 d1 d2 h hat
 have hk0:(Res.fail d0 d1 d2).kind=0:=rfl
 go_enter Tryz.func22,Tryz.ntmps22
 go_wp2_with (first|(go_at_call 41;refine(cdown_at ‹_› (by first|with_reducible assumption|exact Lib.hid rfl|assumption|exact run_hid _ _ _ _ _)).mono ?_;rintro e w' ⟨rfl,hat⟩))
 all_goals(first|go_end0|go_ret)
 all_goals exact⟨_,rfl,by assumption⟩
theorem cinside_f:∀ (C:Kc) (w:World) (b:Nat) (d0 d1 d2:Int),Hid (CAt C w b (.fail d0 d1 d2))→Calls Tryz.prog 139 #[.pointer (some ⟨b,0,none⟩)] w (CPost C b (.fail d0 d1 d2)):=by
 intro C w b d0 d1 d2 hat
 have hk0:(Res.fail d0 d1 d2).kind=0:=rfl
 go_enter Tryz.func139,Tryz.ntmps139
 go_wp2_with (first|(go_at_call 22;refine(cX_f _ _ _ _ _ _ _ ‹_›).mono ?_;rintro e w' ⟨v,rfl,hat⟩))
 all_goals(first|go_end0|go_ret)
 all_goals exact⟨_,rfl,by assumption⟩
theorem cType_f:∀ (C:Kc) (w:World) (b:Nat) (d0 d1 d2:Int),Hid (CAt C w b (.fail d0 d1 d2))→Calls Tryz.prog 23 #[.pointer (some ⟨b,0,none⟩)] w (CPost C b (.fail d0 d1 d2)):=by
 intro C w b d0 d1 d2 hat
 have hk0:(Res.fail d0 d1 d2).kind=0:=rfl
 go_enter Tryz.func23,Tryz.ntmps23
 go_wp2_with (first|(go_at_call 41;refine(cdown_at (by first|assumption|exact CAt.alloc ‹_› _) (by first|with_reducible assumption|exact Lib.hid rfl|assumption|exact run_hid _ _ _ _ _)).mono ?_;rintro e w' ⟨rfl,hat⟩))
 all_goals(first|go_end0|go_ret)
 all_goals exact⟨_,rfl,by assumption⟩
theorem coperand_f:∀ (C:Kc) (w:World) (b:Nat) (d0 d1 d2:Int),Hid (CAt C w b (.fail d0 d1 d2))→Calls Tryz.prog 153 #[.pointer (some ⟨b,0,none⟩)] w (CPost C b (.fail d0 d1 d2)):=by
 intro C w b d0 d1 d2 hat
 have hk0:(Res.fail d0 d1 d2).kind=0:=rfl
 go_enter Tryz.func153,Tryz.ntmps153
 go_wp2_with (first|(go_at_call 61;first|(refine(cmark_at ‹_›).mono ?_;rintro e w' ⟨rfl,rfl⟩)|(refine(cmark_bad ‹_›).mono ?_;rintro e w' ⟨⟨v,_,rfl⟩,rfl⟩))|(go_at_call 57;first|(refine(ckind_is ‹_› ‹_›).mono ?_;rintro e w' ⟨rfl,hat⟩)|(refine(ckind_at ‹_›).mono ?_;rintro e w' ⟨rfl,hat⟩))|(go_at_call 45;refine(cfail_at ‹_› _ (by first|with_reducible assumption|exact Lib.hid rfl|assumption|exact run_hid _ _ _ _ _)).mono ?_;rintro e w' ⟨v,rfl,hat⟩))
 all_goals(first|go_end0|go_ret)
 all_goals exact⟨_,rfl,by assumption⟩
theorem cprimary_f:∀ (C:Kc) (w:World) (b:Nat) (d0 d1 d2:Int) (h:Bool),Hid (CAt C w b (.fail d0 d1 d2))→Calls Tryz.prog 137 #[.pointer (some ⟨b,0,none⟩),.bool h] w (CPost C b (.fail d0 d1 d2)):=by
 intro C w b d0 d1 d2 h hat
 have hk0:(Res.fail d0 d1 d2).kind=0:=rfl
 go_enter Tryz.func137,Tryz.ntmps137
 go_wp2_with (first|(go_at_call 61;first|(refine(cmark_at ‹_›).mono ?_;rintro e w' ⟨rfl,rfl⟩)|(refine(cmark_bad ‹_›).mono ?_;rintro e w' ⟨⟨v,_,rfl⟩,rfl⟩))|(go_at_call 153;refine(coperand_f _ _ _ _ _ _ ‹_›).mono ?_;rintro e w' ⟨v,rfl,hat⟩)|(go_at_call 57;first|(refine(ckind_is ‹_› ‹_›).mono ?_;rintro e w' ⟨rfl,hat⟩)|(refine(ckind_at ‹_›).mono ?_;rintro e w' ⟨rfl,hat⟩)))
 go_step3
 go_wp2_with (first|(go_at_call 61;first|(refine(cmark_at ‹_›).mono ?_;rintro e w' ⟨rfl,rfl⟩)|(refine(cmark_bad ‹_›).mono ?_;rintro e w' ⟨⟨v,_,rfl⟩,rfl⟩))|(go_at_call 153;refine(coperand_f _ _ _ _ _ _ ‹_›).mono ?_;rintro e w' ⟨v,rfl,hat⟩)|(go_at_call 57;first|(refine(ckind_is ‹_› ‹_›).mono ?_;rintro e w' ⟨rfl,hat⟩)|(refine(ckind_at ‹_›).mono ?_;rintro e w' ⟨rfl,hat⟩)))
 go_step3
 go_wp2_with (first|(go_at_call 61;first|(refine(cmark_at ‹_›).mono ?_;rintro e w' ⟨rfl,rfl⟩)|(refine(cmark_bad ‹_›).mono ?_;rintro e w' ⟨⟨v,_,rfl⟩,rfl⟩))|(go_at_call 153;refine(coperand_f _ _ _ _ _ _ ‹_›).mono ?_;rintro e w' ⟨v,rfl,hat⟩)|(go_at_call 57;first|(refine(ckind_is ‹_› ‹_›).mono ?_;rintro e w' ⟨rfl,hat⟩)|(refine(ckind_at ‹_›).mono ?_;rintro e w' ⟨rfl,hat⟩)))
 go_loopw [] (fun wr=>Hid (CAt C wr b (.fail d0 d1 d2))) (fun _=>0)
 case atStart=>assumption
 case round=>
  have hat:=hrel
  go_wp2_with (first|(go_at_call 61;first|(refine(cmark_at ‹_›).mono ?_;rintro e w' ⟨rfl,rfl⟩)|(refine(cmark_bad ‹_›).mono ?_;rintro e w' ⟨⟨v,_,rfl⟩,rfl⟩))|(go_at_call 153;refine(coperand_f _ _ _ _ _ _ ‹_›).mono ?_;rintro e w' ⟨v,rfl,hat⟩)|(go_at_call 57;first|(refine(ckind_is ‹_› ‹_›).mono ?_;rintro e w' ⟨rfl,hat⟩)|(refine(ckind_at ‹_›).mono ?_;rintro e w' ⟨rfl,hat⟩)))
  all_goals(try rw[Exit.noGoto_ret])
  all_goals(first|go_end0|go_ret)
  all_goals exact⟨_,rfl,by assumption⟩
theorem cunary_f:∀ (C:Kc) (w:World) (b:Nat) (d0 d1 d2:Int) (h:Bool),Hid (CAt C w b (.fail d0 d1 d2))→Calls Tryz.prog 113 #[.pointer (some ⟨b,0,none⟩),.bool h] w (CPost C b (.fail d0 d1 d2)):=by
 intro C w b d0 d1 d2 h hat
 have hk0:(Res.fail d0 d1 d2).kind=0:=rfl
 go_enter Tryz.func113,Tryz.ntmps113
 go_wp2_with (first|(go_at_call 57;first|(refine(ckind_is ‹_› ‹_›).mono ?_;rintro e w' ⟨rfl,hat⟩)|(refine(ckind_at ‹_›).mono ?_;rintro e w' ⟨rfl,hat⟩))|(go_at_call 137;refine(cprimary_f _ _ _ _ _ _ _ ‹_›).mono ?_;rintro e w' ⟨v,rfl,hat⟩))
 all_goals(first|go_end0|go_ret)
 all_goals exact⟨_,rfl,by assumption⟩
theorem cbinary_f:∀ (C:Kc) (w:World) (b:Nat) (d0 d1 d2:Int) (p:Int) (h:Bool),Hid (CAt C w b (.fail d0 d1 d2))→Calls Tryz.prog 71 #[.pointer (some ⟨b,0,none⟩),.bool h,.int .i64 p] w (CPost C b (.fail d0 d1 d2)):=by
 intro C w b d0 d1 d2 p h hat
 have hk0:(Res.fail d0 d1 d2).kind=0:=rfl
 go_enter Tryz.func71,Tryz.ntmps71
 go_wp2_with (first|(go_at_call 61;first|(refine(cmark_at ‹_›).mono ?_;rintro e w' ⟨rfl,rfl⟩)|(refine(cmark_bad ‹_›).mono ?_;rintro e w' ⟨⟨v,_,rfl⟩,rfl⟩))|(go_at_call 113;refine(cunary_f _ _ _ _ _ _ _ ‹_›).mono ?_;rintro e w' ⟨v,rfl,hat⟩)|(go_at_call 57;first|(refine(ckind_is ‹_› ‹_›).mono ?_;rintro e w' ⟨rfl,hat⟩)|(refine(ckind_at ‹_›).mono ?_;rintro e w' ⟨rfl,hat⟩))|(go_at_call 114;refine(cPrec_any _ _).mono ?_;rintro e w' ⟨rfl,rfl⟩))
 go_loopw [] (fun wr=>Hid (CAt C wr b (.fail d0 d1 d2))) (fun _=>0)
 case atStart=>assumption
 case round=>
  have hat:=hrel
  go_wp2_with (first|(go_at_call 61;first|(refine(cmark_at ‹_›).mono ?_;rintro e w' ⟨rfl,rfl⟩)|(refine(cmark_bad ‹_›).mono ?_;rintro e w' ⟨⟨v,_,rfl⟩,rfl⟩))|(go_at_call 113;refine(cunary_f _ _ _ _ _ _ _ ‹_›).mono ?_;rintro e w' ⟨v,rfl,hat⟩)|(go_at_call 57;first|(refine(ckind_is ‹_› ‹_›).mono ?_;rintro e w' ⟨rfl,hat⟩)|(refine(ckind_at ‹_›).mono ?_;rintro e w' ⟨rfl,hat⟩))|(go_at_call 114;refine(cPrec_any _ _).mono ?_;rintro e w' ⟨rfl,rfl⟩))
  all_goals(first|go_end0|go_ret)
  all_goals exact⟨_,rfl,by assumption⟩
theorem cvalue_f:∀ (C:Kc) (w:World) (b:Nat) (d0 d1 d2:Int),Hid (CAt C w b (.fail d0 d1 d2))→Calls Tryz.prog 190 #[.pointer (some ⟨b,0,none⟩)] w (CPost C b (.fail d0 d1 d2)):=by
 intro C w b d0 d1 d2 hat
 have hk0:(Res.fail d0 d1 d2).kind=0:=rfl
 go_enter Tryz.func190,Tryz.ntmps190
 go_wp2_with (first|(go_at_call 57;first|(refine(ckind_is ‹_› ‹_›).mono ?_;rintro e w' ⟨rfl,hat⟩)|(refine(ckind_at ‹_›).mono ?_;rintro e w' ⟨rfl,hat⟩))|(go_at_call 139;refine(cinside_f _ _ _ _ _ _ ‹_›).mono ?_;rintro e w' ⟨v,rfl,hat⟩))
 all_goals(first|go_end0|go_ret)
 all_goals exact⟨_,rfl,by assumption⟩
theorem cdotted_f:∀ (C:Kc) (w:World) (b:Nat) (d0 d1 d2:Int),Hid (CAt C w b (.fail d0 d1 d2))→Calls Tryz.prog 129 #[.pointer (some ⟨b,0,none⟩)] w (CPost C b (.fail d0 d1 d2)):=by
 intro C w b d0 d1 d2 hat
 have hk0:(Res.fail d0 d1 d2).kind=0:=rfl
 go_enter Tryz.func129,Tryz.ntmps129
 go_wp2_with (first|(go_at_call 57;first|(refine(ckind_is ‹_› ‹_›).mono ?_;rintro e w' ⟨rfl,hat⟩)|(refine(ckind_at ‹_›).mono ?_;rintro e w' ⟨rfl,hat⟩))|(go_at_call 23;refine(cType_f _ _ _ _ _ _ ‹_›).mono ?_;rintro e w' ⟨v,rfl,hat⟩))
 all_goals(first|go_end0|go_ret)
 all_goals exact⟨_,rfl,by assumption⟩
open Go.RowKit
theorem cinside_at {n:Nat} {C:Kc} {w:World} {b:Nat} {x y:Res} (ih:AllC n) (h:Hid (CAt C w b x)) (hy:Hid (run n (.X false) x=some y)):Calls Tryz.prog 139 #[.pointer (some ⟨b,0,none⟩)] w (CPost C b y):=by
 go_enter Tryz.func139,Tryz.ntmps139
 go_wp2_with (go_at_call 22;refine(ih.X _ _ _ _ _ _ h hy).mono ?_;rintro e w' ⟨v,rfl,hat⟩)
 go_end0
 exact⟨_,rfl,by assumption⟩
theorem cX_s {n:Nat} (ih:∀ k,k≤n→AllC k):PB 22 (n+1) .X:=by
 have _:=ih
 intro C w b x y h hat hy
 have hy:=hy.out
 cases x with
 |fail d0 d1 d2=>
  rw[run_fail] at hy
  obtain rfl:=Option.some.inj hy
  exact cX_f _ _ _ _ _ _ _ hat
 |ok s=>
  have hlo:C.low≤s.R.length:=low_nat hat
  rw[run] at hy
  try dsimp only at hy
  obtain⟨z,hz,hy⟩:=bind_some hy
  cases z with
  |fail a0 a1 a2=>
   simp only[run_fail,rUp_f,Option.bind_eq_bind,Option.bind_some] at hy
   obtain rfl:=Option.some.inj hy
   clear hy
   all_goals go_enter Tryz.func22,Tryz.ntmps22
   all_goals go_wp2_with (first|(go_at_call 41;refine(cdown_at ‹_› (by first|with_reducible assumption|exact Lib.hid rfl|assumption|exact run_hid _ _ _ _ _)).mono ?_;rintro e w' ⟨rfl,hat⟩)|(go_at_call 71;first|(refine((ih _ ?hk).binary _ _ _ _ _ _ _ ‹_› ‹_›).mono ?_;(case hk=>omega);rintro e w' ⟨v,rfl,hat⟩)|(refine(cbinary_f _ _ _ _ _ _ _ _ ‹_›).mono ?_;rintro e w' ⟨v,rfl,hat⟩))|(go_at_call 43;refine(cup_at ‹_› (by first|with_reducible assumption|exact Lib.hid rfl|assumption|exact run_hid _ _ _ _ _)).mono ?_;rintro e w' ⟨v,rfl,hat⟩))
   all_goals(first|go_end0|go_ret)
   all_goals exact⟨_,rfl,by assumption⟩
  |ok t=>
   iterate 16 (all_goals try(first|split at hy|(rw[bind_iff] at hy;obtain⟨z,hz,hy⟩:=hy;try(rw[some_hid] at hz;subst hz))))
   all_goals(first|(obtain rfl:=Option.some.inj hy)|(replace hy:=Lib.hid hy))
   iterate 2 (all_goals try(rename _∧_=>ho;obtain⟨_,_⟩:=ho))
   iterate 7 (all_goals try(rename _∨_=>ho;rcases ho with ho|ho))
   all_goals(repeat (rename ¬ (_∨_)=>ho;rw[not_or] at ho;obtain⟨_,_⟩:=ho))
   all_goals go_enter Tryz.func22,Tryz.ntmps22
   all_goals go_wp2_with (first|(go_at_call 41;refine(cdown_at ‹_› (by first|with_reducible assumption|exact Lib.hid rfl|assumption|exact run_hid _ _ _ _ _)).mono ?_;rintro e w' ⟨rfl,hat⟩)|(go_at_call 71;first|(refine((ih _ ?hk).binary _ _ _ _ _ _ _ ‹_› ‹_›).mono ?_;(case hk=>omega);rintro e w' ⟨v,rfl,hat⟩)|(refine(cbinary_f _ _ _ _ _ _ _ _ ‹_›).mono ?_;rintro e w' ⟨v,rfl,hat⟩))|(go_at_call 43;refine(cup_at ‹_› (by first|with_reducible assumption|exact Lib.hid rfl|assumption|exact run_hid _ _ _ _ _)).mono ?_;rintro e w' ⟨v,rfl,hat⟩))
   all_goals(first|go_end0|go_ret)
   all_goals exact⟨_,rfl,by assumption⟩
theorem coperated_s {n:Nat} (ih:∀ k,k≤n→AllC k) {C:Kc} {w:World} {b:Nat} {s:St} {z1 z2 z3 z4 y:Res} {h:Bool} {k:Int} (hat:Hid (CAt C w b (.ok s))) (h1:Hid (rTake (.ok s)=some z1)) (h2:Hid (rDown z1=some z2)) (h3:Hid (run n (.unary h) z2=some z3)) (h4:Hid (rUp z3=some z4)) (h5:Hid (rClose s.R.length k z4=some y)):Calls Tryz.prog 136 #[.pointer (some ⟨b,0,none⟩),.bool h,.int .i64 k] w (CPost C b y):=by
 have _:=ih
 cases z2 with
 |fail a0 a1 a2=>
  have e3:=h3.out
  rw[run_fail] at e3
  obtain rfl:=Option.some.inj e3
  have e4:=h4.out
  obtain rfl:=Option.some.inj e4
  clear e3 e4
  all_goals go_enter Tryz.func136,Tryz.ntmps136
  all_goals go_wp2_with (first|(go_at_call 61;first|(refine(cmark_at ‹_›).mono ?_;rintro e w' ⟨rfl,rfl⟩)|(refine(cmark_bad ‹_›).mono ?_;rintro e w' ⟨⟨v,_,rfl⟩,rfl⟩))|(go_at_call 31;refine(ctake_at ‹_› (by first|with_reducible assumption|exact Lib.hid rfl|assumption|exact run_hid _ _ _ _ _)).mono ?_;rintro e w' ⟨v,rfl,hat⟩)|(go_at_call 41;refine(cdown_at ‹_› (by first|with_reducible assumption|exact Lib.hid rfl|assumption|exact run_hid _ _ _ _ _)).mono ?_;rintro e w' ⟨rfl,hat⟩)|(go_at_call 113;first|(refine((ih _ ?hk).unary _ _ _ _ _ _ ‹_› ‹_›).mono ?_;(case hk=>omega);rintro e w' ⟨v,rfl,hat⟩)|(refine(cunary_f _ _ _ _ _ _ _ ‹_›).mono ?_;rintro e w' ⟨v,rfl,hat⟩))|(go_at_call 43;refine(cup_at ‹_› (by first|with_reducible assumption|exact Lib.hid rfl|assumption|exact run_hid _ _ _ _ _)).mono ?_;rintro e w' ⟨v,rfl,hat⟩)|(go_at_call 37;refine(cclose_at _ _ _ _ _ _ _ _ ‹_› (by first|exact fun _=>rfl|assumption|exact fun hb=>by cases hb) (by first|exact fun _=>low_ok ‹_›|(intro _;omega)|(intro hb;cases hb;done)|assumption) (by first|with_reducible assumption|exact Lib.hid rfl|assumption|exact run_hid _ _ _ _ _)).mono ?_;rintro e w' ⟨v,rfl,hat⟩))
  all_goals(first|go_end0|go_ret)
  all_goals exact⟨_,rfl,by assumption⟩
 |ok t=>
  all_goals go_enter Tryz.func136,Tryz.ntmps136
  all_goals go_wp2_with (first|(go_at_call 61;first|(refine(cmark_at ‹_›).mono ?_;rintro e w' ⟨rfl,rfl⟩)|(refine(cmark_bad ‹_›).mono ?_;rintro e w' ⟨⟨v,_,rfl⟩,rfl⟩))|(go_at_call 31;refine(ctake_at ‹_› (by first|with_reducible assumption|exact Lib.hid rfl|assumption|exact run_hid _ _ _ _ _)).mono ?_;rintro e w' ⟨v,rfl,hat⟩)|(go_at_call 41;refine(cdown_at ‹_› (by first|with_reducible assumption|exact Lib.hid rfl|assumption|exact run_hid _ _ _ _ _)).mono ?_;rintro e w' ⟨rfl,hat⟩)|(go_at_call 113;first|(refine((ih _ ?hk).unary _ _ _ _ _ _ ‹_› ‹_›).mono ?_;(case hk=>omega);rintro e w' ⟨v,rfl,hat⟩)|(refine(cunary_f _ _ _ _ _ _ _ ‹_›).mono ?_;rintro e w' ⟨v,rfl,hat⟩))|(go_at_call 43;refine(cup_at ‹_› (by first|with_reducible assumption|exact Lib.hid rfl|assumption|exact run_hid _ _ _ _ _)).mono ?_;rintro e w' ⟨v,rfl,hat⟩)|(go_at_call 37;refine(cclose_at _ _ _ _ _ _ _ _ ‹_› (by first|exact fun _=>rfl|assumption|exact fun hb=>by cases hb) (by first|exact fun _=>low_ok ‹_›|(intro _;omega)|(intro hb;cases hb;done)|assumption) (by first|with_reducible assumption|exact Lib.hid rfl|assumption|exact run_hid _ _ _ _ _)).mono ?_;rintro e w' ⟨v,rfl,hat⟩))
  all_goals(first|go_end0|go_ret)
  all_goals exact⟨_,rfl,by assumption⟩
theorem cunary_s {n:Nat} (ih:∀ k,k≤n→AllC k):PB 113 (n+1) .unary:=by
 have _:=ih
 intro C w b x y h hat hy
 have hy:=hy.out
 cases x with
 |fail d0 d1 d2=>
  rw[run_fail] at hy
  obtain rfl:=Option.some.inj hy
  exact cunary_f _ _ _ _ _ _ _ hat
 |ok s=>
  have hlo:C.low≤s.R.length:=low_nat hat
  rw[run] at hy
  try dsimp only at hy
  iterate 16 (all_goals try(first|split at hy|(rw[bind_iff] at hy;obtain⟨z,hz,hy⟩:=hy;try(rw[some_hid] at hz;subst hz))))
  all_goals(first|(obtain rfl:=Option.some.inj hy)|(replace hy:=Lib.hid hy))
  iterate 2 (all_goals try(rename _∧_=>ho;obtain⟨_,_⟩:=ho))
  iterate 7 (all_goals try(rename _∨_=>ho;rcases ho with ho|ho))
  all_goals(repeat (rename ¬ (_∨_)=>ho;rw[not_or] at ho;obtain⟨_,_⟩:=ho))
  all_goals(try have e20:((Res.ok s).kind == 20)=false:=by simp [*])
  all_goals(try have e21:((Res.ok s).kind == 21)=false:=by simp [*])
  all_goals(try have e50:((Res.ok s).kind == 50)=false:=by simp [*])
  all_goals(try have e27:((Res.ok s).kind == 27)=false:=by simp [*])
  all_goals(try have e25:((Res.ok s).kind == 25)=false:=by simp [*])
  all_goals(try have e22:((Res.ok s).kind == 22)=false:=by simp [*])
  all_goals go_enter Tryz.func113,Tryz.ntmps113
  all_goals go_wp2_with (first|(go_at_call 57;first|(refine(ckind_is ‹_› ‹_›).mono ?_;rintro e w' ⟨rfl,hat⟩)|(refine(ckind_at ‹_›).mono ?_;rintro e w' ⟨rfl,hat⟩))|(go_at_call 137;first|(refine((ih _ ?hk).primary _ _ _ _ _ _ ‹_› ‹_›).mono ?_;(case hk=>omega);rintro e w' ⟨v,rfl,hat⟩)|(refine(cprimary_f _ _ _ _ _ _ _ ‹_›).mono ?_;rintro e w' ⟨v,rfl,hat⟩))|(go_at_call 136;refine(coperated_s (n:=n) (fun k hk=>ih k (by omega)) ‹_› ‹_› ‹_› ‹_› ‹_› ‹_›).mono ?_;rintro e w' ⟨v,rfl,hat⟩))
  all_goals(first|go_end0|go_ret)
  all_goals exact⟨_,rfl,by assumption⟩
open Go.RowKit
theorem rNone_kind {x z:Res} (h:Hid (rNone x=some z)):z.kind=x.kind:=by
 have h:=h.out
 cases x with
 |fail a b c=>obtain rfl:=Option.some.inj h;rfl
 |ok s=>obtain⟨rfl,_⟩:=chk_ok h;rfl
theorem rNone_fail {x z y:Res} (h:Hid (rNone x=some z)) (c:Int) (hy:rFail c z=some y):rFail c x=some y:=by
 have h:=h.out
 cases x with
 |fail a b c=>obtain rfl:=Option.some.inj h;exact hy
 |ok s=>obtain⟨rfl,_⟩:=chk_ok h;exact hy
theorem rExpect_take {x y:Res} {k:Int} (hk:x.kind=k) (h0:k≠0) (h:Hid (rTake x=some y)):Hid (rExpect k x=some y):=by
 have h:=h.out
 cases x with
 |fail a b c=>exact absurd hk.symm h0
 |ok s=>
  refine Lib.hid ?_
  unfold rExpect lift St.expect
  simp only[]
  rw[if_pos ⟨h0,hk⟩]
  exact h
theorem inside_enters:Enters Tryz.prog 139:=enters_of Tryz.func139 (by kernel_rfl) rfl
theorem ccloseX_s {n:Nat} {C:Kc} {w:World} {b:Nat} {x z y:Res} (hat:Hid (CAt C w b x)) (h1:Hid (run n .idxL x=some z)) (h2:Hid (rExpect 63 z=some y)) (ih:∀ k,k≤n→AllC k):Calls Tryz.prog 116 #[.pointer (some ⟨b,0,none⟩),.func (.func 139) #[.pointer (some ⟨b,0,none⟩)] #[]] w (CPost C b y):=
 closeList_any (p:=.idxL) (n:=n) (g:=fun k=>run k (.X false)) inside_enters (fun k hk w x y h hy=>by rw[Array.append_empty];exact cinside_at (ih k hk) h hy) (fun k s=>by rw[run]) hat h1 h2
theorem ckeyed_s {n:Nat} {C:Kc} {w:World} {b:Nat} {s:St} {z:Res} {y:Res} (hat:Hid (CAt C w b (.ok s))) (h1:Hid (run n .value (.ok s)=some z)) (h2:Hid ((if z.kind=65 then(rTake z >>= fun u=>run n .value u >>= fun v=>rClose s.R.length 215 v) else some z)=some y)) (ih:∀ k,k≤n→AllC k):Calls Tryz.prog 177 #[.pointer (some ⟨b,0,none⟩)] w (CPost C b y):=by
 have _:=ih
 have hy:=h2.out
 clear h2
 iterate 16 (all_goals try(first|split at hy|(rw[bind_iff] at hy;obtain⟨z,hz,hy⟩:=hy;try(rw[some_hid] at hz;subst hz))))
 all_goals(first|(obtain rfl:=Option.some.inj hy)|(replace hy:=Lib.hid hy))
 iterate 2 (all_goals try(rename _∧_=>ho;obtain⟨_,_⟩:=ho))
 iterate 7 (all_goals try(rename _∨_=>ho;rcases ho with ho|ho))
 all_goals(repeat (rename ¬ (_∨_)=>ho;rw[not_or] at ho;obtain⟨_,_⟩:=ho))
 all_goals go_enter Tryz.func177,Tryz.ntmps177
 all_goals go_wp2_with (first|(go_at_call 61;first|(refine(cmark_at ‹_›).mono ?_;rintro e w' ⟨rfl,rfl⟩)|(refine(cmark_bad ‹_›).mono ?_;rintro e w' ⟨⟨v,_,rfl⟩,rfl⟩))|(go_at_call 190;first|(refine((ih _ ?hk).value _ _ _ _ _ ‹_› ‹_›).mono ?_;(case hk=>omega);rintro e w' ⟨v,rfl,hat⟩)|(refine(cvalue_f _ _ _ _ _ _ ‹_›).mono ?_;rintro e w' ⟨v,rfl,hat⟩))|(go_at_call 83;first|(refine(ccame_yes ‹_› ‹_› (by first|with_reducible assumption|exact Lib.hid rfl|assumption|exact run_hid _ _ _ _ _)).mono ?_;rintro e w' ⟨rfl,hat⟩)|(refine(ccame_no ‹_› ?hno).mono ?_;(case hno=>first|assumption|rfl|simp [*]);rintro e w' ⟨rfl,hat⟩))|(go_at_call 37;refine(cclose_at _ _ _ _ _ _ _ _ ‹_› (by first|exact fun _=>rfl|assumption|exact fun hb=>by cases hb) (by first|exact fun _=>low_ok ‹_›|(intro _;omega)|(intro hb;cases hb;done)|assumption) (by first|with_reducible assumption|exact Lib.hid rfl|assumption|exact run_hid _ _ _ _ _)).mono ?_;rintro e w' ⟨v,rfl,hat⟩))
 all_goals(first|go_end0|go_ret)
 all_goals exact⟨_,rfl,by assumption⟩
theorem ckeyed_f:∀ (C:Kc) (w:World) (b:Nat) (d0 d1 d2:Int),Hid (CAt C w b (.fail d0 d1 d2))→Calls Tryz.prog 177 #[.pointer (some ⟨b,0,none⟩)] w (CPost C b (.fail d0 d1 d2)):=by
 intro C w b d0 d1 d2 hat
 have hk0:(Res.fail d0 d1 d2).kind=0:=rfl
 go_enter Tryz.func177,Tryz.ntmps177
 go_wp2_with (first|(go_at_call 61;first|(refine(cmark_at ‹_›).mono ?_;rintro e w' ⟨rfl,rfl⟩)|(refine(cmark_bad ‹_›).mono ?_;rintro e w' ⟨⟨v,_,rfl⟩,rfl⟩))|(go_at_call 190;refine(cvalue_f _ _ _ _ _ _ ‹_›).mono ?_;rintro e w' ⟨v,rfl,hat⟩)|(go_at_call 83;first|(refine(ccame_yes ‹_› ‹_› (by first|with_reducible assumption|exact Lib.hid rfl|assumption|exact run_hid _ _ _ _ _)).mono ?_;rintro e w' ⟨rfl,hat⟩)|(refine(ccame_no ‹_› ?hno).mono ?_;(case hno=>first|assumption|rfl|simp [*]);rintro e w' ⟨rfl,hat⟩)))
 all_goals(first|go_end0|go_ret)
 all_goals exact⟨_,rfl,by assumption⟩
end Go.Proofs.YtmelbeefjgjdhaaGreat.rd
