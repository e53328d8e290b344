/-
  Texts put together: Ir, Hd, Hl, Hu, Hv, Hw, Hx.
-/
import Derived.Test.YtmelbeefjgjdhaaGreatP30
import Derived.Test.YtmelbeefjgjdhaaGreatP20
import Derived.Test.YtmelbeefjgjdhaaGreatP23
import Derived.Test.YtmelbeefjgjdhaaGreatP22
set_option maxRecDepth 100000
set_option maxHeartbeats 8000000
namespace Go.Proofs.YtmelbeefjgjdhaaGreat.rd
open Go.RowKit
theorem ch_start {C:Kc} {T:List En} {e0:En} {r0:List En} {lo hi:Nat} (hT:T=e0::r0) (h:Ch lo T hi):Ch lo (grp e0.f (e0::r0)) hi:=by
 have _:=C
 subst hT
 have h1:=h.1
 exact Ch.grp.Ch.lower (Ch.grp (e0::r0) e0.f hi e0.f ⟨Nat.le_refl _,h.2.1,h.2.2⟩ (Nat.le_refl _)) h1
theorem held_new {α:Type} {F:Kd α} {C0 C1:Kc} {w w':World} {B b:Nat} {x:Res} {v:Value} {T:List α} (he:Ext C0.k C1.k B) (hat:CAt C1 w b x) (hb:Below w.heap.size w w') (hm:Mine F w' w.heap.size v T):∃ C2:Kc,C2.low=C1.low∧Ext C0.k C2.k B∧CAt C2 w' b x∧HeldC C2.k w' w.heap.size v F T:=by
 obtain⟨h1,h2⟩:=Ext.startC hat hb
 exact⟨⟨⟨w',fun k=>C1.k.K k∨(w.heap.size≤k∧k<w'.heap.size)⟩,C1.low⟩,rfl,he.trans h1,h2,hm,fun k hk=>.inr (World.ownsRow.lt hm k hk)⟩
theorem cparams_core {C:Kc} {w:World} {b N m':Nat} {x y z1 yf:Res} {lf:List Ent} (hN:N≤1099511627776) (hat:Hid (CAt C w b x)) (hz1:Hid (rExpect 57 x=some z1)) (hent:∀ w2,Hid (CAt C w2 b z1)→Calls Tryz.prog 99 #[.pointer (some ⟨b,0,none⟩)] w2 (EntsPost C b w2.heap.size N yf lf)) (hfin:Hid (rFinish m' lf yf=some y)) (hm:∀ s,x=.ok s→m'=s.R.length) (hbad:x.bad=true→yf.bad=true) :
  Calls Tryz.prog 53 #[.pointer (some ⟨b,0,none⟩)] w (CPost C b y):=by
 obtain⟨v0,hv0,hv0f,HM0,_,hv0s⟩:=cmark_raise hat
 have HV0:=Lib.hid (And.intro hv0 hv0s)
 have HENT:=Lib.hid hent
 have HBAD:=Lib.hid (And.intro hbad hm)
 have hzz:∀ k,C.k.K k→k<C.k.W.heap.size:=fun k hk=>(hat.out.kept k hk).2
 have HZZ:=Lib.hid hzz
 clear hv0 hv0s hent hbad hm hzz
 go_enter Tryz.func53,Tryz.ntmps53
 go_wp2_with (first|(go_at_call 61;refine HM0.out.mono ?_;rintro e w' ⟨rfl,rfl⟩)|(go_at_call 33;refine(cexpect_at hat _ hz1).mono ?_;rintro e w1 ⟨rfl,hat1⟩))
 go_at_call 99
 refine(HENT.out _ hat1).mono ?_
 rintro e w2 ⟨v,C1,T,rfl,hE,hCh,hTl,hat2,hHe,hM⟩
 obtain⟨y2,y3,y4,hp1,hp2,hp3,hp4,hp5,hp6⟩:=params_plain hfin.out hM.out
 have HCF:=Lib.hid (ccontainsFunc_any hHe.out.mine.row (by omega))
 have HP:=Lib.hid (And.intro hp1 (And.intro hp2 hp6))
 have HMM:Hid (y4.bad=false→v0=m'):=Lib.hid (fun h=>by
  cases x with
  |ok s=>exact(HV0.out.2 s rfl).trans (HBAD.out.2 s rfl).symm
  |fail d0 d1 d2=>
   exfalso
   have h1:=HBAD.out.1 rfl
   have h2:y2.bad=true:=by
    by_cases hc:T.any En.is=true∧fitE T=false
    ·exact bd_lift (hp1 hc).out h1
    ·rw[hp2 hc];exact h1
   have h3:y3.bad=true:=by
    have:=hp3.out
    cases y2 with
    |ok s=>cases h2
    |fail a0 a1 a2=>obtain rfl:=Option.some.inj (show some (Res.fail a0 a1 a2)=some y3 from this);rfl
   have h4:=bd_expect hp4 h3
   rw[h] at h4
   cases h4)
 clear hp1 hp2 hp6 hM
 cases hany:T.any En.is with
 |false=>
  rw[hany] at HCF hp3
  rw[if_neg (by simp)] at hp3
  have hy2:y2=yf:=HP.out.2.1 (fun h=>by rw[hany] at h;cases h.1)
  have HP6:=Lib.hid HP.out.2.2
  subst hy2
  clear HP
  go_wp2_with (go_at_call 100;refine HCF.out.mono ?_;rintro e w3 ⟨rfl,hb3⟩)
  have hat3:=CAt.below hat2 hb3
  have hHe3:=Lib.hid (HeldC.call hHe.out hat2.out rfl hat3.out)
  have HCE:=Lib.hid (ccloseEach_any (lo:=C.low) hat3 hHe3 hCh hp3 HP6.out (by omega))
  go_at_call 104
  refine HCE.out.mono ?_
  rintro e w4 ⟨v4,rfl,hat4⟩
  have hat5:Hid (CAt C w4 b y3):=Lib.hid (CAt.back (C1:=⟨C1.k,C.low⟩) hE.out rfl hat4.out HZZ.out)
  go_wp2_with (first|(go_at_call 33;refine(cexpect_at hat5 _ hp4).mono ?_;rintro e w5 ⟨rfl,hat6⟩)|(go_at_call 37;refine(cclose_at _ _ _ _ _ _ (m':Int) _ hat6 (fun h=>by have:=HMM.out h;omega) (fun h=>by have:=HMM.out h;have:=HV0.out.1;omega) hp5).mono ?_;rintro e w6 ⟨v6,rfl,hat7⟩))
  go_end0
  exact⟨_,rfl,hat7⟩
 |true=>
  rw[hany] at HCF hp3
  rw[if_pos rfl] at hp3
  cases hT:T with
  |nil=>rw[hT] at hany;cases hany
  |cons e0 r0=>
   rw[hT] at hp3 hHe hTl HP hCh hany
   have hp3:Hid (cEachAll (grp e0.f (e0::r0)) y2=some y3):=hp3
   have hgl:=grp_len (e0::r0) e0.f
   have HGL:=Lib.hid hgl
   have HCG:=Lib.hid (ch_start (C:=C) rfl hCh.out)
   clear hgl hCh hT
   go_wp2_with (go_at_call 100;refine HCF.out.mono ?_;rintro e w3 ⟨rfl,hb3⟩)
   have hat3:=CAt.below hat2 hb3
   have hHe3:=Lib.hid (HeldC.call hHe.out hat2.out rfl hat3.out)
   have HFI:=Lib.hid (cfit_any hHe3.out.mine.row (by omega) (by simp))
   cases hfit:fitE (e0::r0) with
   |true=>
    rw[hfit] at HFI
    have hy2:y2=yf:=HP.out.2.1 (fun h=>by rw[hfit] at h;cases h.2)
    have HP6:=Lib.hid HP.out.2.2
    subst hy2
    clear HP
    go_wp2_with (go_at_call 102;refine HFI.out.mono ?_;rintro e w4 ⟨rfl,hb4⟩;have hat4:=CAt.below hat3 hb4;have hHe4:=Lib.hid (HeldC.call hHe3.out hat3.out rfl hat4.out);have HGR:=Lib.hid (cgrouped_any hHe4.out.mine.row (by omega) (by simp)))
    go_at_call 103
    refine HGR.out.mono ?_
    rintro e w5 ⟨v5,rfl,hm5,hb5⟩
    obtain⟨C2,hL2,hE2,hat5,hHe5⟩:=held_new hE.out hat4.out hb5 hm5
    have HCE:=Lib.hid (ccloseEach_any (lo:=C.low) (Lib.hid hat5) (Lib.hid hHe5) (Lib.hid (by rw[hL2];exact HCG.out)) hp3 (fun s hs=>by have:=HP6.out s hs;have h9:(grp (e0::r0)[0].f (e0::r0)).length≤(e0::r0).length:=HGL.out;omega) (by have h9:(grp (e0::r0)[0].f (e0::r0)).length≤(e0::r0).length:=HGL.out;omega))
    have HE2:=Lib.hid hE2
    clear hE2 hat5 hHe5 hL2 hm5 hb5
    go_wp2_with fail
    go_at_call 104
    refine HCE.out.mono ?_
    rintro e w6 ⟨v6,rfl,hat6⟩
    have hat7:Hid (CAt C w6 b y3):=Lib.hid (CAt.back (C1:=⟨C2.k,C.low⟩) HE2.out rfl hat6.out HZZ.out)
    go_wp2_with (first|(go_at_call 33;refine(cexpect_at hat7 _ hp4).mono ?_;rintro e w7 ⟨rfl,hat8⟩)|(go_at_call 37;refine(cclose_at _ _ _ _ _ _ (m':Int) _ hat8 (fun h=>by have:=HMM.out h;omega) (fun h=>by have:=HMM.out h;have:=HV0.out.1;omega) hp5).mono ?_;rintro e w8 ⟨v8,rfl,hat9⟩))
    go_end0
    exact⟨_,rfl,hat9⟩
   |false=>
    rw[hfit] at HFI
    have hy2:=HP.out.1 ⟨hany,hfit⟩
    have HP6:=Lib.hid HP.out.2.2
    clear HP
    go_wp2_with (first|(go_at_call 102;refine HFI.out.mono ?_;rintro e w4 ⟨rfl,hb4⟩;have hat4:=CAt.below hat3 hb4;have hHe4:=Lib.hid (HeldC.call hHe3.out hat3.out rfl hat4.out))|(go_at_call 45;refine(cfail_at hat4 _ hy2).mono ?_;rintro e w5 ⟨v5,rfl,hat5⟩;have hHe5:=Lib.hid (HeldC.call hHe4.out hat4.out rfl hat5.out);have HGR:=Lib.hid (cgrouped_any hHe5.out.mine.row (by omega) (by simp))))
    go_at_call 103
    refine HGR.out.mono ?_
    rintro e w6 ⟨v6,rfl,hm6,hb6⟩
    obtain⟨C2,hL2,hE2,hat6,hHe6⟩:=held_new hE.out hat5.out hb6 hm6
    have HCE:=Lib.hid (ccloseEach_any (lo:=C.low) (Lib.hid hat6) (Lib.hid hHe6) (Lib.hid (by rw[hL2];exact HCG.out)) hp3 (fun s hs=>by have:=HP6.out s hs;have h9:(grp (e0::r0)[0].f (e0::r0)).length≤(e0::r0).length:=HGL.out;omega) (by have h9:(grp (e0::r0)[0].f (e0::r0)).length≤(e0::r0).length:=HGL.out;omega))
    have HE2:=Lib.hid hE2
    clear hE2 hat6 hHe6 hL2 hm6 hb6
    go_wp2_with fail
    go_at_call 104
    refine HCE.out.mono ?_
    rintro e w7 ⟨v7,rfl,hat7⟩
    have hat8:Hid (CAt C w7 b y3):=Lib.hid (CAt.back (C1:=⟨C2.k,C.low⟩) HE2.out rfl hat7.out HZZ.out)
    go_wp2_with (first|(go_at_call 33;refine(cexpect_at hat8 _ hp4).mono ?_;rintro e w8 ⟨rfl,hat9⟩)|(go_at_call 37;refine(cclose_at _ _ _ _ _ _ (m':Int) _ hat9 (fun h=>by have:=HMM.out h;omega) (fun h=>by have:=HMM.out h;have:=HV0.out.1;omega) hp5).mono ?_;rintro e w9 ⟨v9,rfl,hat10⟩))
    go_end0
    exact⟨_,rfl,hat10⟩
theorem cParams_f:∀ (C:Kc) (w:World) (b:Nat) (d0 d1 d2:Int),Hid (CAt C w b (.fail d0 d1 d2))→Calls Tryz.prog 53 #[.pointer (some ⟨b,0,none⟩)] w (CPost C b (.fail d0 d1 d2)):=fun C w b d0 d1 d2 hat=>
 cparams_core (N:=1) (m':=0) (z1:=.fail d0 d1 d2) (yf:=.fail d0 d1 d2) (lf:=[]) (by decide) hat (Lib.hid rfl) (fun w2 h2=>centries_f h2) (Lib.hid rfl) (fun s e=>by cases e) (fun _=>rfl)
theorem cParams_s {n:Nat} (hn:n≤1099511627776) (ih:∀ k,k≤n→AllC k):P0 53 (n+1) .params:=by
 intro C w b x y hat hy
 cases x with
 |fail d0 d1 d2=>
  have hy:=hy.out
  rw[run_fail] at hy
  obtain rfl:=Option.some.inj hy
  exact cParams_f _ _ _ _ _ _ hat
 |ok s=>
  have hy:=hy.out
  rw[run] at hy
  try dsimp only at hy
  rw[bind_iff] at hy
  obtain⟨z1,hz1,hy⟩:=hy
  rw[bind_iff] at hy
  obtain⟨⟨yf,lf⟩,hz2,hy⟩:=hy
  exact cparams_core hn hat hz1 (fun w2 h2=>centries_s hn ih h2 hz2) (Lib.hid hy) (fun s' e=>by cases e;rfl) (fun h=>by cases h)
open Go.RowKit
theorem cbinary_s {n:Nat} (ih:∀ k,k≤n→AllC k):PBin 71 (n+1):=by
 intro C w b x y p h hat hy
 have hy:=hy.out
 cases x with
 |fail d0 d1 d2=>
  rw[run_fail] at hy
  obtain rfl:=Option.some.inj hy
  exact cbinary_f _ _ _ _ _ _ _ _ hat
 |ok s=>
  have hlo:C.low≤s.R.length:=low_nat hat
  rw[run] at hy
  rw[bind_iff] at hy
  obtain⟨z1,hz1,hy⟩:=hy
  replace hy:=Lib.hid hy
  go_enter Tryz.func71,Tryz.ntmps71
  go_wp2_with (first|(go_at_call 61;first|(refine(cmark_at ‹_›).mono ?_;rintro e w' ⟨rfl,rfl⟩)|(refine(cmark_bad ‹_›).mono ?_;rintro e w' ⟨⟨v,_,rfl⟩,rfl⟩))|(go_at_call 57;first|(refine(ckind_is ‹_› ‹_›).mono ?_;rintro e w' ⟨rfl,hat⟩)|(refine(ckind_at ‹_›).mono ?_;rintro e w' ⟨rfl,hat⟩))|(go_at_call 113;first|(refine((ih _ ?hk).unary _ _ _ _ _ _ ‹_› ‹_›).mono ?_;(case hk=>omega);rintro e w' ⟨v,rfl,hat⟩)|(refine(cunary_f _ _ _ _ _ _ _ ‹_›).mono ?_;rintro e w' ⟨v,rfl,hat⟩))|(go_at_call 31;refine(ctake_at ‹_› (by first|with_reducible assumption|exact Lib.hid rfl|assumption|exact run_hid _ _ _ _ _)).mono ?_;rintro e w' ⟨v,rfl,hat⟩)|(go_at_call 71;first|(refine((ih _ ?hk).binary _ _ _ _ _ _ _ ‹_› ‹_›).mono ?_;(case hk=>omega);rintro e w' ⟨v,rfl,hat⟩)|(refine(cbinary_f _ _ _ _ _ _ _ _ ‹_›).mono ?_;rintro e w' ⟨v,rfl,hat⟩))|(go_at_call 37;refine(cclose_at _ _ _ _ _ _ _ _ ‹_› (by first|exact fun _=>rfl|assumption|exact fun hb=>by cases hb) (by first|exact fun _=>low_ok ‹_›|(intro _;omega)|(intro hb;cases hb;done)|assumption) (by first|with_reducible assumption|exact Lib.hid rfl|assumption|exact run_hid _ _ _ _ _)).mono ?_;rintro e w' ⟨v,rfl,hat⟩)|(go_at_call 114;refine(cPrec_any _ _).mono ?_;rintro e w' ⟨rfl,rfl⟩))
  go_loopw [] (fun wr=>Mq C b y (.binL p h s.R.length) n wr) (fun wr=>mpOf C b y (.binL p h s.R.length) wr)
  case atStart=>exact Mq.at ‹_› ‹_›
  case round=>
   rcases hrel.out with⟨d0,d1,d2,hu,hat⟩|⟨k,s',hk,hq,hat,hy'⟩
   ·subst hu
    have hk0:(Res.fail d0 d1 d2).kind=0:=rfl
    go_wp2_with (first
   |(go_at_call 61;first|(refine(cmark_at ‹_›).mono ?_;rintro e w' ⟨rfl,rfl⟩)|(refine(cmark_bad ‹_›).mono ?_;rintro e w' ⟨⟨v,_,rfl⟩,rfl⟩))
   |(go_at_call 57;first|(refine(ckind_is ‹_› ‹_›).mono ?_;rintro e w' ⟨rfl,hat⟩)|(refine(ckind_at ‹_›).mono ?_;rintro e w' ⟨rfl,hat⟩))
   |(go_at_call 113;first|(refine((ih _ ?hk).unary _ _ _ _ _ _ ‹_› ‹_›).mono ?_;(case hk=>omega);rintro e w' ⟨v,rfl,hat⟩)|(refine(cunary_f _ _ _ _ _ _ _ ‹_›).mono ?_;rintro e w' ⟨v,rfl,hat⟩))
   |(go_at_call 31;refine(ctake_at ‹_› (by first|with_reducible assumption|exact Lib.hid rfl|assumption|exact run_hid _ _ _ _ _)).mono ?_;rintro e w' ⟨v,rfl,hat⟩)
   |(go_at_call 71;first|(refine((ih _ ?hk).binary _ _ _ _ _ _ _ ‹_› ‹_›).mono ?_;(case hk=>omega);rintro e w' ⟨v,rfl,hat⟩)|(refine(cbinary_f _ _ _ _ _ _ _ _ ‹_›).mono ?_;rintro e w' ⟨v,rfl,hat⟩))
   |(go_at_call 37;refine(cclose_at _ _ _ _ _ _ _ _ ‹_› (by first|exact fun _=>rfl|assumption|exact fun hb=>by cases hb) (by first|exact fun _=>low_ok ‹_›|(intro _;omega)|(intro hb;cases hb;done)|assumption) (by first|with_reducible assumption|exact Lib.hid rfl|assumption|exact run_hid _ _ _ _ _)).mono ?_;rintro e w' ⟨v,rfl,hat⟩)
   |(go_at_call 114;refine(cPrec_any _ _).mono ?_;rintro e w' ⟨rfl,rfl⟩))
    all_goals(first|(go_roundw;(case rel=>exact(Mq.less (by omega) ‹_› ‹_› hq).1);(case measure=>exact(Mq.less (n:=n) (by omega) ‹_› ‹_› hq).2))|(go_end0;exact⟨_,rfl,by assumption⟩)|(go_ret;exact⟨_,rfl,by assumption⟩))
   ·rw[run] at hy'
    try dsimp only at hy'
    have hy2:=hy'
    clear hy'
    split at hy2
    ·obtain rfl:=Option.some.inj hy2
     rename _∨_=>ho
     by_cases hq0:precOf (Res.ok s').kind=0
     ·have e0:(precOf (Res.ok s').kind == 0)=true:=by simp [hq0]
      go_wp2_with (first
   |(go_at_call 61;first|(refine(cmark_at ‹_›).mono ?_;rintro e w' ⟨rfl,rfl⟩)|(refine(cmark_bad ‹_›).mono ?_;rintro e w' ⟨⟨v,_,rfl⟩,rfl⟩))
   |(go_at_call 57;first|(refine(ckind_is ‹_› ‹_›).mono ?_;rintro e w' ⟨rfl,hat⟩)|(refine(ckind_at ‹_›).mono ?_;rintro e w' ⟨rfl,hat⟩))
   |(go_at_call 113;first|(refine((ih _ ?hk).unary _ _ _ _ _ _ ‹_› ‹_›).mono ?_;(case hk=>omega);rintro e w' ⟨v,rfl,hat⟩)|(refine(cunary_f _ _ _ _ _ _ _ ‹_›).mono ?_;rintro e w' ⟨v,rfl,hat⟩))
   |(go_at_call 31;refine(ctake_at ‹_› (by first|with_reducible assumption|exact Lib.hid rfl|assumption|exact run_hid _ _ _ _ _)).mono ?_;rintro e w' ⟨v,rfl,hat⟩)
   |(go_at_call 71;first|(refine((ih _ ?hk).binary _ _ _ _ _ _ _ ‹_› ‹_›).mono ?_;(case hk=>omega);rintro e w' ⟨v,rfl,hat⟩)|(refine(cbinary_f _ _ _ _ _ _ _ _ ‹_›).mono ?_;rintro e w' ⟨v,rfl,hat⟩))
   |(go_at_call 37;refine(cclose_at _ _ _ _ _ _ _ _ ‹_› (by first|exact fun _=>rfl|assumption|exact fun hb=>by cases hb) (by first|exact fun _=>low_ok ‹_›|(intro _;omega)|(intro hb;cases hb;done)|assumption) (by first|with_reducible assumption|exact Lib.hid rfl|assumption|exact run_hid _ _ _ _ _)).mono ?_;rintro e w' ⟨v,rfl,hat⟩)
   |(go_at_call 114;refine(cPrec_any _ _).mono ?_;rintro e w' ⟨rfl,rfl⟩))
      all_goals(first
    |(go_roundw;(case rel=>exact(Mq.less (by omega) ‹_› ‹_› hq).1);(case measure=>exact(Mq.less (n:=n) (by omega) ‹_› ‹_› hq).2))
    |(go_end0;exact⟨_,rfl,by assumption⟩)
    |(go_ret;exact⟨_,rfl,by assumption⟩))
     ·have hq1:precOf (Res.ok s').kind<p:=by rcases ho with ho|ho;exact absurd ho hq0;exact ho
      have e0:(precOf (Res.ok s').kind == 0)=false:=by simp [hq0]
      have e1:decide (precOf (Res.ok s').kind<p)=true:=by simp [hq1]
      go_wp2_with (first
   |(go_at_call 61;first|(refine(cmark_at ‹_›).mono ?_;rintro e w' ⟨rfl,rfl⟩)|(refine(cmark_bad ‹_›).mono ?_;rintro e w' ⟨⟨v,_,rfl⟩,rfl⟩))
   |(go_at_call 57;first|(refine(ckind_is ‹_› ‹_›).mono ?_;rintro e w' ⟨rfl,hat⟩)|(refine(ckind_at ‹_›).mono ?_;rintro e w' ⟨rfl,hat⟩))
   |(go_at_call 113;first|(refine((ih _ ?hk).unary _ _ _ _ _ _ ‹_› ‹_›).mono ?_;(case hk=>omega);rintro e w' ⟨v,rfl,hat⟩)|(refine(cunary_f _ _ _ _ _ _ _ ‹_›).mono ?_;rintro e w' ⟨v,rfl,hat⟩))
   |(go_at_call 31;refine(ctake_at ‹_› (by first|with_reducible assumption|exact Lib.hid rfl|assumption|exact run_hid _ _ _ _ _)).mono ?_;rintro e w' ⟨v,rfl,hat⟩)
   |(go_at_call 71;first|(refine((ih _ ?hk).binary _ _ _ _ _ _ _ ‹_› ‹_›).mono ?_;(case hk=>omega);rintro e w' ⟨v,rfl,hat⟩)|(refine(cbinary_f _ _ _ _ _ _ _ _ ‹_›).mono ?_;rintro e w' ⟨v,rfl,hat⟩))
   |(go_at_call 37;refine(cclose_at _ _ _ _ _ _ _ _ ‹_› (by first|exact fun _=>rfl|assumption|exact fun hb=>by cases hb) (by first|exact fun _=>low_ok ‹_›|(intro _;omega)|(intro hb;cases hb;done)|assumption) (by first|with_reducible assumption|exact Lib.hid rfl|assumption|exact run_hid _ _ _ _ _)).mono ?_;rintro e w' ⟨v,rfl,hat⟩)
   |(go_at_call 114;refine(cPrec_any _ _).mono ?_;rintro e w' ⟨rfl,rfl⟩))
      all_goals(first|(go_roundw;(case rel=>exact(Mq.less (by omega) ‹_› ‹_› hq).1);(case measure=>exact(Mq.less (n:=n) (by omega) ‹_› ‹_› hq).2))|(go_end0;exact⟨_,rfl,by assumption⟩)|(go_ret;exact⟨_,rfl,by assumption⟩))
    ·rename ¬ (_∨_)=>ho
     rw[not_or] at ho
     obtain⟨hq0,hq1⟩:=ho
     have e0:(precOf (Res.ok s').kind == 0)=false:=by simp [hq0]
     have e1:decide (precOf (Res.ok s').kind<p)=false:=by simp [hq1]
     have hp0:0≤precOf (Res.ok s').kind∧precOf (Res.ok s').kind≤5:=precOf_le _
     rw[bind_iff] at hy2
     obtain⟨y1,hy1,hy2⟩:=hy2
     rw[bind_iff] at hy2
     obtain⟨y2,hyb,hy2⟩:=hy2
     rw[bind_iff] at hy2
     obtain⟨y3,hyc,hy2⟩:=hy2
     replace hy2:=Lib.hid hy2
     go_wp2_with (first
   |(go_at_call 61;first|(refine(cmark_at ‹_›).mono ?_;rintro e w' ⟨rfl,rfl⟩)|(refine(cmark_bad ‹_›).mono ?_;rintro e w' ⟨⟨v,_,rfl⟩,rfl⟩))
   |(go_at_call 57;first|(refine(ckind_is ‹_› ‹_›).mono ?_;rintro e w' ⟨rfl,hat⟩)|(refine(ckind_at ‹_›).mono ?_;rintro e w' ⟨rfl,hat⟩))
   |(go_at_call 113;first|(refine((ih _ ?hk).unary _ _ _ _ _ _ ‹_› ‹_›).mono ?_;(case hk=>omega);rintro e w' ⟨v,rfl,hat⟩)|(refine(cunary_f _ _ _ _ _ _ _ ‹_›).mono ?_;rintro e w' ⟨v,rfl,hat⟩))
   |(go_at_call 31;refine(ctake_at ‹_› (by first|with_reducible assumption|exact Lib.hid rfl|assumption|exact run_hid _ _ _ _ _)).mono ?_;rintro e w' ⟨v,rfl,hat⟩)
   |(go_at_call 71;first|(refine((ih _ ?hk).binary _ _ _ _ _ _ _ ‹_› ‹_›).mono ?_;(case hk=>omega);rintro e w' ⟨v,rfl,hat⟩)|(refine(cbinary_f _ _ _ _ _ _ _ _ ‹_›).mono ?_;rintro e w' ⟨v,rfl,hat⟩))
   |(go_at_call 37;refine(cclose_at _ _ _ _ _ _ _ _ ‹_› (by first|exact fun _=>rfl|assumption|exact fun hb=>by cases hb) (by first|exact fun _=>low_ok ‹_›|(intro _;omega)|(intro hb;cases hb;done)|assumption) (by first|with_reducible assumption|exact Lib.hid rfl|assumption|exact run_hid _ _ _ _ _)).mono ?_;rintro e w' ⟨v,rfl,hat⟩)
   |(go_at_call 114;refine(cPrec_any _ _).mono ?_;rintro e w' ⟨rfl,rfl⟩))
     all_goals(first|(go_roundw;(case rel=>exact(Mq.less (by omega) ‹_› ‹_› hq).1);(case measure=>exact(Mq.less (n:=n) (by omega) ‹_› ‹_› hq).2))|(go_end0;exact⟨_,rfl,by assumption⟩)|(go_ret;exact⟨_,rfl,by assumption⟩))
open Go.RowKit
theorem cfunction_s {n:Nat} {C:Kc} {w:World} {b:Nat} {s:St} {z1 z2 y:Res} (hat:Hid (CAt C w b (.ok s))) (h1:Hid (rTake (.ok s)=some z1)) (h2:Hid (run n .sig z1=some z2)) (h3:Hid ((if z2.kind=59 then(run n .flat z2 >>= fun v=>rClose s.R.length 216 v) else rClose s.R.length 223 z2)=some y)) (ih:∀ k,k≤n→AllC k):Calls Tryz.prog 174 #[.pointer (some ⟨b,0,none⟩)] w (CPost C b y):=by
 have hy:=h3.out
 clear h3
 iterate 16 (all_goals try(first|split at hy|(rw[bind_iff] at hy;obtain⟨z,hz,hy⟩:=hy;try(rw[some_hid] at hz;subst hz))))
 all_goals(first|(obtain rfl:=Option.some.inj hy)|(replace hy:=Lib.hid hy))
 iterate 2 (all_goals try(rename _∧_=>ho;obtain⟨_,_⟩:=ho))
 iterate 7 (all_goals try(rename _∨_=>ho;rcases ho with ho|ho))
 all_goals(repeat (rename ¬ (_∨_)=>ho;rw[not_or] at ho;obtain⟨_,_⟩:=ho))
 all_goals(try have e59:(z2.kind == 59)=false:=by simp [*])
 all_goals go_enter Tryz.func174,Tryz.ntmps174
 all_goals go_wp2_with (first|(go_at_call 61;first|(refine(cmark_at ‹_›).mono ?_;rintro e w' ⟨rfl,rfl⟩)|(refine(cmark_bad ‹_›).mono ?_;rintro e w' ⟨⟨v,_,rfl⟩,rfl⟩))|(go_at_call 31;refine(ctake_at ‹_› (by first|with_reducible assumption|exact Lib.hid rfl|assumption|exact run_hid _ _ _ _ _)).mono ?_;rintro e w' ⟨v,rfl,hat⟩)|(go_at_call 24;first|(refine((ih _ ?hk).sig _ _ _ _ _ ‹_› ‹_›).mono ?_;(case hk=>omega);rintro e w' ⟨v,rfl,hat⟩)|(refine(cSig_f _ _ _ _ _ _ ‹_›).mono ?_;rintro e w' ⟨v,rfl,hat⟩))|(go_at_call 57;first|(refine(ckind_is ‹_› ‹_›).mono ?_;rintro e w' ⟨rfl,hat⟩)|(refine(ckind_at ‹_›).mono ?_;rintro e w' ⟨rfl,hat⟩))|(go_at_call 189;first|(refine((ih _ ?hk).flat _ _ _ _ _ ‹_› ‹_›).mono ?_;(case hk=>omega);rintro e w' ⟨v,rfl,hat⟩))|(go_at_call 37;refine(cclose_at _ _ _ _ _ _ _ _ ‹_› (by first|exact fun _=>rfl|assumption|exact fun hb=>by cases hb) (by first|exact fun _=>low_ok ‹_›|(intro _;omega)|(intro hb;cases hb;done)|assumption) (by first|with_reducible assumption|exact Lib.hid rfl|assumption|exact run_hid _ _ _ _ _)).mono ?_;rintro e w' ⟨v,rfl,hat⟩))
 all_goals(first|go_end0|go_ret)
 all_goals exact⟨_,rfl,by assumption⟩
theorem coperand_s {n:Nat} (ih:∀ k,k≤n→AllC k):P0 153 (n+1) .operand:=by
 have _:=ih
 intro C w b x y hat hy
 have hy:=hy.out
 cases x with
 |fail d0 d1 d2=>
  rw[run_fail] at hy
  obtain rfl:=Option.some.inj hy
  exact coperand_f _ _ _ _ _ _ hat
 |ok s=>
  have hlo:C.low≤s.R.length:=low_nat hat
  rw[run] at hy
  try dsimp only at hy
  by_cases h79:(Res.ok s).kind=79
  ·rw[if_neg (by rw[h79];decide),if_neg (by rw[h79];decide),if_neg (by rw[h79];decide),if_pos h79] at hy
   rw[bind_iff] at hy
   obtain⟨z1,hz1,hy⟩:=hy
   rw[bind_iff] at hy
   obtain⟨z2,hz2,hy⟩:=hy
   replace hy:=Lib.hid hy
   all_goals go_enter Tryz.func153,Tryz.ntmps153
   all_goals go_wp2_with (first|(go_at_call 61;first|(refine(cmark_at ‹_›).mono ?_;rintro e w' ⟨rfl,rfl⟩)|(refine(cmark_bad ‹_›).mono ?_;rintro e w' ⟨⟨v,_,rfl⟩,rfl⟩))|(go_at_call 57;first|(refine(ckind_is ‹_› ‹_›).mono ?_;rintro e w' ⟨rfl,hat⟩)|(refine(ckind_at ‹_›).mono ?_;rintro e w' ⟨rfl,hat⟩))|(go_at_call 47;refine(cname_at ‹_› (by first|with_reducible assumption|exact Lib.hid rfl|assumption|exact run_hid _ _ _ _ _)).mono ?_;rintro e w' ⟨v,rfl,hat⟩)|(go_at_call 31;refine(ctake_at ‹_› (by first|with_reducible assumption|exact Lib.hid rfl|assumption|exact run_hid _ _ _ _ _)).mono ?_;rintro e w' ⟨v,rfl,hat⟩)|(go_at_call 37;refine(cclose_at _ _ _ _ _ _ _ _ ‹_› (by first|exact fun _=>rfl|assumption|exact fun hb=>by cases hb) (by first|exact fun _=>low_ok ‹_›|(intro _;omega)|(intro hb;cases hb;done)|assumption) (by first|with_reducible assumption|exact Lib.hid rfl|assumption|exact run_hid _ _ _ _ _)).mono ?_;rintro e w' ⟨v,rfl,hat⟩)|(go_at_call 139;first|(refine(cinside_at (ih:=ih _ ?hk) ‹_› ‹_›).mono ?_;(case hk=>omega);rintro e w' ⟨v,rfl,hat⟩)|(refine(cinside_f _ _ _ _ _ _ ‹_›).mono ?_;rintro e w' ⟨v,rfl,hat⟩))|(go_at_call 33;refine(cexpect_at ‹_› _ (by first|with_reducible assumption|exact Lib.hid rfl|assumption|exact run_hid _ _ _ _ _)).mono ?_;rintro e w' ⟨rfl,hat⟩)|(go_at_call 23;first|(refine((ih _ ?hk).type _ _ _ _ _ ‹_› ‹_›).mono ?_;(case hk=>omega);rintro e w' ⟨v,rfl,hat⟩)|(refine(cType_f _ _ _ _ _ _ ‹_›).mono ?_;rintro e w' ⟨v,rfl,hat⟩))|(go_at_call 45;refine(cfail_at ‹_› _ (by first|with_reducible assumption|exact Lib.hid rfl|assumption|exact run_hid _ _ _ _ _)).mono ?_;rintro e w' ⟨v,rfl,hat⟩)|(go_at_call 174;refine(cfunction_s ‹_› ‹_› ‹_› ‹_› (fun j hj=>ih j (by omega))).mono ?_;rintro e w' ⟨v,rfl,hat⟩))
   all_goals(first|go_end0|go_ret)
   all_goals exact⟨_,rfl,by assumption⟩
  ·iterate 16 (all_goals try(first|split at hy|(rw[bind_iff] at hy;obtain⟨z,hz,hy⟩:=hy;try(rw[some_hid] at hz;subst hz))))
   all_goals(first|(obtain rfl:=Option.some.inj hy)|(replace hy:=Lib.hid hy))
   iterate 2 (all_goals try(rename _∧_=>ho;obtain⟨_,_⟩:=ho))
   iterate 7 (all_goals try(rename _∨_=>ho;rcases ho with ho|ho))
   all_goals(repeat (rename ¬ (_∨_)=>ho;rw[not_or] at ho;obtain⟨_,_⟩:=ho))
   all_goals(try(exact absurd ‹_› h79))
   all_goals(try have e10:((Res.ok s).kind == 10)=false:=by simp [*])
   all_goals(try have e11:((Res.ok s).kind == 11)=false:=by simp [*])
   all_goals(try have e12:((Res.ok s).kind == 12)=false:=by simp [*])
   all_goals(try have e13:((Res.ok s).kind == 13)=false:=by simp [*])
   all_goals(try have e14:((Res.ok s).kind == 14)=false:=by simp [*])
   all_goals(try have e57:((Res.ok s).kind == 57)=false:=by simp [*])
   all_goals(try have e79:((Res.ok s).kind == 79)=false:=by simp [*])
   all_goals(try have e58:((Res.ok s).kind == 58)=false:=by simp [*])
   all_goals(try have e83:((Res.ok s).kind == 83)=false:=by simp [*])
   all_goals(try have e87:((Res.ok s).kind == 87)=false:=by simp [*])
   all_goals(try have e82:((Res.ok s).kind == 82)=false:=by simp [*])
   all_goals go_enter Tryz.func153,Tryz.ntmps153
   all_goals go_wp2_with (first|(go_at_call 61;first|(refine(cmark_at ‹_›).mono ?_;rintro e w' ⟨rfl,rfl⟩)|(refine(cmark_bad ‹_›).mono ?_;rintro e w' ⟨⟨v,_,rfl⟩,rfl⟩))|(go_at_call 57;first|(refine(ckind_is ‹_› ‹_›).mono ?_;rintro e w' ⟨rfl,hat⟩)|(refine(ckind_at ‹_›).mono ?_;rintro e w' ⟨rfl,hat⟩))|(go_at_call 47;refine(cname_at ‹_› (by first|with_reducible assumption|exact Lib.hid rfl|assumption|exact run_hid _ _ _ _ _)).mono ?_;rintro e w' ⟨v,rfl,hat⟩)|(go_at_call 31;refine(ctake_at ‹_› (by first|with_reducible assumption|exact Lib.hid rfl|assumption|exact run_hid _ _ _ _ _)).mono ?_;rintro e w' ⟨v,rfl,hat⟩)|(go_at_call 37;refine(cclose_at _ _ _ _ _ _ _ _ ‹_› (by first|exact fun _=>rfl|assumption|exact fun hb=>by cases hb) (by first|exact fun _=>low_ok ‹_›|(intro _;omega)|(intro hb;cases hb;done)|assumption) (by first|with_reducible assumption|exact Lib.hid rfl|assumption|exact run_hid _ _ _ _ _)).mono ?_;rintro e w' ⟨v,rfl,hat⟩)|(go_at_call 139;first|(refine(cinside_at (ih:=ih _ ?hk) ‹_› ‹_›).mono ?_;(case hk=>omega);rintro e w' ⟨v,rfl,hat⟩)|(refine(cinside_f _ _ _ _ _ _ ‹_›).mono ?_;rintro e w' ⟨v,rfl,hat⟩))|(go_at_call 33;refine(cexpect_at ‹_› _ (by first|with_reducible assumption|exact Lib.hid rfl|assumption|exact run_hid _ _ _ _ _)).mono ?_;rintro e w' ⟨rfl,hat⟩)|(go_at_call 23;first|(refine((ih _ ?hk).type _ _ _ _ _ ‹_› ‹_›).mono ?_;(case hk=>omega);rintro e w' ⟨v,rfl,hat⟩)|(refine(cType_f _ _ _ _ _ _ ‹_›).mono ?_;rintro e w' ⟨v,rfl,hat⟩))|(go_at_call 45;refine(cfail_at ‹_› _ (by first|with_reducible assumption|exact Lib.hid rfl|assumption|exact run_hid _ _ _ _ _)).mono ?_;rintro e w' ⟨v,rfl,hat⟩)|(go_at_call 174;refine(cfunction_s ‹_› ‹_› ‹_› ‹_› (fun j hj=>ih j (by omega))).mono ?_;rintro e w' ⟨v,rfl,hat⟩))
   all_goals(first|go_end0|go_ret)
   all_goals exact⟨_,rfl,by assumption⟩
open Go.RowKit
theorem rClose_last {m k:Int} {x:Res} {t:St} (h:rClose m k x=some (.ok t)):t.last=k:=by
 cases x with
 |fail a b c=>cases h
 |ok s=>
  have h:chk (s.close m k)=some (.ok t):=h
  unfold St.close at h
  split at h
  ·cases chk_fail h
  ·obtain⟨e,_⟩:=chk_ok h
   cases e
   simp [St.last,St.closed,Tree.k]
theorem rUp_last {x:Res} {t:St} (h:rUp x=some (.ok t)):∃ s,x=.ok s∧t.last=s.last:=by
 cases x with
 |fail a b c=>cases h
 |ok s=>
  have h:chk (.ok s.up)=some (.ok t):=h
  obtain⟨e,_⟩:=chk_ok h
  cases e
  exact⟨s,rfl,rfl⟩
theorem rName_last {x:Res} {t:St} (h:rName x=some (.ok t)):t.last=201:=by
 unfold rName at h
 obtain⟨y,_,h⟩:=bind_some h
 exact rClose_last h
theorem rQualified_last {x:Res} {t:St} (h:rQualified x=some (.ok t)):t.last=201∨t.last=207:=by
 unfold rQualified at h
 obtain⟨y,hy,h⟩:=bind_some h
 split at h
 ·obtain⟨_,_,h⟩:=bind_some h
  obtain⟨_,_,h⟩:=bind_some h
  exact .inr (rClose_last h)
 ·have e:=Option.some.inj h
  subst e
  exact .inl (rName_last hy.out)
theorem array_last {n:Nat} {m:Nat} {x:Res} {t:St} (h:run n (.array m) x=some (.ok t)):t.last=220∨t.last=221:=by
 cases x with
 |fail a b c=>rw[run_fail] at h;cases h
 |ok s=>
  cases n with
  |zero=>exact absurd h (by unfold run;simp)
  |succ n=>
   rw[run] at h
   try dsimp only at h
   obtain⟨y,hy,h⟩:=bind_some h
   split at h
   ·obtain⟨_,_,h⟩:=bind_some h
    obtain⟨_,_,h⟩:=bind_some h
    exact .inl (rClose_last h)
   ·split at h
    ·obtain⟨_,_,h⟩:=bind_some h
     obtain⟨_,_,h⟩:=bind_some h
     obtain⟨_,_,h⟩:=bind_some h
     obtain⟨_,_,h⟩:=bind_some h
     exact .inr (rClose_last h)
    ·obtain⟨_,_,h⟩:=bind_some h
     obtain⟨_,_,h⟩:=bind_some h
     obtain⟨_,_,h⟩:=bind_some h
     exact .inr (rClose_last h)
theorem type_last {n:Nat} {x:Res} {t:St} (h:run n .type x=some (.ok t)):t.last≠230:=by
 cases x with
 |fail a b c=>rw[run_fail] at h;cases h
 |ok s=>
  cases n with
  |zero=>exact absurd h (by unfold run;simp)
  |succ n=>
   rw[run] at h
   try dsimp only at h
   obtain⟨y,hy,h⟩:=bind_some h
   split at h
   ·rename_i hb
    have e:=Option.some.inj h
    subst e
    cases hb
   ·split at h
    ·obtain⟨z,hz,h⟩:=bind_some h
     split at h
     ·iterate 5 (obtain⟨_,hq,h⟩:=bind_some h)
      obtain⟨s',rfl,e⟩:=rUp_last h
      rw[e,rClose_last hq.out];decide
     ·obtain⟨u,hu,h⟩:=bind_some h
      have e2:=Option.some.inj hu.out
      subst e2
      obtain⟨s',rfl,e⟩:=rUp_last h
      rw[e]
      rcases rQualified_last hz.out with e|e <;> rw[e] <;> decide
    split at h
    ·iterate 4 (obtain⟨_,hq,h⟩:=bind_some h)
     obtain⟨s',rfl,e⟩:=rUp_last h
     rw[e,rClose_last hq.out];decide
    split at h
    ·iterate 3 (obtain⟨_,hq,h⟩:=bind_some h)
     obtain⟨s',rfl,e⟩:=rUp_last h
     rw[e,rClose_last hq.out];decide
    split at h
    ·iterate 3 (obtain⟨_,hq,h⟩:=bind_some h)
     obtain⟨s',rfl,e⟩:=rUp_last h
     rw[e,rClose_last hq.out];decide
    split at h
    ·obtain⟨_,hq,h⟩:=bind_some h
     obtain⟨s',rfl,e⟩:=rUp_last h
     rw[e]
     rcases array_last hq.out with e|e <;> rw[e] <;> decide
    split at h
    ·iterate 6 (obtain⟨_,hq,h⟩:=bind_some h)
     obtain⟨s',rfl,e⟩:=rUp_last h
     rw[e,rClose_last hq.out];decide
    split at h
    ·iterate 3 (obtain⟨_,hq,h⟩:=bind_some h)
     obtain⟨s',rfl,e⟩:=rUp_last h
     rw[e,rClose_last hq.out];decide
    split at h
    ·iterate 3 (obtain⟨_,hq,h⟩:=bind_some h)
     obtain⟨s',rfl,e⟩:=rUp_last h
     rw[e,rClose_last hq.out];decide
    ·obtain⟨_,hq,h⟩:=bind_some h
     obtain⟨s',rfl,e⟩:=rUp_last h
     obtain⟨_,_,_,e⟩:=rFail_bad hq.out
     cases e
theorem term_last {n:Nat} {x:Res} {t:St} (h:run n .term x=some (.ok t)):(t.last == 230)=(x.kind == 51):=by
 cases x with
 |fail a b c=>rw[run_fail] at h;cases h
 |ok s=>
  cases n with
  |zero=>exact absurd h (by unfold run;simp)
  |succ n=>
   rw[run] at h
   try dsimp only at h
   split at h
   ·rename_i hk
    obtain⟨_,_,h⟩:=bind_some h
    obtain⟨_,_,h⟩:=bind_some h
    rw[rClose_last h,hk]
    rfl
   ·rename_i hk
    rw[beq_eq_false_iff_ne.2 (type_last h),beq_eq_false_iff_ne.2 hk]
open Go.RowKit
theorem cconstraint_f:∀ (C:Kc) (w:World) (b:Nat) (d0 d1 d2:Int),Hid (CAt C w b (.fail d0 d1 d2))→Calls Tryz.prog 120 #[.pointer (some ⟨b,0,none⟩)] w (CPost C b (.fail d0 d1 d2)):=by
 intro C w b d0 d1 d2 hat
 have hl:(Res.fail d0 d1 d2).last=0:=rfl
 go_enter Tryz.func120,Tryz.ntmps120
 go_wp2_with (first|(go_at_call 61;first|(refine(cmark_at ‹_›).mono ?_;rintro e w' ⟨rfl,rfl⟩)|(refine(cmark_bad ‹_›).mono ?_;rintro e w' ⟨⟨v,_,rfl⟩,rfl⟩))|(go_at_call 63;refine(clast_at ‹_›).mono ?_;rintro e w' ⟨rfl,hat⟩)|(go_at_call 37;refine(cclose_at _ _ _ _ _ _ _ _ ‹_› (by first|exact fun _=>rfl|assumption|exact fun hb=>by cases hb) (by first|exact fun _=>low_ok ‹_›|(intro _;omega)|(intro hb;cases hb;done)|assumption) (by first|with_reducible assumption|exact Lib.hid rfl|assumption|exact run_hid _ _ _ _ _)).mono ?_;rintro e w' ⟨v,rfl,hat⟩)|(go_at_call 119;refine(cterms_f _ _ _ _ _ _ ‹_›).mono ?_;rintro e w' ⟨c,rfl,hat⟩;rcases Bool.eq_false_or_eq_true (decide (1<c)) with hd|hd))
 all_goals(first|go_end0|go_ret)
 all_goals exact⟨_,rfl,by assumption⟩
theorem cconstraint_s {n:Nat} (hn:n≤1099511627776) {C:Kc} {w:World} {b:Nat} {x z u:Res} (hat:Hid (CAt C w b x)) (h1:Hid (run n .term x=some z)) (h2:Hid ((if z.kind=26 then(run n .unionL z >>= fun v=>rClose x.len 229 v) else if x.kind=51 then rClose x.len 229 z else some z)=some u)) (ih:∀ k,k≤n→AllC k):Calls Tryz.prog 120 #[.pointer (some ⟨b,0,none⟩)] w (CPost C b u):=by
 have h3:=h2.out
 clear h2
 cases x with
 |fail d0 d1 d2=>
  have e:=h1.out
  rw[run_fail] at e
  obtain rfl:=Option.some.inj e
  rw[if_neg (by rw[Res.kind_fail];decide),if_neg (by rw[Res.kind_fail];decide)] at h3
  obtain rfl:=Option.some.inj h3
  exact cconstraint_f _ _ _ _ _ _ hat
 |ok s=>
  rw[show(Res.ok s).len=s.R.length from rfl] at h3
  cases z with
  |fail d0 d1 d2=>
   have hv:=run_hid n .unionL d0 d1 d2
   have hu:u=.fail d0 d1 d2:=by
    rw[if_neg (by rw[Res.kind_fail];decide)] at h3
    split at h3
    ·exact(Option.some.inj h3).symm
    ·exact(Option.some.inj h3).symm
   subst hu
   clear h3
   have hl:(Res.fail d0 d1 d2).last=0:=rfl
   all_goals go_enter Tryz.func120,Tryz.ntmps120
   all_goals go_wp2_with (first|(go_at_call 61;first|(refine(cmark_at ‹_›).mono ?_;rintro e w' ⟨rfl,rfl⟩)|(refine(cmark_bad ‹_›).mono ?_;rintro e w' ⟨⟨v,_,rfl⟩,rfl⟩))|(go_at_call 63;refine(clast_at ‹_›).mono ?_;rintro e w' ⟨rfl,hat⟩)|(go_at_call 37;refine(cclose_at _ _ _ _ _ _ _ _ ‹_› (by first|exact fun _=>rfl|assumption|exact fun hb=>by cases hb) (by first|exact fun _=>low_ok ‹_›|(intro _;omega)|(intro hb;cases hb;done)|assumption) (by first|with_reducible assumption|exact Lib.hid rfl|assumption|exact run_hid _ _ _ _ _)).mono ?_;rintro e w' ⟨v,rfl,hat⟩)|(go_at_call 119;refine(cterms_s (n:=n) (by omega) (fun j hj=>ih j (by omega)) _ _ _ _ _ _ ‹_› h1 hv).mono ?_;rintro e w' ⟨c,rfl,hat,hct⟩;rcases Bool.eq_false_or_eq_true (decide (1<c)) with hd|hd))
   all_goals(first|go_end0|go_ret)
   all_goals exact⟨_,rfl,by assumption⟩
  |ok zs=>
   by_cases h26:(Res.ok zs).kind=26
   ·rw[if_pos h26,bind_iff] at h3
    obtain⟨v,hv,h3⟩:=h3
    have e26:((Res.ok zs).kind == 26)=true:=beq_iff_eq.2 h26
    cases v with
    |fail d0 d1 d2=>
     obtain rfl:=Option.some.inj h3
     clear h3
     have hl:(Res.fail d0 d1 d2).last=0:=rfl
     all_goals go_enter Tryz.func120,Tryz.ntmps120
     all_goals go_wp2_with (first|(go_at_call 61;first|(refine(cmark_at ‹_›).mono ?_;rintro e w' ⟨rfl,rfl⟩)|(refine(cmark_bad ‹_›).mono ?_;rintro e w' ⟨⟨v,_,rfl⟩,rfl⟩))|(go_at_call 63;refine(clast_at ‹_›).mono ?_;rintro e w' ⟨rfl,hat⟩)|(go_at_call 37;refine(cclose_at _ _ _ _ _ _ _ _ ‹_› (by first|exact fun _=>rfl|assumption|exact fun hb=>by cases hb) (by first|exact fun _=>low_ok ‹_›|(intro _;omega)|(intro hb;cases hb;done)|assumption) (by first|with_reducible assumption|exact Lib.hid rfl|assumption|exact run_hid _ _ _ _ _)).mono ?_;rintro e w' ⟨v,rfl,hat⟩)|(go_at_call 119;refine(cterms_s (n:=n) (by omega) (fun j hj=>ih j (by omega)) _ _ _ _ _ _ ‹_› h1 hv).mono ?_;rintro e w' ⟨c,rfl,hat,hct⟩;rcases Bool.eq_false_or_eq_true (decide (1<c)) with hd|hd))
     all_goals(first|go_end0|go_ret)
     all_goals exact⟨_,rfl,by assumption⟩
    |ok vs=>
     replace h3:=Lib.hid h3
     all_goals go_enter Tryz.func120,Tryz.ntmps120
     all_goals go_wp2_with (first|(go_at_call 61;first|(refine(cmark_at ‹_›).mono ?_;rintro e w' ⟨rfl,rfl⟩)|(refine(cmark_bad ‹_›).mono ?_;rintro e w' ⟨⟨v,_,rfl⟩,rfl⟩))|(go_at_call 63;refine(clast_at ‹_›).mono ?_;rintro e w' ⟨rfl,hat⟩)|(go_at_call 37;refine(cclose_at _ _ _ _ _ _ _ _ ‹_› (by first|exact fun _=>rfl|assumption|exact fun hb=>by cases hb) (by first|exact fun _=>low_ok ‹_›|(intro _;omega)|(intro hb;cases hb;done)|assumption) (by first|with_reducible assumption|exact Lib.hid rfl|assumption|exact run_hid _ _ _ _ _)).mono ?_;rintro e w' ⟨v,rfl,hat⟩)|(go_at_call 119;refine(cterms_s (n:=n) (by omega) (fun j hj=>ih j (by omega)) _ _ _ _ _ _ ‹_› h1 hv).mono ?_;rintro e w' ⟨c,rfl,hat,hct⟩;have hd:=hct rfl;rw[e26] at hd))
     all_goals(first|go_end0|go_ret)
     all_goals exact⟨_,rfl,by assumption⟩
   ·rw[if_neg h26] at h3
    have e26:((Res.ok zs).kind == 26)=false:=beq_eq_false_iff_ne.2 h26
    cases n with
    |zero=>exact absurd h1.out (by unfold run;simp)
    |succ m=>
     have hv:Hid (run (m+1) .unionL (.ok zs)=some (.ok zs)):=Lib.hid (by rw[run];rw[if_neg h26])
     have hlt:=term_last h1.out
     have hls:(Res.ok zs).last=zs.last:=rfl
     by_cases h51:(Res.ok s).kind=51
     ·rw[if_pos h51] at h3
      replace h3:=Lib.hid h3
      have e230:((Res.ok zs).last == 230)=true:=by rw[hls,hlt,h51];rfl
      clear hls hlt
      all_goals go_enter Tryz.func120,Tryz.ntmps120
      all_goals go_wp2_with (first|(go_at_call 61;first|(refine(cmark_at ‹_›).mono ?_;rintro e w' ⟨rfl,rfl⟩)|(refine(cmark_bad ‹_›).mono ?_;rintro e w' ⟨⟨v,_,rfl⟩,rfl⟩))|(go_at_call 63;refine(clast_at ‹_›).mono ?_;rintro e w' ⟨rfl,hat⟩)|(go_at_call 37;refine(cclose_at _ _ _ _ _ _ _ _ ‹_› (by first|exact fun _=>rfl|assumption|exact fun hb=>by cases hb) (by first|exact fun _=>low_ok ‹_›|(intro _;omega)|(intro hb;cases hb;done)|assumption) (by first|with_reducible assumption|exact Lib.hid rfl|assumption|exact run_hid _ _ _ _ _)).mono ?_;rintro e w' ⟨v,rfl,hat⟩)|(go_at_call 119;refine(cterms_s (n:=m+1) (by omega) (fun j hj=>ih j (by omega)) _ _ _ _ _ _ ‹_› h1 hv).mono ?_;rintro e w' ⟨c,rfl,hat,hct⟩;have hd:=hct rfl;rw[e26] at hd))
      all_goals(first|go_end0|go_ret)
      all_goals exact⟨_,rfl,by assumption⟩
     ·rw[if_neg h51] at h3
      obtain rfl:=Option.some.inj h3
      have e230:((Res.ok zs).last == 230)=false:=by rw[hls,hlt];exact beq_eq_false_iff_ne.2 h51
      clear hls hlt h3
      all_goals go_enter Tryz.func120,Tryz.ntmps120
      all_goals go_wp2_with (first|(go_at_call 61;first|(refine(cmark_at ‹_›).mono ?_;rintro e w' ⟨rfl,rfl⟩)|(refine(cmark_bad ‹_›).mono ?_;rintro e w' ⟨⟨v,_,rfl⟩,rfl⟩))|(go_at_call 63;refine(clast_at ‹_›).mono ?_;rintro e w' ⟨rfl,hat⟩)|(go_at_call 37;refine(cclose_at _ _ _ _ _ _ _ _ ‹_› (by first|exact fun _=>rfl|assumption|exact fun hb=>by cases hb) (by first|exact fun _=>low_ok ‹_›|(intro _;omega)|(intro hb;cases hb;done)|assumption) (by first|with_reducible assumption|exact Lib.hid rfl|assumption|exact run_hid _ _ _ _ _)).mono ?_;rintro e w' ⟨v,rfl,hat⟩)|(go_at_call 119;refine(cterms_s (n:=m+1) (by omega) (fun j hj=>ih j (by omega)) _ _ _ _ _ _ ‹_› h1 hv).mono ?_;rintro e w' ⟨c,rfl,hat,hct⟩;have hd:=hct rfl;rw[e26] at hd))
      all_goals(first|go_end0|go_ret)
      all_goals exact⟨_,rfl,by assumption⟩
theorem ctypeParam_f:∀ (C:Kc) (w:World) (b:Nat) (d0 d1 d2:Int),Hid (CAt C w b (.fail d0 d1 d2))→Calls Tryz.prog 82 #[.pointer (some ⟨b,0,none⟩)] w (CPost C b (.fail d0 d1 d2)):=by
 intro C w b d0 d1 d2 hat
 go_enter Tryz.func82,Tryz.ntmps82
 go_wp2_with (first|(go_at_call 61;first|(refine(cmark_at ‹_›).mono ?_;rintro e w' ⟨rfl,rfl⟩)|(refine(cmark_bad ‹_›).mono ?_;rintro e w' ⟨⟨v,_,rfl⟩,rfl⟩))|(go_at_call 37;refine(cclose_at _ _ _ _ _ _ _ _ ‹_› (by first|exact fun _=>rfl|assumption|exact fun hb=>by cases hb) (by first|exact fun _=>low_ok ‹_›|(intro _;omega)|(intro hb;cases hb;done)|assumption) (by first|with_reducible assumption|exact Lib.hid rfl|assumption|exact run_hid _ _ _ _ _)).mono ?_;rintro e w' ⟨v,rfl,hat⟩)|(go_at_call 84;refine(cjoinedName_s (n:=0) (by omega) ‹_› (Lib.hid rfl) (run_hid _ _ _ _ _)).mono ?_;rintro e w' ⟨c,rfl,hat⟩)|(go_at_call 120;refine(cconstraint_f _ _ _ _ _ _ ‹_›).mono ?_;rintro e w' ⟨v,rfl,hat⟩))
 all_goals(first|go_end0|go_ret)
 all_goals exact⟨_,rfl,by assumption⟩
theorem ctypeParam_s {n:Nat} (hn:n≤1099511627776) (ih:∀ k,k≤n→AllC k):P0 82 (n+1) .group:=by
 have _:=ih
 intro C w b x y hat hy
 have hy:=hy.out
 cases x with
 |fail d0 d1 d2=>
  rw[run_fail] at hy
  obtain rfl:=Option.some.inj hy
  exact ctypeParam_f _ _ _ _ _ _ hat
 |ok s=>
  have hlo:C.low≤s.R.length:=low_nat hat
  rw[run] at hy
  try dsimp only at hy
  rw[bind_iff] at hy
  obtain⟨y0,hy0,hy⟩:=hy
  rw[bind_iff] at hy
  obtain⟨y1,hy1,hy⟩:=hy
  rw[bind_iff] at hy
  obtain⟨z,hz,hy⟩:=hy
  have hcase:∃ u,Hid ((if z.kind=26 then(run n .unionL z >>= fun v=>rClose y1.len 229 v) else if y1.kind=51 then rClose y1.len 229 z else some z)=some u)∧Hid (rClose s.R.length 233 u=some y):=by
   split at hy
   ·rename_i h26
    obtain⟨v,hv,hy⟩:=bind_some hy
    obtain⟨u,hu,hy⟩:=bind_some hy
    exact⟨u,Lib.hid (by rw[if_pos h26,hv.out];exact hu.out),Lib.hid hy⟩
   ·rename_i h26
    split at hy
    ·rename_i h51
     obtain⟨u,hu,hy⟩:=bind_some hy
     exact⟨u,Lib.hid (by rw[if_neg h26,if_pos h51];exact hu.out),Lib.hid hy⟩
    ·rename_i h51
     exact⟨z,Lib.hid (by rw[if_neg h26,if_neg h51]),Lib.hid hy⟩
  clear hy
  obtain⟨u,hu,hy⟩:=hcase
  all_goals go_enter Tryz.func82,Tryz.ntmps82
  all_goals go_wp2_with (first|(go_at_call 61;first|(refine(cmark_at ‹_›).mono ?_;rintro e w' ⟨rfl,rfl⟩)|(refine(cmark_bad ‹_›).mono ?_;rintro e w' ⟨⟨v,_,rfl⟩,rfl⟩))|(go_at_call 37;refine(cclose_at _ _ _ _ _ _ _ _ ‹_› (by first|exact fun _=>rfl|assumption|exact fun hb=>by cases hb) (by first|exact fun _=>low_ok ‹_›|(intro _;omega)|(intro hb;cases hb;done)|assumption) (by first|with_reducible assumption|exact Lib.hid rfl|assumption|exact run_hid _ _ _ _ _)).mono ?_;rintro e w' ⟨v,rfl,hat⟩)|(go_at_call 84;refine(cjoinedName_s (n:=n) (by omega) ‹_› (by first|with_reducible assumption|exact Lib.hid rfl) (by first|with_reducible assumption|exact run_hid _ _ _ _ _)).mono ?_;rintro e w' ⟨c,rfl,hat⟩)|(go_at_call 120;refine(cconstraint_s (n:=n) (by omega) ‹_› ‹_› ‹_› (fun j hj=>ih j (by omega))).mono ?_;rintro e w' ⟨v,rfl,hat⟩))
  all_goals(first|go_end0|go_ret)
  all_goals exact⟨_,rfl,by assumption⟩
open Go.RowKit
def rTl (k:Nat) (x:Res):Option Res:=if x.kind=60 then(rTake x >>= fun z=>if z.kind=63 then some z else run k .tpL z) else some x
def Mt (C:Kc) (b:Nat) (y:Res) (w:World) (k:Nat):Prop:=∃ x,Hid (CAt C w b x)∧Hid (rTl k x=some y)
noncomputable def mtOf (C:Kc) (b:Nat) (y:Res) (w:World):Nat:=least (Mt C b y w)
theorem Mt.out {C:Kc} {b k:Nat} {y:Res} {w:World} (h:Mt C b y w k):Mt C b y w (mtOf C b y w)∧mtOf C b y w≤k:=least_spec h
open Go.RowKit
end Go.Proofs.YtmelbeefjgjdhaaGreat.rd
