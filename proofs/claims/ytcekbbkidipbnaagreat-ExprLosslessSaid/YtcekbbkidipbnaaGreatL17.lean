/-
  Texts put together: Ib, It, Kg, Kh, Ki.
-/
import Derived.Test.YtcekbbkidipbnaaGreatL7
import Derived.Test.YtcekbbkidipbnaaGreatL12
import Derived.Test.YtcekbbkidipbnaaGreatL9
import Derived.Test.YtcekbbkidipbnaaGreatL15
import Derived.Test.YtcekbbkidipbnaaGreatL16
import Derived.Test.YtcekbbkidipbnaaGreatL8
import Derived.Test.YtcekbbkidipbnaaGreatL2
set_option maxRecDepth 100000
set_option maxHeartbeats 8000000
namespace Go.Proofs.YtcekbbkidipbnaaGreat.rd
open Go.RowKit
theorem ctakes_is {C:Kc} {w:World} {b:Nat} {s:St} {t:Tree} {hd r:Bool} (h:Hid (CAt C w b (.ok s))) (hl:Hid (s.R.getLast? = some t)) (hW:Hid (Wk t)) (hr:Hid (literalT t hd=r)):Calls Tryz.prog 157 #[.pointer (some ⟨b,0,none⟩),.bool hd] w fun e w'=>e=.returned (.bool r)∧Hid (CAt C w' b (.ok s)):=by
 rw[← hr.out];exact ctakes_at h hl.out hW.out
def Mr (C:Kc) (b:Nat) (y:Res) (h:Bool) (m:Nat) (w:World) (k:Nat):Prop:=∃ x,Hid (CAt C w b x)∧Hid (run k (.primL h m) x=some y)∧Hid (∀ s,x=.ok s→Pr m s)
noncomputable def mrOf (C:Kc) (b:Nat) (y:Res) (h:Bool) (m:Nat) (w:World):Nat:=least (Mr C b y h m w)
theorem Mr.out {C:Kc} {b k m:Nat} {y:Res} {h:Bool} {w:World} (hr:Mr C b y h m w k):Mr C b y h m w (mrOf C b y h m w)∧mrOf C b y h m w≤k:=least_spec hr
theorem Mr.less {C:Kc} {b k m:Nat} {x y:Res} {h:Bool} {w w0:World} (h1:Hid (CAt C w b x)) (h2:Hid (run k (.primL h m) x=some y)) (h3:Hid (∀ s,x=.ok s→Pr m s)) (hq:mrOf C b y h m w0=k+1):mrOf C b y h m w<mrOf C b y h m w0:=by
 have h4:=(Mr.out ⟨x,h1,h2,h3⟩).2
 omega
theorem cprimary_s {n:Nat} (ih:∀ k,k≤n→AllC k):PB 137 (n+1) .primary:=by
 intro C w b x y h hat hy
 have hy:=hy.out
 cases x with
 |fail d0 d1 d2=>
  rw[run_fail] at hy
  obtain rfl:=Option.some.inj hy
  exact cprimary_f _ _ _ _ _ _ _ hat
 |ok s=>
  have hlo:C.low≤s.R.length:=low_nat hat
  rw[run] at hy
  rw[bind_iff] at hy
  obtain⟨z1,hz1,hy⟩:=hy
  replace hy:=Lib.hid hy
  go_enter Tryz.func137,Tryz.ntmps137
  go_wp2_with (first|(go_at_call 61;first|(refine(cmark_at ‹_›).mono ?_;rintro e w' ⟨rfl,rfl⟩)|(refine(cmark_bad ‹_›).mono ?_;rintro e w' ⟨⟨v,_,rfl⟩,rfl⟩))|(go_at_call 153;first|(refine((ih _ ?hk).operand _ _ _ _ _ ‹_› ‹_›).mono ?_;(case hk=>omega);rintro e w' ⟨v,rfl,hat⟩)|(refine(coperand_f _ _ _ _ _ _ ‹_›).mono ?_;rintro e w' ⟨v,rfl,hat⟩))|(go_at_call 57;first|(refine(ckind_is ‹_› ‹_›).mono ?_;rintro e w' ⟨rfl,hat⟩)|(refine(ckind_at ‹_›).mono ?_;rintro e w' ⟨rfl,hat⟩)))
  go_step3
  go_wp2_with (first|(go_at_call 61;first|(refine(cmark_at ‹_›).mono ?_;rintro e w' ⟨rfl,rfl⟩)|(refine(cmark_bad ‹_›).mono ?_;rintro e w' ⟨⟨v,_,rfl⟩,rfl⟩))|(go_at_call 153;first|(refine((ih _ ?hk).operand _ _ _ _ _ ‹_› ‹_›).mono ?_;(case hk=>omega);rintro e w' ⟨v,rfl,hat⟩)|(refine(coperand_f _ _ _ _ _ _ ‹_›).mono ?_;rintro e w' ⟨v,rfl,hat⟩))|(go_at_call 57;first|(refine(ckind_is ‹_› ‹_›).mono ?_;rintro e w' ⟨rfl,hat⟩)|(refine(ckind_at ‹_›).mono ?_;rintro e w' ⟨rfl,hat⟩)))
  go_step3
  go_wp2_with (first|(go_at_call 61;first|(refine(cmark_at ‹_›).mono ?_;rintro e w' ⟨rfl,rfl⟩)|(refine(cmark_bad ‹_›).mono ?_;rintro e w' ⟨⟨v,_,rfl⟩,rfl⟩))|(go_at_call 153;first|(refine((ih _ ?hk).operand _ _ _ _ _ ‹_› ‹_›).mono ?_;(case hk=>omega);rintro e w' ⟨v,rfl,hat⟩)|(refine(coperand_f _ _ _ _ _ _ ‹_›).mono ?_;rintro e w' ⟨v,rfl,hat⟩))|(go_at_call 57;first|(refine(ckind_is ‹_› ‹_›).mono ?_;rintro e w' ⟨rfl,hat⟩)|(refine(ckind_at ‹_›).mono ?_;rintro e w' ⟨rfl,hat⟩)))
  go_loopw [] (fun wr=>∃ k,k≤n∧Mr C b y h s.R.length wr k) (fun wr=>mrOf C b y h s.R.length wr)
  case atStart=>exact⟨n,Nat.le_refl _,z1,by assumption,by assumption,Lib.hid (fun s2 e=>by subst e;exact pr_operand hz1.out)⟩
  case round=>
   clear hat hy hz1
   obtain⟨k0,hk0n,hmr⟩:=hrel
   obtain⟨⟨x',hat',hr,hpx⟩,hle⟩:=hmr.out
   obtain⟨q,hq⟩:∃ q,mrOf C b y h s.R.length wr=q:=⟨_,rfl⟩
   rw[hq] at hr hle
   clear hmr
   cases x' with
   |fail d0 d1 d2=>
    have hk0:(Res.fail d0 d1 d2).kind=0:=rfl
    have e:=hr.out
    rw[run_fail] at e
    obtain rfl:=Option.some.inj e
    clear hr
    go_wp2_with (first
   |(go_at_call 61;first|(refine(cmark_at ‹_›).mono ?_;rintro e w' ⟨rfl,rfl⟩)|(refine(cmark_bad ‹_›).mono ?_;rintro e w' ⟨⟨v,_,rfl⟩,rfl⟩))
   |(go_at_call 153;first|(refine((ih _ ?hk).operand _ _ _ _ _ ‹_› ‹_›).mono ?_;(case hk=>omega);rintro e w' ⟨v,rfl,hat⟩)|(refine(coperand_f _ _ _ _ _ _ ‹_›).mono ?_;rintro e w' ⟨v,rfl,hat⟩))
   |(go_at_call 57;first|(refine(ckind_is ‹_› ‹_›).mono ?_;rintro e w' ⟨rfl,hat⟩)|(refine(ckind_at ‹_›).mono ?_;rintro e w' ⟨rfl,hat⟩)))
    all_goals(try rw[Exit.noGoto_ret])
    all_goals(first|go_end0|go_ret)
    all_goals exact⟨_,rfl,by assumption⟩
   |ok s'=>
   have hpr:Hid (Pr s.R.length s'):=Lib.hid (hpx.out s' rfl)
   obtain⟨k,rfl⟩:=run_pos hr.out
   have hy':=hr.out
   clear hr hpx
   rw[run] at hy'
   try dsimp only at hy'
   by_cases h61:(Res.ok s').kind=61
   ·rw[if_pos h61,bind_iff] at hy'
    obtain⟨z1,hz1,hy'⟩:=hy'
    have HP:Hid (∀ s2,z1=.ok s2→Pr s.R.length s2):=Lib.hid (fun s2 e=>by subst e;exact pr_period hpr.out hz1.out)
    replace hy':=Lib.hid hy'
    go_wp2_with (first
   |(go_at_call 61;first|(refine(cmark_at ‹_›).mono ?_;rintro e w' ⟨rfl,rfl⟩)|(refine(cmark_bad ‹_›).mono ?_;rintro e w' ⟨⟨v,_,rfl⟩,rfl⟩))
   |(go_at_call 153;first|(refine((ih _ ?hk).operand _ _ _ _ _ ‹_› ‹_›).mono ?_;(case hk=>omega);rintro e w' ⟨v,rfl,hat⟩)|(refine(coperand_f _ _ _ _ _ _ ‹_›).mono ?_;rintro e w' ⟨v,rfl,hat⟩))
   |(go_at_call 57;first|(refine(ckind_is ‹_› ‹_›).mono ?_;rintro e w' ⟨rfl,hat⟩)|(refine(ckind_at ‹_›).mono ?_;rintro e w' ⟨rfl,hat⟩))
   |(go_at_call 154;first|(refine((ih _ ?hk).period _ _ _ _ _ _ _ ‹_› (by first|exact fun _=>rfl|assumption|exact fun hb=>by cases hb) (by first|exact fun _=>low_nat ‹_›|(intro _;omega)|(intro hb;cases hb;done)|assumption) ‹_›).mono ?_;(case hk=>omega);rintro e w' ⟨v,rfl,hat⟩))
   |(go_at_call 155;first|(refine((ih _ ?hk).index _ _ _ _ _ _ _ ‹_› (by first|exact fun _=>rfl|assumption|exact fun hb=>by cases hb) (by first|exact fun _=>low_nat ‹_›|(intro _;omega)|(intro hb;cases hb;done)|assumption) ‹_›).mono ?_;(case hk=>omega);rintro e w' ⟨v,rfl,hat⟩))
   |(go_at_call 156;first|(refine((ih _ ?hk).call _ _ _ _ _ _ _ ‹_› (by first|exact fun _=>rfl|assumption|exact fun hb=>by cases hb) (by first|exact fun _=>low_nat ‹_›|(intro _;omega)|(intro hb;cases hb;done)|assumption) ‹_›).mono ?_;(case hk=>omega);rintro e w' ⟨v,rfl,hat⟩))
   |(go_at_call 158;refine((ih _ ?hk).values _ _ _ _ _ _ _ _ _ ‹_› (by first|exact fun _=>rfl|assumption|exact fun hb=>by cases hb) (by first|exact fun _=>low_ok ‹_›|(intro _;omega)|(intro hb;cases hb;done)|assumption) ‹_› ‹_›).mono ?_;(case hk=>omega);rintro e w' ⟨v,rfl,hat⟩)
   |(go_at_call 157;refine(ctakes_is ‹_› hgl hgw hlit).mono ?_;rintro e w' ⟨rfl,hat⟩))
    all_goals go_roundw
    case rel=>exact⟨k,by omega,_,by assumption,by assumption,HP⟩
    case measure=>exact Mr.less ‹_› ‹_› HP hq
   rw[if_neg h61] at hy'
   have e61:((Res.ok s').kind == 61)=false:=beq_eq_false_iff_ne.2 h61
   by_cases h58:(Res.ok s').kind=58
   ·rw[if_pos h58,bind_iff] at hy'
    obtain⟨z1,hz1,hy'⟩:=hy'
    have HP:Hid (∀ s2,z1=.ok s2→Pr s.R.length s2):=Lib.hid (fun s2 e=>by subst e;exact pr_index hpr.out hz1.out)
    replace hy':=Lib.hid hy'
    go_wp2_with (first
   |(go_at_call 61;first|(refine(cmark_at ‹_›).mono ?_;rintro e w' ⟨rfl,rfl⟩)|(refine(cmark_bad ‹_›).mono ?_;rintro e w' ⟨⟨v,_,rfl⟩,rfl⟩))
   |(go_at_call 153;first|(refine((ih _ ?hk).operand _ _ _ _ _ ‹_› ‹_›).mono ?_;(case hk=>omega);rintro e w' ⟨v,rfl,hat⟩)|(refine(coperand_f _ _ _ _ _ _ ‹_›).mono ?_;rintro e w' ⟨v,rfl,hat⟩))
   |(go_at_call 57;first|(refine(ckind_is ‹_› ‹_›).mono ?_;rintro e w' ⟨rfl,hat⟩)|(refine(ckind_at ‹_›).mono ?_;rintro e w' ⟨rfl,hat⟩))
   |(go_at_call 154;first|(refine((ih _ ?hk).period _ _ _ _ _ _ _ ‹_› (by first|exact fun _=>rfl|assumption|exact fun hb=>by cases hb) (by first|exact fun _=>low_nat ‹_›|(intro _;omega)|(intro hb;cases hb;done)|assumption) ‹_›).mono ?_;(case hk=>omega);rintro e w' ⟨v,rfl,hat⟩))
   |(go_at_call 155;first|(refine((ih _ ?hk).index _ _ _ _ _ _ _ ‹_› (by first|exact fun _=>rfl|assumption|exact fun hb=>by cases hb) (by first|exact fun _=>low_nat ‹_›|(intro _;omega)|(intro hb;cases hb;done)|assumption) ‹_›).mono ?_;(case hk=>omega);rintro e w' ⟨v,rfl,hat⟩))
   |(go_at_call 156;first|(refine((ih _ ?hk).call _ _ _ _ _ _ _ ‹_› (by first|exact fun _=>rfl|assumption|exact fun hb=>by cases hb) (by first|exact fun _=>low_nat ‹_›|(intro _;omega)|(intro hb;cases hb;done)|assumption) ‹_›).mono ?_;(case hk=>omega);rintro e w' ⟨v,rfl,hat⟩))
   |(go_at_call 158;refine((ih _ ?hk).values _ _ _ _ _ _ _ _ _ ‹_› (by first|exact fun _=>rfl|assumption|exact fun hb=>by cases hb) (by first|exact fun _=>low_ok ‹_›|(intro _;omega)|(intro hb;cases hb;done)|assumption) ‹_› ‹_›).mono ?_;(case hk=>omega);rintro e w' ⟨v,rfl,hat⟩)
   |(go_at_call 157;refine(ctakes_is ‹_› hgl hgw hlit).mono ?_;rintro e w' ⟨rfl,hat⟩))
    all_goals go_roundw
    case rel=>exact⟨k,by omega,_,by assumption,by assumption,HP⟩
    case measure=>exact Mr.less ‹_› ‹_› HP hq
   rw[if_neg h58] at hy'
   have e58:((Res.ok s').kind == 58)=false:=beq_eq_false_iff_ne.2 h58
   by_cases h57:(Res.ok s').kind=57
   ·rw[if_pos h57,bind_iff] at hy'
    obtain⟨z1,hz1,hy'⟩:=hy'
    have HP:Hid (∀ s2,z1=.ok s2→Pr s.R.length s2):=Lib.hid (fun s2 e=>by subst e;exact pr_call hpr.out hz1.out)
    replace hy':=Lib.hid hy'
    go_wp2_with (first
   |(go_at_call 61;first|(refine(cmark_at ‹_›).mono ?_;rintro e w' ⟨rfl,rfl⟩)|(refine(cmark_bad ‹_›).mono ?_;rintro e w' ⟨⟨v,_,rfl⟩,rfl⟩))
   |(go_at_call 153;first|(refine((ih _ ?hk).operand _ _ _ _ _ ‹_› ‹_›).mono ?_;(case hk=>omega);rintro e w' ⟨v,rfl,hat⟩)|(refine(coperand_f _ _ _ _ _ _ ‹_›).mono ?_;rintro e w' ⟨v,rfl,hat⟩))
   |(go_at_call 57;first|(refine(ckind_is ‹_› ‹_›).mono ?_;rintro e w' ⟨rfl,hat⟩)|(refine(ckind_at ‹_›).mono ?_;rintro e w' ⟨rfl,hat⟩))
   |(go_at_call 154;first|(refine((ih _ ?hk).period _ _ _ _ _ _ _ ‹_› (by first|exact fun _=>rfl|assumption|exact fun hb=>by cases hb) (by first|exact fun _=>low_nat ‹_›|(intro _;omega)|(intro hb;cases hb;done)|assumption) ‹_›).mono ?_;(case hk=>omega);rintro e w' ⟨v,rfl,hat⟩))
   |(go_at_call 155;first|(refine((ih _ ?hk).index _ _ _ _ _ _ _ ‹_› (by first|exact fun _=>rfl|assumption|exact fun hb=>by cases hb) (by first|exact fun _=>low_nat ‹_›|(intro _;omega)|(intro hb;cases hb;done)|assumption) ‹_›).mono ?_;(case hk=>omega);rintro e w' ⟨v,rfl,hat⟩))
   |(go_at_call 156;first|(refine((ih _ ?hk).call _ _ _ _ _ _ _ ‹_› (by first|exact fun _=>rfl|assumption|exact fun hb=>by cases hb) (by first|exact fun _=>low_nat ‹_›|(intro _;omega)|(intro hb;cases hb;done)|assumption) ‹_›).mono ?_;(case hk=>omega);rintro e w' ⟨v,rfl,hat⟩))
   |(go_at_call 158;refine((ih _ ?hk).values _ _ _ _ _ _ _ _ _ ‹_› (by first|exact fun _=>rfl|assumption|exact fun hb=>by cases hb) (by first|exact fun _=>low_ok ‹_›|(intro _;omega)|(intro hb;cases hb;done)|assumption) ‹_› ‹_›).mono ?_;(case hk=>omega);rintro e w' ⟨v,rfl,hat⟩)
   |(go_at_call 157;refine(ctakes_is ‹_› hgl hgw hlit).mono ?_;rintro e w' ⟨rfl,hat⟩))
    all_goals go_roundw
    case rel=>exact⟨k,by omega,_,by assumption,by assumption,HP⟩
    case measure=>exact Mr.less ‹_› ‹_› HP hq
   rw[if_neg h57] at hy'
   have e57:((Res.ok s').kind == 57)=false:=beq_eq_false_iff_ne.2 h57
   by_cases h59:(Res.ok s').kind=59
   ·have hgl:Hid (s'.R.getLast? = some (headT (s'.R.drop s.R.length))):=Lib.hid hpr.out.head.1
    have hgw:Hid (Wk (headT (s'.R.drop s.R.length))):=Lib.hid hpr.out.head.2
    have hlt:(Res.ok s').lit s.R.length h=literalT (headT (s'.R.drop s.R.length)) h:=rfl
    rw[hlt] at hy'
    obtain⟨lt,hl2⟩:∃ lt,literalT (headT (s'.R.drop s.R.length)) h=lt:=⟨_,rfl⟩
    rw[hl2] at hy'
    have hlit:=Lib.hid hl2
    clear hlt hl2
    cases lt with
    |true=>
     rw[if_pos ⟨h59,rfl⟩,bind_iff] at hy'
     obtain⟨z2,hz2,hy'⟩:=hy'
     rw[bind_iff] at hy'
     obtain⟨z3,hz3,hy'⟩:=hy'
     have HP:Hid (∀ s2,z3=.ok s2→Pr s.R.length s2):=Lib.hid (fun s2 e=>by subst e;exact pr_comp hpr.out hz2.out hz3.out)
     replace hy':=Lib.hid hy'
     go_wp2_with (first
    |(go_at_call 61;first|(refine(cmark_at ‹_›).mono ?_;rintro e w' ⟨rfl,rfl⟩)|(refine(cmark_bad ‹_›).mono ?_;rintro e w' ⟨⟨v,_,rfl⟩,rfl⟩))
    |(go_at_call 153;first|(refine((ih _ ?hk).operand _ _ _ _ _ ‹_› ‹_›).mono ?_;(case hk=>omega);rintro e w' ⟨v,rfl,hat⟩)|(refine(coperand_f _ _ _ _ _ _ ‹_›).mono ?_;rintro e w' ⟨v,rfl,hat⟩))
    |(go_at_call 57;first|(refine(ckind_is ‹_› ‹_›).mono ?_;rintro e w' ⟨rfl,hat⟩)|(refine(ckind_at ‹_›).mono ?_;rintro e w' ⟨rfl,hat⟩))
    |(go_at_call 154;first|(refine((ih _ ?hk).period _ _ _ _ _ _ _ ‹_› (by first|exact fun _=>rfl|assumption|exact fun hb=>by cases hb) (by first|exact fun _=>low_nat ‹_›|(intro _;omega)|(intro hb;cases hb;done)|assumption) ‹_›).mono ?_;(case hk=>omega);rintro e w' ⟨v,rfl,hat⟩))
    |(go_at_call 155;first|(refine((ih _ ?hk).index _ _ _ _ _ _ _ ‹_› (by first|exact fun _=>rfl|assumption|exact fun hb=>by cases hb) (by first|exact fun _=>low_nat ‹_›|(intro _;omega)|(intro hb;cases hb;done)|assumption) ‹_›).mono ?_;(case hk=>omega);rintro e w' ⟨v,rfl,hat⟩))
    |(go_at_call 156;first|(refine((ih _ ?hk).call _ _ _ _ _ _ _ ‹_› (by first|exact fun _=>rfl|assumption|exact fun hb=>by cases hb) (by first|exact fun _=>low_nat ‹_›|(intro _;omega)|(intro hb;cases hb;done)|assumption) ‹_›).mono ?_;(case hk=>omega);rintro e w' ⟨v,rfl,hat⟩))
    |(go_at_call 158;refine((ih _ ?hk).values _ _ _ _ _ _ _ _ _ ‹_› (by first|exact fun _=>rfl|assumption|exact fun hb=>by cases hb) (by first|exact fun _=>low_ok ‹_›|(intro _;omega)|(intro hb;cases hb;done)|assumption) ‹_› ‹_›).mono ?_;(case hk=>omega);rintro e w' ⟨v,rfl,hat⟩)
    |(go_at_call 157;refine(ctakes_is ‹_› hgl hgw hlit).mono ?_;rintro e w' ⟨rfl,hat⟩))
     all_goals go_roundw
     case rel=>exact⟨k,by omega,_,by assumption,by assumption,HP⟩
     case measure=>exact Mr.less ‹_› ‹_› HP hq
    |false=>
     rw[if_neg (fun h=>by cases h.2)] at hy'
     obtain rfl:=Option.some.inj hy'
     clear hy'
     go_wp2_with (first
   |(go_at_call 61;first|(refine(cmark_at ‹_›).mono ?_;rintro e w' ⟨rfl,rfl⟩)|(refine(cmark_bad ‹_›).mono ?_;rintro e w' ⟨⟨v,_,rfl⟩,rfl⟩))
   |(go_at_call 153;first|(refine((ih _ ?hk).operand _ _ _ _ _ ‹_› ‹_›).mono ?_;(case hk=>omega);rintro e w' ⟨v,rfl,hat⟩)|(refine(coperand_f _ _ _ _ _ _ ‹_›).mono ?_;rintro e w' ⟨v,rfl,hat⟩))
   |(go_at_call 57;first|(refine(ckind_is ‹_› ‹_›).mono ?_;rintro e w' ⟨rfl,hat⟩)|(refine(ckind_at ‹_›).mono ?_;rintro e w' ⟨rfl,hat⟩))
   |(go_at_call 154;first|(refine((ih _ ?hk).period _ _ _ _ _ _ _ ‹_› (by first|exact fun _=>rfl|assumption|exact fun hb=>by cases hb) (by first|exact fun _=>low_nat ‹_›|(intro _;omega)|(intro hb;cases hb;done)|assumption) ‹_›).mono ?_;(case hk=>omega);rintro e w' ⟨v,rfl,hat⟩))
   |(go_at_call 155;first|(refine((ih _ ?hk).index _ _ _ _ _ _ _ ‹_› (by first|exact fun _=>rfl|assumption|exact fun hb=>by cases hb) (by first|exact fun _=>low_nat ‹_›|(intro _;omega)|(intro hb;cases hb;done)|assumption) ‹_›).mono ?_;(case hk=>omega);rintro e w' ⟨v,rfl,hat⟩))
   |(go_at_call 156;first|(refine((ih _ ?hk).call _ _ _ _ _ _ _ ‹_› (by first|exact fun _=>rfl|assumption|exact fun hb=>by cases hb) (by first|exact fun _=>low_nat ‹_›|(intro _;omega)|(intro hb;cases hb;done)|assumption) ‹_›).mono ?_;(case hk=>omega);rintro e w' ⟨v,rfl,hat⟩))
   |(go_at_call 158;refine((ih _ ?hk).values _ _ _ _ _ _ _ _ _ ‹_› (by first|exact fun _=>rfl|assumption|exact fun hb=>by cases hb) (by first|exact fun _=>low_ok ‹_›|(intro _;omega)|(intro hb;cases hb;done)|assumption) ‹_› ‹_›).mono ?_;(case hk=>omega);rintro e w' ⟨v,rfl,hat⟩)
   |(go_at_call 157;refine(ctakes_is ‹_› hgl hgw hlit).mono ?_;rintro e w' ⟨rfl,hat⟩))
     all_goals(try rw[Exit.noGoto_ret])
     all_goals(first|go_end0|go_ret)
     all_goals exact⟨_,rfl,by assumption⟩
   ·rw[if_neg (fun h=>h59 h.1)] at hy'
    have e59:((Res.ok s').kind == 59)=false:=beq_eq_false_iff_ne.2 h59
    obtain rfl:=Option.some.inj hy'
    clear hy'
    go_wp2_with (first
   |(go_at_call 61;first|(refine(cmark_at ‹_›).mono ?_;rintro e w' ⟨rfl,rfl⟩)|(refine(cmark_bad ‹_›).mono ?_;rintro e w' ⟨⟨v,_,rfl⟩,rfl⟩))
   |(go_at_call 153;first|(refine((ih _ ?hk).operand _ _ _ _ _ ‹_› ‹_›).mono ?_;(case hk=>omega);rintro e w' ⟨v,rfl,hat⟩)|(refine(coperand_f _ _ _ _ _ _ ‹_›).mono ?_;rintro e w' ⟨v,rfl,hat⟩))
   |(go_at_call 57;first|(refine(ckind_is ‹_› ‹_›).mono ?_;rintro e w' ⟨rfl,hat⟩)|(refine(ckind_at ‹_›).mono ?_;rintro e w' ⟨rfl,hat⟩))
   |(go_at_call 154;first|(refine((ih _ ?hk).period _ _ _ _ _ _ _ ‹_› (by first|exact fun _=>rfl|assumption|exact fun hb=>by cases hb) (by first|exact fun _=>low_nat ‹_›|(intro _;omega)|(intro hb;cases hb;done)|assumption) ‹_›).mono ?_;(case hk=>omega);rintro e w' ⟨v,rfl,hat⟩))
   |(go_at_call 155;first|(refine((ih _ ?hk).index _ _ _ _ _ _ _ ‹_› (by first|exact fun _=>rfl|assumption|exact fun hb=>by cases hb) (by first|exact fun _=>low_nat ‹_›|(intro _;omega)|(intro hb;cases hb;done)|assumption) ‹_›).mono ?_;(case hk=>omega);rintro e w' ⟨v,rfl,hat⟩))
   |(go_at_call 156;first|(refine((ih _ ?hk).call _ _ _ _ _ _ _ ‹_› (by first|exact fun _=>rfl|assumption|exact fun hb=>by cases hb) (by first|exact fun _=>low_nat ‹_›|(intro _;omega)|(intro hb;cases hb;done)|assumption) ‹_›).mono ?_;(case hk=>omega);rintro e w' ⟨v,rfl,hat⟩))
   |(go_at_call 158;refine((ih _ ?hk).values _ _ _ _ _ _ _ _ _ ‹_› (by first|exact fun _=>rfl|assumption|exact fun hb=>by cases hb) (by first|exact fun _=>low_ok ‹_›|(intro _;omega)|(intro hb;cases hb;done)|assumption) ‹_› ‹_›).mono ?_;(case hk=>omega);rintro e w' ⟨v,rfl,hat⟩)
   |(go_at_call 157;refine(ctakes_is ‹_› hgl hgw hlit).mono ?_;rintro e w' ⟨rfl,hat⟩))
    all_goals(try rw[Exit.noGoto_ret])
    all_goals(first|go_end0|go_ret)
    all_goals exact⟨_,rfl,by assumption⟩
open Go.RowKit
theorem crun_zero {p:Pc} {s:St} {y:Res} (h:Hid (run 0 p (.ok s)=some y)):False:=by
 have:=h.out
 unfold run at this
 simp at this
theorem crun_bad {n:Nat} {p:Pc} {a b c:Int} {y:Res} (h:Hid (run n p (.fail a b c)=some y)):y=.fail a b c:=by
 have:=h.out
 rw[run_fail] at this
 exact(Option.some.inj this).symm
theorem p0_zero {f:Nat} {p:Pc} (h:∀ (C:Kc) (w:World) (b:Nat) (d0 d1 d2:Int),Hid (CAt C w b (.fail d0 d1 d2))→Calls Tryz.prog f #[.pointer (some ⟨b,0,none⟩)] w (CPost C b (.fail d0 d1 d2))):P0 f 0 p:=by
 intro C w b x y hat hy
 cases x with
 |ok s=>exact(crun_zero hy).elim
 |fail d0 d1 d2=>obtain rfl:=crun_bad hy;exact h _ _ _ _ _ _ hat
theorem pb_zero {f:Nat} {p:Bool→Pc} (h:∀ (C:Kc) (w:World) (b:Nat) (d0 d1 d2:Int) (hd:Bool),Hid (CAt C w b (.fail d0 d1 d2))→Calls Tryz.prog f #[.pointer (some ⟨b,0,none⟩),.bool hd] w (CPost C b (.fail d0 d1 d2))):PB f 0 p:=by
 intro C w b x y hd hat hy
 cases x with
 |ok s=>exact(crun_zero hy).elim
 |fail d0 d1 d2=>obtain rfl:=crun_bad hy;exact h _ _ _ _ _ _ _ hat
theorem pm_zero {f:Nat} {p:Nat→Pc} (h:∀ (C:Kc) (w:World) (b:Nat) (d0 d1 d2:Int) (m:Int),Hid (CAt C w b (.fail d0 d1 d2))→Calls Tryz.prog f #[.pointer (some ⟨b,0,none⟩),.int .i64 m] w (CPost C b (.fail d0 d1 d2))):PM f 0 p:=by
 intro C w b x y m m' hat hm hlw hy
 cases x with
 |ok s=>exact(crun_zero hy).elim
 |fail d0 d1 d2=>obtain rfl:=crun_bad hy;exact h _ _ _ _ _ _ _ hat
theorem allC_zero:AllC 0 where
 X:=pb_zero cX_f
 unary:=pb_zero cunary_f
 primary:=pb_zero cprimary_f
 binary:=by
  intro C w b x y p h hat hy
  cases x with
  |ok s=>exact(crun_zero hy).elim
  |fail d0 d1 d2=>obtain rfl:=crun_bad hy;exact cbinary_f _ _ _ _ _ _ _ _ hat
 period:=pm_zero cselection_f
 index:=pm_zero cindex_f
 cut:=pm_zero ccut_f
 call:=pm_zero ccall_f
 value:=p0_zero cvalue_f
 operand:=p0_zero coperand_f
 flat:=p0_zero cflat_f
 type:=p0_zero cType_f
 field:=p0_zero cfield_f
 element:=p0_zero celement_f
 term:=p0_zero cterm_f
 sig:=p0_zero (csig_low cParams_f)
 params:=p0_zero cParams_f
 group:=p0_zero ctypeParam_f
 values:=by
  intro C w b x z y m m' k hat hm hlw hz hy
  cases x with
  |ok s=>exact(crun_zero hz).elim
  |fail d0 d1 d2=>
   obtain rfl:=crun_bad hz
   obtain rfl:=Option.some.inj (show some (Res.fail d0 d1 d2)=some y from hy.out)
   exact cvalues_f _ _ _ _ _ _ _ _ hat
 array:=by
  intro C w b s y hat hy
  exact(crun_zero hy).elim
theorem allC_succ (n:Nat) (hn:n≤1099511627776) (ih:∀ k,k≤n→AllC k):AllC (n+1) where
 X:=cX_s ih
 unary:=cunary_s ih
 primary:=cprimary_s ih
 binary:=cbinary_s ih
 period:=cselection_s ih
 index:=cindex_s ih
 cut:=ccut_s ih
 call:=ccall_s ih
 value:=cvalue_s ih
 operand:=coperand_s ih
 flat:=cflat_s ih hn
 type:=cType_s ih
 field:=cfield_s hn ih
 element:=celement_s hn ih
 term:=cterm_s ih
 sig:=cSig_s cParams_f ih
 params:=cParams_s hn ih
 group:=ctypeParam_s hn ih
 values:=cvalues_s ih
 array:=csequence_s ih
theorem prog_all:∀ n,n≤1099511627776→AllC n:=by
 intro n
 induction n using Nat.strongRecOn with
 |_ n ih=>
  intro hn
  cases n with
  |zero=>exact allC_zero
  |succ n=>exact allC_succ n (by omega) (fun k hk=>ih k (by omega) (by omega))
theorem prog_List (n:Nat) (hn:n≤1099511627775):PB 26 (n+1) .list:=cList_s (by omega) (fun k hk=>prog_all k (by omega))
theorem prog_TParams (n:Nat) (hn:n≤1099511627775):P0 25 (n+1) .tparams:=cTParams_s (fun k hk=>prog_all k (by omega))
open Go.RowKit
theorem four_cells0 {w:World} {X:Nat} {x0 x1 x2 x3:Value} {e:TypeId} (h:w.heap[X]? = some (.cells #[x0,x1,x2,x3] e (0,0))):(w.cell? ⟨X,0,none⟩=some x0∧w.cell? ⟨X,1,none⟩=some x1∧w.cell? ⟨X,2,none⟩=some x2∧w.cell? ⟨X,3,none⟩=some x3)∧∀ j,w.frozen? ⟨X,j,none⟩=false:=
 ⟨⟨by rw[cell_of_row w X 0 _ _ _ h];rfl,by rw[cell_of_row w X 1 _ _ _ h];rfl,by rw[cell_of_row w X 2 _ _ _ h];rfl,by rw[cell_of_row w X 3 _ _ _ h];rfl⟩,fun j=>frozen_of_row w X j _ _ h⟩
def CopT (t:Tree):Prop:=∀ (w:World) (D:Nat→Prop) (n:Rn),Tie w D t n→OfNodes w D→Calls Tryz.prog 66 #[n.v] w fun e w'=>∃ (n':Rn) (D':Nat→Prop),e=.returned n'.v∧Below w.heap.size w w'∧Tie w' D' t n'∧∀ g,D' g→w.heap.size≤g∧∃ cur fz,w'.heap[g]? = some (.cells cur nd.e fz)
theorem OfNodes.lt {w:World} {D:Nat→Prop} (h:OfNodes w D) (g:Nat) (hg:D g):g<w.heap.size:=by
 obtain⟨cur,fz,h1⟩:=h g hg
 exact(Array.getElem?_eq_some_iff.1 h1).1
theorem OfNodes.below {w w':World} {D:Nat→Prop} (h:OfNodes w D) (hb:Below w.heap.size w w'):OfNodes w' D:=fun g hg=>by
 obtain⟨cur,fz,h1⟩:=h g hg
 exact⟨cur,fz,(hb.block g (h.lt g hg)).trans h1⟩
theorem Ties.below {w w':World} {D:Nat→Prop} {l:List Tree} {R:List Rn} (h:Ties w D l R) (hD:OfNodes w D) (hb:Below w.heap.size w w'):Ties w' D l R:=Ties.keep (fun g hg=>hb.block g (hD.lt g hg)) (fun _ h=>h) l R h
theorem Tie.below {w w':World} {D:Nat→Prop} {t:Tree} {n:Rn} (h:Tie w D t n) (hD:OfNodes w D) (hb:Below w.heap.size w w'):Tie w' D t n:=Tie.keep (fun g hg=>hb.block g (hD.lt g hg)) (fun _ h=>h) t n h
structure Cp (w wr:World) (X g cap:Nat) (k i j:Int) (l:List Tree) (R:List Rn) (q:Nat) (R':List Rn) (D':Nat→Prop):Prop where
 base:w.heap.size=X
 below:Below w.heap.size w wr
 x0:wr.heap[X]? = some (.cells #[.int .i64 k,.int .i64 i,.int .i64 j,.slice (some ⟨g,0,none⟩) R.length cap] 43 (0,0))
 x1:wr.heap[X+1]? = some (.cells #[.int .i64 0,.int .i64 0,.int .i64 0,.slice none 0 0] 43 (0,0))
 row:Mine nd wr (X+2) (.slice (some ⟨g,0,none⟩) R.length cap) (R' ++ R.drop q)
 len:R'.length=q
 ties:Ties wr D' (l.take q) R'
 dead:∀ h,D' h→X+2≤h∧h≠g∧∃ cur fz,wr.heap[h]? = some (.cells cur nd.e fz)
theorem Cp.more {w wr wr':World} {X g cap q:Nat} {k i j:Int} {l:List Tree} {R R':List Rn} {D':Nat→Prop} (h:Cp w wr X g cap k i j l R q R' D') (hb:Below wr.heap.size wr wr'):Cp w wr' X g cap k i j l R q R' D':=by
 have hlt:∀ k o,wr.heap[k]? = some o→wr'.heap[k]? = some o:=fun k o hk=>(hb.block k (Array.getElem?_eq_some_iff.1 hk).1).trans hk
 refine⟨h.base,h.below.trans (hb.mono h.below.size),hlt _ _ h.x0,hlt _ _ h.x1,h.row.below hb,h.len,Ties.keep (fun g hg=>?_) (fun _ h=>h) _ _ h.ties,fun g hg=>?_⟩
 ·obtain⟨_,_,cur,fz,hc⟩:=h.dead g hg
  exact hb.block g (Array.getElem?_eq_some_iff.1 hc).1
 ·obtain⟨a,b,cur,fz,hc⟩:=h.dead g hg
  exact⟨a,b,cur,fz,hlt _ _ hc⟩
theorem Cp.put {w wr w2:World} {X g cap q:Nat} {k i j:Int} {l:List Tree} {R R':List Rn} {D' D2:Nat→Prop} {n:Rn} (h:Cp w wr X g cap k i j l R q R' D') (hb:Below wr.heap.size wr w2) (hq:q<R.length) (hl:q<l.length) (hT:Tie w2 D2 l[q] n) (hD2:∀ g,D2 g→wr.heap.size≤g∧∃ cur fz,w2.heap[g]? = some (.cells cur nd.e fz)) :
  Cp w ((((w2.setCell ⟨g,q*4,none⟩ (.int .i64 n.k)).setCell ⟨g,q*4+1,none⟩ (.int .i64 n.i)).setCell ⟨g,q*4+2,none⟩ (.int .i64 n.j)).setCell ⟨g,q*4+3,none⟩ (.slice n.o n.n n.c)) X g cap k i j l R (q+1) (R' ++ [n]) (fun h=>D' h∨D2 h):=by
 have h2:=h.more hb
 have hgw:X+2≤g∧g<wr.heap.size:=World.ownsRow.lt h.row g rfl
 have hX1:=(Array.getElem?_eq_some_iff.1 h.x1).1
 have hs:∀ k,k≠g→((((w2.setCell ⟨g,q*4,none⟩ (.int .i64 n.k)).setCell ⟨g,q*4+1,none⟩ (.int .i64 n.i)).setCell ⟨g,q*4+2,none⟩ (.int .i64 n.j)).setCell ⟨g,q*4+3,none⟩ (.slice n.o n.n n.c)).heap[k]? = w2.heap[k]?:=fun k hk=>by
  rw[set_one _ _ _ _ _ hk,set_one _ _ _ _ _ hk,set_one _ _ _ _ _ hk,set_one _ _ _ _ _ hk]
 have hb2:=h2.below
 have hlen:(R' ++ R.drop q).length=R.length:=by rw[List.length_append,h.len,List.length_drop];omega
 have hbase:=h.base
 have hle:=h.len
 refine⟨hbase,⟨hb2.os,hb2.tape,hb2.output,by rw[size_set,size_set,size_set,size_set];exact hb2.size,fun k hk=>(hs k ?_).trans (hb2.block k hk)⟩,(hs X (by omega)).trans h2.x0,(hs (X+1) (by omega)).trans h2.x1,?_,by rw[List.length_append,h.len];rfl,?_,fun h' hd=>?_⟩
 ·omega
 ·have:=h2.row.put_nd hlen q (by rw[hlen];exact hq) n
  have e:(R' ++ R.drop q).set q n=(R' ++ [n]) ++ R.drop (q+1):=by
   rw[List.drop_eq_getElem_cons hq,List.set_append_right _ _ (by omega),hle,Nat.sub_self,List.set_cons_zero,List.append_assoc]
   rfl
  rw[e] at this
  exact this
 ·rw[List.take_add_one,List.getElem?_eq_getElem hl]
  refine Ties.append (Ties.keep (fun g' hg'=>hs g' (h.dead g' hg').2.1) (fun _ h=>.inl h) _ _ h2.ties) (Ties.cons (Tie.keep (fun g' hg'=>hs g' ?_) (fun _ h=>.inr h) _ _ hT) Ties.nil)
  have:=(hD2 g' hg').1
  omega
 ·rcases hd with hd|hd
  ·obtain⟨a,b,cur,fz,hc⟩:=h2.dead h' hd
   exact⟨a,b,cur,fz,(hs h' b).trans hc⟩
  ·obtain⟨a,cur,fz,hc⟩:=hD2 h' hd
   exact⟨by omega,by omega,cur,fz,(hs h' (by omega)).trans hc⟩
open Go.RowKit
theorem two_boxes (w:World) (k i j:Int) (o:Option Addr) (nn c:Nat):∃ W2,(w.alloc (.cells #[.int .i64 k,.int .i64 i,.int .i64 j,.slice o nn c] 43)).alloc (.cells #[.int .i64 0,.int .i64 0,.int .i64 0,.slice none 0 0] 43)=W2∧W2.heap[w.heap.size]? = some (.cells #[.int .i64 k,.int .i64 i,.int .i64 j,.slice o nn c] 43 (0,0))∧W2.heap[w.heap.size+1]? = some (.cells #[.int .i64 0,.int .i64 0,.int .i64 0,.slice none 0 0] 43 (0,0))∧W2.heap.size=w.heap.size+2∧Below w.heap.size w W2:=by
 have z1:(w.alloc (.cells #[.int .i64 k,.int .i64 i,.int .i64 j,.slice o nn c] 43)).heap.size=w.heap.size+1:=World.size_alloc _ _
 have b1:Below w.heap.size w (w.alloc (.cells #[.int .i64 k,.int .i64 i,.int .i64 j,.slice o nn c] 43)):=(Below.refl _ _).alloc (Nat.le_refl _) _
 have a1:=heap_alloc_last w (.cells #[.int .i64 k,.int .i64 i,.int .i64 j,.slice o nn c] 43)
 generalize w.alloc (.cells #[.int .i64 k,.int .i64 i,.int .i64 j,.slice o nn c] 43)=W1 at *
 have a2:=heap_alloc_last W1 (.cells #[.int .i64 0,.int .i64 0,.int .i64 0,.slice none 0 0] 43)
 rw[z1] at a2
 exact⟨_,rfl,(heap_alloc_old W1 _ (by omega)).trans a1,a2,by rw[World.size_alloc,z1],b1.alloc b1.size _⟩
theorem ties_get' {w:World} {D:Nat→Prop} {l:List Tree} {R:List Rn} (h:Ties w D l R) {i:Nat} (hi:i<l.length) (hi2:i<R.length):Tie w D l[i] R[i]:=by
 induction l generalizing R i with
 |nil=>simp at hi
 |cons t l ih=>
  rw[Ties] at h
  obtain⟨n,R',rfl,h1,h2⟩:=h
  cases i with
  |zero=>exact h1
  |succ i=>exact ih h2 (by simpa using hi) (by simpa using hi2)
theorem copied_node (k i j:Int) (l:List Tree) (ih:∀ t∈l,CopT t):CopT (.mk k i j l):=by
 intro w D n hT hD
 obtain⟨k',i',j',o,nn,c⟩:=n
 have hT0:=hT
 rw[Tie] at hT0
 obtain⟨rfl,rfl,rfl,hnn,g0,off0,R,⟨hc,hl⟩,ho,hcell,hties⟩:=hT0
 simp only[] at hnn hc ho
 have hlR:R.length=l.length:=hties.length
 rw[← hlR] at hnn
 subst hnn
 have hrow:Row nd w (.slice o R.length c) R:=⟨g0,off0,o,c,hc,rfl,fun hne=>(ho (fun e=>hne (List.eq_nil_of_length_eq_zero (by rw[hlR,e];rfl)))).1,hcell⟩
 obtain⟨W2,hW2,hx0,hx1,hz2,hB2⟩:=two_boxes w k' i' j' o R.length c
 have HCL:=Lib.hid (cloneN_any (hrow.below hB2) (by omega))
 have HTI:=Lib.hid (And.intro hties hD)
 have HLR:=Lib.hid hlR
 have HIH:=Lib.hid ih
 have HB2:=Lib.hid hB2
 have HX:=Lib.hid (And.intro hx0 (And.intro hx1 hz2))
 have HW2:=Lib.hid hW2
 have hlen:R.length≤1099511627776:=by omega
 obtain⟨len,hle⟩:∃ len,R.length=len:=⟨_,rfl⟩
 have HLE:=Lib.hid hle
 rw[hle] at HCL hlen HX HW2
 show Calls Tryz.prog 66 #[.agg #[.int .i64 k',.int .i64 i',.int .i64 j',.slice o R.length c]] w _
 rw[hle]
 clear hT hties hD hrow hx0 hx1 hz2 hB2 hW2 ih hcell ho hlR hle
 go_enter Tryz.func66,Tryz.ntmps66
 go_wp2_with fail
 rw[HW2.out]
 go_at_call 109
 refine HCL.out.mono ?_
 rintro e w3 ⟨v3,rfl,hm3,hb3⟩
 obtain⟨g3,o3,c3,rfl,ho3,_⟩:=hm3.shape
 have h30:=(hb3.block w.heap.size (by rw[HX.out.2.2];omega)).trans HX.out.1
 have h31:=(hb3.block (w.heap.size+1) (by rw[HX.out.2.2];omega)).trans HX.out.2.1
 obtain⟨X,hX⟩:∃ X,w.heap.size=X:=⟨_,rfl⟩
 rw[hX] at h30 h31
 obtain⟨⟨p0,p1,p2,p3⟩,fp⟩:=four_cells0 h30
 have fp3:=fp 3
 have q0:X<w3.heap.size:=(Array.getElem?_eq_some_iff.1 h30).1
 have HM3:=Lib.hid (And.intro hm3 (And.intro hb3 ho3))
 have H3:=Lib.hid (And.intro h30 h31)
 have HXX:=Lib.hid hX
 clear hm3 hb3 ho3 h30 h31 fp
 rcases Classical.em (R=[]) with hR|hR
 ·subst hR
  have hl0:l=[]:=List.eq_nil_of_length_eq_zero HLR.out.symm
  subst hl0
  obtain⟨hm3,hb3,_⟩:=HM3.out
  have hb:=HB2.out.trans (hb3.mono HB2.out.size)
  obtain⟨W4,hW4⟩:∃ W4,w3.setCell ⟨X,3,none⟩ (.slice o3 0 c3)=W4:=⟨_,rfl⟩
  have h40:W4.heap[X]? = some (.cells #[.int .i64 k',.int .i64 i',.int .i64 j',.slice o3 0 c3] 43 (0,0)):=by rw[← hW4];exact heap_setCell_same _ X 3 _ _ _ H3.out.1
  have h41:W4.heap[X+1]? = some (.cells #[.int .i64 0,.int .i64 0,.int .i64 0,.slice none 0 0] 43 (0,0)):=by rw[← hW4];exact(set_one _ _ _ _ _ (by omega)).trans H3.out.2
  have hb4:Below w.heap.size w W4:=by
   have hx:=HXX.out
   rw[← hW4]
   exact⟨hb.os,hb.tape,hb.output,by rw[size_set];exact hb.size,fun k hk=>(set_one _ _ _ _ _ (by omega)).trans (hb.block k hk)⟩
  have HW4:=Lib.hid hW4
  have H4:=Lib.hid (And.intro h40 (And.intro h41 hb4))
  clear hm3 hb3 hb hW4 h40 h41 hb4
  go_wp2_with fail
  rw[HW4.out]
  clear p0 p1 p2 p3 fp3 q0
  go_loopw [11] (fun pv wr=>pv=.int .i64 0∧wr=W4) (fun _ _=>0)
  case atStart=>exact⟨rfl,rfl⟩
  case round=>
   obtain⟨rfl,rfl⟩:=hrel
   obtain⟨h40,h41,hb4⟩:=H4.out
   obtain⟨⟨n0,n1,n2,n3⟩,_⟩:=four_cells0 h40
   obtain⟨⟨m0,m1,m2,m3⟩,fm⟩:=four_cells0 h41
   have f0:=fm 0
   have f1:=fm 1
   have f2:=fm 2
   have f3:=fm 3
   have hbox:((((wr.setCell ⟨X+1,0,none⟩ (.int .i64 k')).setCell ⟨X+1,1,none⟩ (.int .i64 i')).setCell ⟨X+1,2,none⟩ (.int .i64 j')).setCell ⟨X+1,3,none⟩ (.slice o3 0 c3)).heap[X+1]? = some (.cells #[.int .i64 k',.int .i64 i',.int .i64 j',.slice o3 0 c3] 43 (0,0)):=heap_setCell_same _ _ 3 _ _ _ (heap_setCell_same _ _ 2 _ _ _ (heap_setCell_same _ _ 1 _ _ _ (heap_setCell_same _ _ 0 _ _ _ h41)))
   have hs:∀ k,k≠X+1→((((wr.setCell ⟨X+1,0,none⟩ (.int .i64 k')).setCell ⟨X+1,1,none⟩ (.int .i64 i')).setCell ⟨X+1,2,none⟩ (.int .i64 j')).setCell ⟨X+1,3,none⟩ (.slice o3 0 c3)).heap[k]? = wr.heap[k]?:=fun k hk=>by
    rw[set_one _ _ _ _ _ hk,set_one _ _ _ _ _ hk,set_one _ _ _ _ _ hk,set_one _ _ _ _ _ hk]
   have hz:((((wr.setCell ⟨X+1,0,none⟩ (.int .i64 k')).setCell ⟨X+1,1,none⟩ (.int .i64 i')).setCell ⟨X+1,2,none⟩ (.int .i64 j')).setCell ⟨X+1,3,none⟩ (.slice o3 0 c3)).heap.size=wr.heap.size:=by rw[size_set,size_set,size_set,size_set]
   have HH:=Lib.hid (And.intro hbox (And.intro hs hz))
   clear h40 h41 hb4 hbox hs hz fm
   go_wp2_with fail
   obtain⟨hbox,hs,hz⟩:=HH.out
   obtain⟨_,_,hb4⟩:=H4.out
   have hx:=HXX.out
   refine bodyPost_ret (v:=.agg #[.int .i64 k',.int .i64 i',.int .i64 j',.slice o3 0 c3]) (results_cell_row rfl _ _ (X+1) 43 _ (0,0) _ rfl hbox Tryz.underlying43 rfl (by as_aux_lemma=>kernel_rfl)) rfl ?_
   refine⟨⟨k',i',j',o3,0,c3⟩,fun _=>False,rfl,⟨hb4.os,hb4.tape,hb4.output,by rw[hz];exact hb4.size,fun k hk=>(hs k (by omega)).trans (hb4.block k hk)⟩,?_,fun h hd'=>hd'.elim⟩
   rw[Tie]
   exact⟨rfl,rfl,rfl,rfl,0,0,[],⟨Nat.zero_le _,by simp⟩,fun e=>absurd rfl e,fun z u hu=>by simp [flat] at hu,Ties.nil⟩
 ·obtain rfl:=HM3.out.2.2 hR
  have hst:Cp w (w3.setCell ⟨X,3,none⟩ (.slice (some ⟨g3,0,none⟩) R.length c3)) X g3 c3 k' i' j' l R 0 [] (fun _=>False):=by
   obtain⟨hm3,hb3,_⟩:=HM3.out
   have hz:=HX.out.2.2
   have hb:=HB2.out.trans (hb3.mono HB2.out.size)
   have hx:=HXX.out
   have hg:=World.ownsRow.lt hm3 g3 rfl
   refine⟨hx,⟨hb.os,hb.tape,hb.output,by rw[size_set];exact hb.size,fun k hk=>(set_one _ _ _ _ _ (by omega)).trans (hb.block k hk)⟩,heap_setCell_same _ X 3 _ _ _ H3.out.1,(set_one _ _ _ _ _ (by omega)).trans H3.out.2,?_,rfl,Ties.nil,fun h hd=>hd.elim⟩
   refine(hm3.mono (by omega)).keep (fun k hk _=>set_one _ _ _ _ _ ?_)
   simp only[Value.ownBlock,Option.some.injEq] at hk
   omega
  have HST:=Lib.hid hst
  clear hst
  go_wp2_with fail
  clear p0 p1 p2 p3 fp3 q0
  go_loopw [11] (fun pv wr=>∃ (q:Nat) (R':List Rn) (D':Nat→Prop),q≤R.length∧pv=.int .i64 (q:Int)∧Cp w wr X g3 c3 k' i' j' l R q R' D') (fun pv _=>R.length - (intOf pv).toNat)
  case atStart=>exact⟨0,[],_,Nat.zero_le _,rfl,HST.out⟩
  case round=>
   obtain⟨q,R',D',hql,rfl,hcp⟩:=hrel
   by_cases hlt:q<R.length
   ·have hqT:q<l.length:=by rw[← HLR.out];exact hlt
    obtain⟨⟨_,_,_,y3⟩,_⟩:=four_cells0 hcp.x0
    have hbase:=hcp.base
    have hgl:=World.ownsRow.lt hcp.row g3 rfl
    have hXz:X<wr.heap.size:=(Array.getElem?_eq_some_iff.1 hcp.x0).1
    have hle:=hcp.len
    have hrow:=cells_nd hcp.row.cells q (by rw[List.length_append,List.length_drop];omega)
    have hget:(R' ++ R.drop q)[q]'(by rw[List.length_append,List.length_drop];omega)=R[q]:=by
     rw[List.getElem_append_right (by omega)]
     simp [hle]
    rw[hget] at hrow
    obtain⟨a0,a1,a2,a3⟩:=hrow
    simp only[Nat.zero_add] at a0 a1 a2 a3
    have HCALL:Hid (∀ u,Below wr.heap.size wr u→Calls Tryz.prog 66 #[R[q].v] u fun e w'=>∃ (n':Rn) (D':Nat→Prop),e=.returned n'.v∧Below u.heap.size u w'∧Tie w' D' l[q] n'∧∀ g,D' g→u.heap.size≤g∧∃ cur fz,w'.heap[g]? = some (.cells cur nd.e fz)):=Lib.hid (fun u hu=>by
     have hbu:Below w.heap.size w u:=hcp.below.trans (hu.mono hcp.below.size)
     exact HIH.out l[q] (List.getElem_mem hqT) u D R[q] ((ties_get' HTI.out.1 hqT hlt).below HTI.out.2 hbu) (HTI.out.2.below hbu))
    obtain⟨⟨mk,mi,mj,mo,mn,mc⟩,hnode⟩:∃ n,R[q]=n:=⟨_,rfl⟩
    rw[hnode] at a0 a1 a2 a3 HCALL
    simp only[] at a0 a1 a2 a3
    rw[show(Rn.mk mk mi mj mo mn mc).v=.agg #[.int .i64 mk,.int .i64 mi,.int .i64 mj,.slice mo mn mc] from rfl] at HCALL
    have HCP:=Lib.hid hcp
    have HTELL:Hid (∀ u,Below wr.heap.size wr u→u.cell? ⟨X,3,none⟩=some (.slice (some ⟨g3,0,none⟩) R.length c3)∧(u.cell? ⟨g3,q*4,none⟩=some (.int .i64 mk)∧u.cell? ⟨g3,q*4+1,none⟩=some (.int .i64 mi)∧u.cell? ⟨g3,q*4+2,none⟩=some (.int .i64 mj)∧u.cell? ⟨g3,q*4+3,none⟩=some (.slice mo mn mc))∧∀ j,u.frozen? ⟨g3,j,none⟩=false):=Lib.hid (fun u hu=>
     ⟨(hu.cell (p:=⟨X,3,none⟩) hXz).trans y3,⟨(hu.cell (p:=⟨g3,q*4,none⟩) hgl.2).trans a0,(hu.cell (p:=⟨g3,q*4+1,none⟩) hgl.2).trans a1,(hu.cell (p:=⟨g3,q*4+2,none⟩) hgl.2).trans a2,(hu.cell (p:=⟨g3,q*4+3,none⟩) hgl.2).trans a3⟩,fun j=>(hcp.row.below hu).free j⟩)
    have hq0:(0:Int)≤(q:Int):=by omega
    have hww:(q:Int)+1≤1099511627777:=by have:=HLE.out;omega
    have hd:decide ((q:Int)<(R.length:Int))=true:=decide_eq_true (by omega)
    have hd':decide (q<R.length)=true:=decide_eq_true hlt
    clear hnode hget hcp hbase hle
    go_wp2_with fail
    go_region_law (first|(go_simp;go_at_call 66;refine(HCALL.out _ ?_).mono ?_;(first|exact(Below.refl _ _).drew|exact Below.refl _ _);rintro e w9 ⟨⟨nk,ni,nj,no,nn,nc⟩,D2,rfl,hb9,hT9,hD9⟩;have hbb:Below wr.heap.size wr w9:=(by first|exact(Below.refl _ _).drew.trans hb9|exact hb9);have HPUT:=Lib.hid (HCP.out.put hbb hlt hqT hT9 hD9);obtain⟨t3,⟨t4,t5,t6,t7⟩,tf⟩:=HTELL.out _ hbb;have u0:=tf (q*4);have u1:=tf (q*4+1);have u2:=tf (q*4+2);have u3:=tf (q*4+3);clear tf hT9 hD9 hb9;dsimp only [Rn.v]))
    all_goals(try go_wp2_with fail)
    all_goals first|exact⟨⟨q+1,_,_,by omega,by go_num,HPUT.out⟩,by simp [intOf];omega⟩|exact⟨⟨q+1,_,_,by omega,by go_num,HPUT.out.more (Below.refl _ _).drew⟩,by simp [intOf];omega⟩
   ·obtain rfl:q=R.length:=by omega
    have hd:decide ((R.length:Int)<(R.length:Int))=false:=decide_eq_false (by omega)
    have hrow:=hcp.row
    rw[List.drop_length,List.append_nil] at hrow
    have hties:=hcp.ties
    rw[HLR.out,List.take_length] at hties
    obtain⟨⟨n0,n1,n2,n3⟩,_⟩:=four_cells0 hcp.x0
    obtain⟨⟨m0,m1,m2,m3⟩,fm⟩:=four_cells0 hcp.x1
    have f0:=fm 0
    have f1:=fm 1
    have f2:=fm 2
    have f3:=fm 3
    have hbox:((((wr.setCell ⟨X+1,0,none⟩ (.int .i64 k')).setCell ⟨X+1,1,none⟩ (.int .i64 i')).setCell ⟨X+1,2,none⟩ (.int .i64 j')).setCell ⟨X+1,3,none⟩ (.slice (some ⟨g3,0,none⟩) R.length c3)).heap[X+1]? = some (.cells #[.int .i64 k',.int .i64 i',.int .i64 j',.slice (some ⟨g3,0,none⟩) R.length c3] 43 (0,0)):=heap_setCell_same _ _ 3 _ _ _ (heap_setCell_same _ _ 2 _ _ _ (heap_setCell_same _ _ 1 _ _ _ (heap_setCell_same _ _ 0 _ _ _ hcp.x1)))
    have hs:∀ k,k≠X+1→((((wr.setCell ⟨X+1,0,none⟩ (.int .i64 k')).setCell ⟨X+1,1,none⟩ (.int .i64 i')).setCell ⟨X+1,2,none⟩ (.int .i64 j')).setCell ⟨X+1,3,none⟩ (.slice (some ⟨g3,0,none⟩) R.length c3)).heap[k]? = wr.heap[k]?:=fun k hk=>by
     rw[set_one _ _ _ _ _ hk,set_one _ _ _ _ _ hk,set_one _ _ _ _ _ hk,set_one _ _ _ _ _ hk]
    have hz:((((wr.setCell ⟨X+1,0,none⟩ (.int .i64 k')).setCell ⟨X+1,1,none⟩ (.int .i64 i')).setCell ⟨X+1,2,none⟩ (.int .i64 j')).setCell ⟨X+1,3,none⟩ (.slice (some ⟨g3,0,none⟩) R.length c3)).heap.size=wr.heap.size:=by rw[size_set,size_set,size_set,size_set]
    have HH:=Lib.hid (And.intro hrow (And.intro hties (And.intro hcp (And.intro hbox (And.intro hs hz)))))
    clear hrow hties hcp hbox hs hz fm
    go_wp2_with fail
    obtain⟨hrow,hties,hcp,hbox,hs,hz⟩:=HH.out
    have hbase:=hcp.base
    have hgl:=World.ownsRow.lt hrow g3 rfl
    have hc3:R.length≤c3:=by
     rcases hrow.2 with⟨hv,_⟩|⟨g,cp,cur,hv,_,_,h3,_⟩
     ·cases hv
     ·simp only[Value.slice.injEq] at hv
      obtain⟨_,_,rfl⟩:=hv
      rw[← hcp.len]
      exact h3
    refine bodyPost_ret (v:=.agg #[.int .i64 k',.int .i64 i',.int .i64 j',.slice (some ⟨g3,0,none⟩) R.length c3]) (results_cell_row rfl _ _ (X+1) 43 _ (0,0) _ rfl hbox Tryz.underlying43 rfl (by as_aux_lemma=>kernel_rfl)) rfl ?_
    refine⟨⟨k',i',j',some ⟨g3,0,none⟩,R.length,c3⟩,fun h=>D' h∨h=g3,rfl,⟨hcp.below.os,hcp.below.tape,hcp.below.output,by rw[hz];exact hcp.below.size,fun k hk=>(hs k (by omega)).trans (hcp.below.block k hk)⟩,?_,fun h hd'=>?_⟩
    ·rw[Tie]
     refine⟨rfl,rfl,rfl,HLR.out,g3,0,R',⟨hc3,hl⟩,fun _=>⟨rfl,.inr rfl⟩,fun z u hu=>(cell_same (hs g3 (by omega)) _).trans (hrow.cells z u hu),Ties.keep (fun h hh=>hs h (by have:=(hcp.dead h hh).1;omega)) (fun _ h=>.inl h) _ _ hties⟩
    ·rcases hd' with hd'|rfl
     ·obtain⟨a,_,cur,fz,hc'⟩:=hcp.dead h hd'
      exact⟨by omega,cur,fz,(hs h (by omega)).trans hc'⟩
     ·rcases hrow.2 with⟨hv,_⟩|⟨g,cp,cur,hv,_,hh,_⟩
      ·cases hv
      ·simp only[Value.slice.injEq,Option.some.injEq,Addr.mk.injEq] at hv
       obtain⟨⟨rfl,_⟩,_⟩:=hv
       exact⟨by omega,cur,(0,0),(hs _ (by omega)).trans hh⟩
mutual
theorem copied_t:∀ t:Tree,CopT t
 |.mk k i j l=>copied_node k i j l (copied_l l)
theorem copied_l:∀ (l:List Tree),∀ t∈l,CopT t
 |[],t,h=>by cases h
 |u::l,t,h=>by
  rcases List.mem_cons.1 h with h|h
  ·rw[h];exact copied_t u
  ·exact copied_l l t h
end
open Go.RowKit
theorem three_at {w:World} {X:Nat} {x0 x1 x2:Value} {e:TypeId} (h:w.heap[X]? = some (.cells #[x0,x1,x2] e (0,0))):(w.cell? ⟨X,0,none⟩=some x0∧w.cell? ⟨X,1,none⟩=some x1∧w.cell? ⟨X,2,none⟩=some x2)∧∀ j,w.frozen? ⟨X,j,none⟩=false:=
 ⟨⟨by rw[cell_of_row w X 0 _ _ _ h];rfl,by rw[cell_of_row w X 1 _ _ _ h];rfl,by rw[cell_of_row w X 2 _ _ _ h];rfl⟩,fun j=>frozen_of_row w X j _ _ h⟩
theorem cDone_bad {W:World} {b:Nat} {vL vS vR:Value} {σ:Rc} (h:RcAt W b vL vS vR σ) (hf:σ.failed=true) :
  Calls Tryz.prog 15 #[.pointer (some ⟨b,0,none⟩)] W fun e w'=>e=.returned (.tuple #[.slice none 0 0,.agg #[.int .i64 σ.d0,.int .i64 σ.d1,.int .i64 σ.d2],.bool false])∧Below W.heap.size W w':=by
 have hB1:Below W.heap.size W (W.alloc (.cells #[.int .i64 0,.int .i64 0,.int .i64 0] 37)):=(Below.refl _ _).alloc (Nat.le_refl _) _
 have hX:(W.alloc (.cells #[.int .i64 0,.int .i64 0,.int .i64 0] 37)).heap[W.heap.size]? = some (.cells #[.int .i64 0,.int .i64 0,.int .i64 0] 37 (0,0)):=heap_alloc_last _ _
 obtain⟨W1,hW1⟩:∃ W1,W.alloc (.cells #[.int .i64 0,.int .i64 0,.int .i64 0] 37)=W1:=⟨_,rfl⟩
 rw[hW1] at hB1 hX
 replace h:=h.below hB1
 have HK:=Lib.hid (ckind_any h)
 have h0:σ.ahead 0=0:=by unfold Rc.ahead;rw[hf];rfl
 rw[h0] at HK
 have HW1:=Lib.hid hW1
 have HH:=Lib.hid (And.intro h (And.intro hB1 hX))
 clear h h0 hB1 hX hW1
 go_enter Tryz.func15,Tryz.ntmps15
 go_wp2_with fail
 rw[HW1.out]
 go_at_call 57
 refine HK.out.mono ?_
 rintro e w2 ⟨rfl,hb2⟩
 obtain⟨h,hB1,hX⟩:=HH.out
 have h2:=h.below hb2
 have hX2:=(hb2.block _ (Array.getElem?_eq_some_iff.1 hX).1).trans hX
 obtain⟨⟨_,_,_,_,_,_,b6,b7,b8,b9⟩,_⟩:=ten_at h2.cells
 rw[hf] at b9
 obtain⟨⟨x0,x1,x2⟩,fx⟩:=three_at hX2
 have z0:=fx 0
 have z1:=fx 1
 have z2:=fx 2
 have HXX:=Lib.hid hX2
 have HB:=Lib.hid (hB1.trans (hb2.mono hB1.size))
 clear h hB1 hX h2 hX2 hb2 fx
 go_wp2_with fail
 go_region
 all_goals(try go_wp2_with fail)
 try simp only[Exit.inBlock,Exit.then]
 have hbox:(((w2.setCell ⟨W.heap.size,0,none⟩ (.int .i64 σ.d0)).setCell ⟨W.heap.size,1,none⟩ (.int .i64 σ.d1)).setCell ⟨W.heap.size,2,none⟩ (.int .i64 σ.d2)).heap[W.heap.size]? = some (.cells #[.int .i64 σ.d0,.int .i64 σ.d1,.int .i64 σ.d2] 37 (0,0)):=heap_setCell_same _ _ 2 _ _ _ (heap_setCell_same _ _ 1 _ _ _ (heap_setCell_same _ _ 0 _ _ _ HXX.out))
 refine bodyPost_ret (results_mix rfl _ _ W.heap.size 37 _ (0,0) _ rfl hbox Tryz.underlying37 rfl (by as_aux_lemma=>kernel_rfl)) rfl ?_
 have hb:=HB.out
 refine⟨rfl,⟨hb.os,hb.tape,hb.output,?_,fun k hk=>(three_set _ _ _ _ _ k (by omega)).trans (hb.block k hk)⟩⟩
 show W.heap.size≤(World.setCell _ _ _).heap.size
 rw[size_set,size_set,size_set]
 exact hb.size
theorem cDone_left {W:World} {b:Nat} {vL vS vR:Value} {σ:Rc} (h:RcAt W b vL vS vR σ) (hf:σ.failed=false) (hk:σ.ahead 0≠0) :
  Calls Tryz.prog 15 #[.pointer (some ⟨b,0,none⟩)] W fun e w'=>∃ vR',e=.returned (.tuple #[.slice none 0 0,.agg #[.int .i64 (σ.fail 201).d0,.int .i64 (σ.fail 201).d1,.int .i64 (σ.fail 201).d2],.bool false])∧Nx W b vR (.slice none 0 0) w' vR' (.slice none 0 0):=by
 have hB1:Below W.heap.size W (W.alloc (.cells #[.int .i64 0,.int .i64 0,.int .i64 0] 37)):=(Below.refl _ _).alloc (Nat.le_refl _) _
 have hX:(W.alloc (.cells #[.int .i64 0,.int .i64 0,.int .i64 0] 37)).heap[W.heap.size]? = some (.cells #[.int .i64 0,.int .i64 0,.int .i64 0] 37 (0,0)):=heap_alloc_last _ _
 obtain⟨W1,hW1⟩:∃ W1,W.alloc (.cells #[.int .i64 0,.int .i64 0,.int .i64 0] 37)=W1:=⟨_,rfl⟩
 rw[hW1] at hB1 hX
 replace h:=h.below hB1
 have HK:=Lib.hid (ckind_any h)
 have hk0:(σ.ahead 0 == 0)=false:=beq_eq_false_iff_ne.2 hk
 obtain⟨k0,hk0e⟩:∃ k0,σ.ahead 0=k0:=⟨_,rfl⟩
 rw[hk0e] at HK hk0
 clear hk hk0e
 have HW1:=Lib.hid hW1
 have HH:=Lib.hid (And.intro h (And.intro hB1 hX))
 clear h hB1 hX hW1
 go_enter Tryz.func15,Tryz.ntmps15
 go_wp2_with fail
 rw[HW1.out]
 go_at_call 57
 refine HK.out.mono ?_
 rintro e w2 ⟨rfl,hb2⟩
 obtain⟨h,hB1,hX⟩:=HH.out
 have HF:=Lib.hid (cfail_any (h.below hb2) 201)
 have hf2:(σ.fail 201).failed=true:=by unfold Rc.fail;rw[hf];rfl
 have hX2:=(hb2.block _ (Array.getElem?_eq_some_iff.1 hX).1).trans hX
 have hbx:b≠W.heap.size:=by rintro rfl;rw[h.cells] at hX;simp only[Option.some.injEq,Obj.cells.injEq] at hX;exact absurd hX.2.1 (by decide)
 have hbR:=h.row.ne hX (by decide)
 have HX2:=Lib.hid (And.intro hX2 (And.intro hbx (And.intro hbR (hB1.trans (hb2.mono hB1.size)))))
 clear h hB1 hX hX2 hbx hbR hb2
 go_wp2_with fail
 go_at_call 45
 refine HF.out.mono ?_
 rintro e w3 ⟨v3,vR3,rfl,h3,hn3⟩
 obtain⟨hX2,hbx,hbR,hbW⟩:=HX2.out
 have hX3:=(hn3.block _ (Array.getElem?_eq_some_iff.1 hX2).1 (fun e=>hbx e.symm) hbR (by simp [Value.ownBlock])).trans hX2
 obtain⟨⟨_,_,_,_,_,_,b6,b7,b8,b9⟩,_⟩:=ten_at h3.cells
 rw[hf2] at b9
 obtain⟨⟨x0,x1,x2⟩,fx⟩:=three_at hX3
 have z0:=fx 0
 have z1:=fx 1
 have z2:=fx 2
 have HXX:=Lib.hid hX3
 have HB:=Lib.hid (And.intro hbW hn3)
 clear h3 hn3 hX2 hbx hbR hbW hX3 fx
 go_wp2_with fail
 go_region
 all_goals(try go_wp2_with fail)
 try simp only[Exit.inBlock,Exit.then]
 have hbox:(((w3.setCell ⟨W.heap.size,0,none⟩ (.int .i64 (σ.fail 201).d0)).setCell ⟨W.heap.size,1,none⟩ (.int .i64 (σ.fail 201).d1)).setCell ⟨W.heap.size,2,none⟩ (.int .i64 (σ.fail 201).d2)).heap[W.heap.size]? = some (.cells #[.int .i64 (σ.fail 201).d0,.int .i64 (σ.fail 201).d1,.int .i64 (σ.fail 201).d2] 37 (0,0)):=heap_setCell_same _ _ 2 _ _ _ (heap_setCell_same _ _ 1 _ _ _ (heap_setCell_same _ _ 0 _ _ _ HXX.out))
 refine bodyPost_ret (results_mix rfl _ _ W.heap.size 37 _ (0,0) _ rfl hbox Tryz.underlying37 rfl (by as_aux_lemma=>kernel_rfl)) rfl ?_
 obtain⟨hb,hn⟩:=HB.out
 have hnn:=(Nx.below hb:Nx W b vR (.slice none 0 0) w2 vR (.slice none 0 0)).trans hn
 refine⟨_,rfl,⟨hnn.os,hnn.tape,hnn.output,?_,fun k hk a1 a2 a3=>(three_set _ _ _ _ _ k (by omega)).trans (hnn.block k hk a1 a2 a3),hnn.newR,hnn.newH⟩⟩
 show W.heap.size≤(World.setCell _ _ _).heap.size
 rw[size_set,size_set,size_set]
 exact hnn.size
end Go.Proofs.YtcekbbkidipbnaaGreat.rd
