/-
  Texts put together: Fs, Fv, Fr, Fw, Ft.
-/
import Derived.Test.YtmelbeefjgjdhaaGreatP5
import Derived.Test.YtmelbeefjgjdhaaGreatP11
import Derived.Test.YtmelbeefjgjdhaaGreatP2
set_option maxRecDepth 100000
set_option maxHeartbeats 8000000
namespace Go.Proofs.YtmelbeefjgjdhaaGreat.rd
open Go.RowKit
def Lu (C:Keep) (b:Nat) (y x0 z0:Res) (n:Nat) (p:Value) (w:World) (k:Nat):Prop:=∃ (c:Nat) (x z:Res),p=.int .i64 (c:Int)∧c+k≤n∧Hid (At C w b x)∧Hid (run k .term x=some z)∧Hid (run k .unionL z=some y)∧(c=0→(z.kind == 26)=(z0.kind == 26)∧(x.kind == 51)=(x0.kind == 51))∧(c≠0→(z0.kind == 26)=true)
noncomputable def luOf (C:Keep) (b:Nat) (y x0 z0:Res) (n:Nat) (p:Value) (w:World):Nat:=least (Lu C b y x0 z0 n p w)
theorem Lu.least {C:Keep} {b n k:Nat} {y x0 z0:Res} {p:Value} {w:World} (h:Lu C b y x0 z0 n p w k):Lu C b y x0 z0 n p w (luOf C b y x0 z0 n p w)∧luOf C b y x0 z0 n p w≤k:=least_spec h
theorem union_s {n:Nat} (HCL:CloseC) (ih:∀ k,k≤n→All k) (hn:n≤1099511627776):CUni 108 (n+1):=by
 have _:=HCL
 have _:=ih
 intro C w b x0 z0 y hat hz hy
 go_enter Tryz.func108,Tryz.ntmps108
 go_wp2_with fail
 go_loopw [4] (fun p wr=>∃ k,Lu C b y x0 z0 (n+1) p wr k) (fun p wr=>luOf C b y x0 z0 (n+1) p wr)
 case atStart=>exact⟨n+1,0,x0,z0,rfl,by omega,hat,hz,hy,fun _=>⟨rfl,rfl⟩,fun e=>absurd rfl e⟩
 case round=>
  clear hat hz hy
  obtain⟨k0,hlu⟩:=hrel
  obtain⟨c,x,z,rfl,hck,hat,hz,hy,hi0,hi1⟩:=(hlu.least).1
  obtain⟨q,hq⟩:∃ q,luOf C b y x0 z0 (n+1) (.int .i64 (c:Int)) wr=q:=⟨_,rfl⟩
  rw[hq] at hck hz hy
  have HQ:=Lib.hid hq
  have HI:=Lib.hid (And.intro hi0 hi1)
  clear hlu hq hi0 hi1
  have hz:=hz.out
  have hy:=hy.out
  cases x with
  |fail d0 d1 d2=>
   rw[run_fail] at hz
   obtain rfl:=Option.some.inj hz
   rw[run_fail] at hy
   obtain rfl:=Option.some.inj hy
   have hk0:(Res.fail d0 d1 d2).kind=0:=rfl
   clear hz hy
   go_wp2_with (first|(go_at_call 62;first|(refine(mark_at ‹_›).mono ?_;rintro e w' ⟨rfl,rfl⟩)|(refine(mark_bad ‹_›).mono ?_;rintro e w' ⟨⟨v,rfl⟩,rfl⟩))|(go_at_call 32;refine(take_at ‹_› (by first|assumption|exact Lib.hid rfl|exact run_hid _ _ _ _ _)).mono ?_;rintro e w' ⟨v,rfl,hat⟩)|(go_at_call 51;first|(refine((ih _ ?hk).type _ _ _ _ _ ‹_› ‹_›).mono ?_;(case hk=>omega);rintro e w' ⟨v,rfl,hat⟩)|(refine(Type_f HCL _ _ _ _ _ _ ‹_›).mono ?_;rintro e w' ⟨v,rfl,hat⟩))|(go_at_call 38;refine(HCL _ _ _ _ _ _ _ _ ‹_› (by first|exact fun _=>rfl|assumption|exact fun hb=>by cases hb) (by first|assumption|exact Lib.hid rfl|exact run_hid _ _ _ _ _)).mono ?_;rintro e w' ⟨v,rfl,hat⟩)|(go_at_call 95;first|(with_reducible refine(comes1_yes ‹_› ?hc).mono ?_;(case hc=>simp [Res.comes, *]);rintro e w' ⟨rfl,hat⟩)|(with_reducible refine(comes1_no ‹_› ?hc).mono ?_;(case hc=>simp [Res.comes, *]);rintro e w' ⟨rfl,hat⟩)))
   go_ret2
   exact⟨_,_,rfl,by assumption,fun e=>by cases e⟩
  |ok s=>
   cases q with
   |zero=>exact absurd hz (by unfold run;simp)
   |succ k=>
    rw[run] at hz
    try dsimp only at hz
    have fin:∀ (t:Bool) (w':World),t=((Res.ok s).kind == 51)→(z.kind == 26)=false→Hid (At C w' b z)→z=y→(∃ (c':Int) (t':Bool),Ending.returned (.tuple #[.int .i64 ((c:Int)+1),.bool t])=.returned (.tuple #[.int .i64 c',.bool t'])∧Hid (At C w' b y)∧(y.bad=false→(decide (1<c') || t')=(z0.kind == 26 || x0.kind == 51))):=fun t w' ht hzk ha e=>by
     subst e
     refine⟨_,_,rfl,ha,fun _=>?_⟩
     rcases Nat.eq_zero_or_pos c with h|h
     ·subst h
      obtain⟨a1,a2⟩:=HI.out.1 rfl
      rw[← a1,hzk,← a2,ht]
      rfl
     ·rw[HI.out.2 (by omega),decide_eq_true (show 1<(c:Int)+1 by omega)]
      rfl
    have FN:=Lib.hid fin
    have again:∀ (u z2:Res) (w':World),(z.kind == 26)=true→Hid (At C w' b u)→Hid (run k .term u=some z2)→Hid (run k .unionL z2=some y)→(∃ k0,Lu C b y x0 z0 (n+1) (.int .i64 ((c:Int)+1)) w' k0)∧luOf C b y x0 z0 (n+1) (.int .i64 ((c:Int)+1)) w'<luOf C b y x0 z0 (n+1) (.int .i64 (c:Int)) wr:=fun u z2 w' hzk ha h1 h2=>by
     have hl:Lu C b y x0 z0 (n+1) (.int .i64 ((c:Int)+1)) w' k:=⟨c+1,u,z2,by go_num,by omega,ha,h1,h2,fun e=>absurd e (by omega),fun _=>by
      rcases Nat.eq_zero_or_pos c with h|h
      ·rw[← (HI.out.1 h).1];exact hzk
      ·exact HI.out.2 (by omega)⟩
     refine⟨⟨k,hl⟩,?_⟩
     rw[HQ.out]
     have:=hl.least.2
     omega
    have AG:=Lib.hid again
    clear fin again
    have hzz:∀ d0 d1 d2,z=.fail d0 d1 d2→y=.fail d0 d1 d2:=fun d0 d1 d2 e=>by
     rw[e,run_fail] at hy
     exact(Option.some.inj hy).symm
    have hyy:∀ s',z=.ok s'→((z.kind=26∧∃ u,Hid (rTake z=some u)∧∃ z2,Hid (run k .term u=some z2)∧Hid (run k .unionL z2=some y))∨(z.kind≠26∧z=y)):=fun s' e=>by
     rw[e,run] at hy
     try dsimp only at hy
     rw[e]
     split at hy
     ·rename_i h26
      rw[bind_iff] at hy
      obtain⟨u,hu,hy⟩:=hy
      rw[bind_iff] at hy
      obtain⟨z2,hz2,hy⟩:=hy
      exact .inl ⟨h26,u,hu,z2,hz2,Lib.hid hy⟩
     ·exact .inr ⟨by assumption,Option.some.inj hy⟩
    clear hy
    by_cases h51:(Res.ok s).kind=51
    ·have e51:true=((Res.ok s).kind == 51):=(beq_iff_eq.2 h51).symm
     have E51:=Lib.hid e51
     clear e51
     rw[if_pos h51] at hz
     rw[bind_iff] at hz
     obtain⟨z1,hz1,hz⟩:=hz
     rw[bind_iff] at hz
     obtain⟨z2,hz2,hz⟩:=hz
     replace hz:=Lib.hid hz
     cases z with
     |fail d0 d1 d2=>
      obtain rfl:=hzz _ _ _ rfl
      have hk0:(Res.fail d0 d1 d2).kind=0:=rfl
      clear hzz hyy
      go_wp2_with (first|(go_at_call 62;first|(refine(mark_at ‹_›).mono ?_;rintro e w' ⟨rfl,rfl⟩)|(refine(mark_bad ‹_›).mono ?_;rintro e w' ⟨⟨v,rfl⟩,rfl⟩))|(go_at_call 32;refine(take_at ‹_› (by first|assumption|exact Lib.hid rfl|exact run_hid _ _ _ _ _)).mono ?_;rintro e w' ⟨v,rfl,hat⟩)|(go_at_call 51;first|(refine((ih _ ?hk).type _ _ _ _ _ ‹_› ‹_›).mono ?_;(case hk=>omega);rintro e w' ⟨v,rfl,hat⟩)|(refine(Type_f HCL _ _ _ _ _ _ ‹_›).mono ?_;rintro e w' ⟨v,rfl,hat⟩))|(go_at_call 38;refine(HCL _ _ _ _ _ _ _ _ ‹_› (by first|exact fun _=>rfl|assumption|exact fun hb=>by cases hb) (by first|assumption|exact Lib.hid rfl|exact run_hid _ _ _ _ _)).mono ?_;rintro e w' ⟨v,rfl,hat⟩)|(go_at_call 95;first|(with_reducible refine(comes1_yes ‹_› ?hc).mono ?_;(case hc=>simp [Res.comes, *]);rintro e w' ⟨rfl,hat⟩)|(with_reducible refine(comes1_no ‹_› ?hc).mono ?_;(case hc=>simp [Res.comes, *]);rintro e w' ⟨rfl,hat⟩)))
      go_ret2
      exact⟨_,_,rfl,by assumption,fun e=>by cases e⟩
     |ok s'=>
      rcases hyy _ rfl with⟨h26,u,hu,z3,hz3,hy3⟩|⟨h26,e⟩
      ·have E26:=Lib.hid ((beq_iff_eq (a:=(Res.ok s').kind) (b:=26)).2 h26)
       clear hzz hyy
       go_wp2_with (first|(go_at_call 62;first|(refine(mark_at ‹_›).mono ?_;rintro e w' ⟨rfl,rfl⟩)|(refine(mark_bad ‹_›).mono ?_;rintro e w' ⟨⟨v,rfl⟩,rfl⟩))|(go_at_call 32;refine(take_at ‹_› (by first|assumption|exact Lib.hid rfl|exact run_hid _ _ _ _ _)).mono ?_;rintro e w' ⟨v,rfl,hat⟩)|(go_at_call 51;first|(refine((ih _ ?hk).type _ _ _ _ _ ‹_› ‹_›).mono ?_;(case hk=>omega);rintro e w' ⟨v,rfl,hat⟩)|(refine(Type_f HCL _ _ _ _ _ _ ‹_›).mono ?_;rintro e w' ⟨v,rfl,hat⟩))|(go_at_call 38;refine(HCL _ _ _ _ _ _ _ _ ‹_› (by first|exact fun _=>rfl|assumption|exact fun hb=>by cases hb) (by first|assumption|exact Lib.hid rfl|exact run_hid _ _ _ _ _)).mono ?_;rintro e w' ⟨v,rfl,hat⟩)|(go_at_call 95;first|(with_reducible refine(comes1_yes ‹_› ?hc).mono ?_;(case hc=>simp [Res.comes, *]);rintro e w' ⟨rfl,hat⟩)|(with_reducible refine(comes1_no ‹_› ?hc).mono ?_;(case hc=>simp [Res.comes, *]);rintro e w' ⟨rfl,hat⟩)))
       go_roundw
       case rel=>exact(AG.out _ _ _ E26.out ‹_› hz3 hy3).1
       case measure=>exact(AG.out _ _ _ E26.out ‹_› hz3 hy3).2
      ·have E26:=Lib.hid (beq_eq_false_iff_ne.2 h26)
       have EE:=Lib.hid e
       clear hzz hyy e
       go_wp2_with (first|(go_at_call 62;first|(refine(mark_at ‹_›).mono ?_;rintro e w' ⟨rfl,rfl⟩)|(refine(mark_bad ‹_›).mono ?_;rintro e w' ⟨⟨v,rfl⟩,rfl⟩))|(go_at_call 32;refine(take_at ‹_› (by first|assumption|exact Lib.hid rfl|exact run_hid _ _ _ _ _)).mono ?_;rintro e w' ⟨v,rfl,hat⟩)|(go_at_call 51;first|(refine((ih _ ?hk).type _ _ _ _ _ ‹_› ‹_›).mono ?_;(case hk=>omega);rintro e w' ⟨v,rfl,hat⟩)|(refine(Type_f HCL _ _ _ _ _ _ ‹_›).mono ?_;rintro e w' ⟨v,rfl,hat⟩))|(go_at_call 38;refine(HCL _ _ _ _ _ _ _ _ ‹_› (by first|exact fun _=>rfl|assumption|exact fun hb=>by cases hb) (by first|assumption|exact Lib.hid rfl|exact run_hid _ _ _ _ _)).mono ?_;rintro e w' ⟨v,rfl,hat⟩)|(go_at_call 95;first|(with_reducible refine(comes1_yes ‹_› ?hc).mono ?_;(case hc=>simp [Res.comes, *]);rintro e w' ⟨rfl,hat⟩)|(with_reducible refine(comes1_no ‹_› ?hc).mono ?_;(case hc=>simp [Res.comes, *]);rintro e w' ⟨rfl,hat⟩)))
       go_ret2
       exact FN.out _ _ E51.out E26.out ‹_› EE.out
    ·have e51:false=((Res.ok s).kind == 51):=(beq_eq_false_iff_ne.2 h51).symm
     have E51:=Lib.hid e51
     clear e51
     rw[if_neg h51] at hz
     replace hz:=Lib.hid hz
     cases z with
     |fail d0 d1 d2=>
      obtain rfl:=hzz _ _ _ rfl
      have hk0:(Res.fail d0 d1 d2).kind=0:=rfl
      clear hzz hyy
      go_wp2_with (first|(go_at_call 62;first|(refine(mark_at ‹_›).mono ?_;rintro e w' ⟨rfl,rfl⟩)|(refine(mark_bad ‹_›).mono ?_;rintro e w' ⟨⟨v,rfl⟩,rfl⟩))|(go_at_call 32;refine(take_at ‹_› (by first|assumption|exact Lib.hid rfl|exact run_hid _ _ _ _ _)).mono ?_;rintro e w' ⟨v,rfl,hat⟩)|(go_at_call 51;first|(refine((ih _ ?hk).type _ _ _ _ _ ‹_› ‹_›).mono ?_;(case hk=>omega);rintro e w' ⟨v,rfl,hat⟩)|(refine(Type_f HCL _ _ _ _ _ _ ‹_›).mono ?_;rintro e w' ⟨v,rfl,hat⟩))|(go_at_call 38;refine(HCL _ _ _ _ _ _ _ _ ‹_› (by first|exact fun _=>rfl|assumption|exact fun hb=>by cases hb) (by first|assumption|exact Lib.hid rfl|exact run_hid _ _ _ _ _)).mono ?_;rintro e w' ⟨v,rfl,hat⟩)|(go_at_call 95;first|(with_reducible refine(comes1_yes ‹_› ?hc).mono ?_;(case hc=>simp [Res.comes, *]);rintro e w' ⟨rfl,hat⟩)|(with_reducible refine(comes1_no ‹_› ?hc).mono ?_;(case hc=>simp [Res.comes, *]);rintro e w' ⟨rfl,hat⟩)))
      go_ret2
      exact⟨_,_,rfl,by assumption,fun e=>by cases e⟩
     |ok s'=>
      rcases hyy _ rfl with⟨h26,u,hu,z3,hz3,hy3⟩|⟨h26,e⟩
      ·have E26:=Lib.hid ((beq_iff_eq (a:=(Res.ok s').kind) (b:=26)).2 h26)
       clear hzz hyy
       go_wp2_with (first|(go_at_call 62;first|(refine(mark_at ‹_›).mono ?_;rintro e w' ⟨rfl,rfl⟩)|(refine(mark_bad ‹_›).mono ?_;rintro e w' ⟨⟨v,rfl⟩,rfl⟩))|(go_at_call 32;refine(take_at ‹_› (by first|assumption|exact Lib.hid rfl|exact run_hid _ _ _ _ _)).mono ?_;rintro e w' ⟨v,rfl,hat⟩)|(go_at_call 51;first|(refine((ih _ ?hk).type _ _ _ _ _ ‹_› ‹_›).mono ?_;(case hk=>omega);rintro e w' ⟨v,rfl,hat⟩)|(refine(Type_f HCL _ _ _ _ _ _ ‹_›).mono ?_;rintro e w' ⟨v,rfl,hat⟩))|(go_at_call 38;refine(HCL _ _ _ _ _ _ _ _ ‹_› (by first|exact fun _=>rfl|assumption|exact fun hb=>by cases hb) (by first|assumption|exact Lib.hid rfl|exact run_hid _ _ _ _ _)).mono ?_;rintro e w' ⟨v,rfl,hat⟩)|(go_at_call 95;first|(with_reducible refine(comes1_yes ‹_› ?hc).mono ?_;(case hc=>simp [Res.comes, *]);rintro e w' ⟨rfl,hat⟩)|(with_reducible refine(comes1_no ‹_› ?hc).mono ?_;(case hc=>simp [Res.comes, *]);rintro e w' ⟨rfl,hat⟩)))
       go_roundw
       case rel=>exact(AG.out _ _ _ E26.out ‹_› hz3 hy3).1
       case measure=>exact(AG.out _ _ _ E26.out ‹_› hz3 hy3).2
      ·have E26:=Lib.hid (beq_eq_false_iff_ne.2 h26)
       have EE:=Lib.hid e
       clear hzz hyy e
       go_wp2_with (first|(go_at_call 62;first|(refine(mark_at ‹_›).mono ?_;rintro e w' ⟨rfl,rfl⟩)|(refine(mark_bad ‹_›).mono ?_;rintro e w' ⟨⟨v,rfl⟩,rfl⟩))|(go_at_call 32;refine(take_at ‹_› (by first|assumption|exact Lib.hid rfl|exact run_hid _ _ _ _ _)).mono ?_;rintro e w' ⟨v,rfl,hat⟩)|(go_at_call 51;first|(refine((ih _ ?hk).type _ _ _ _ _ ‹_› ‹_›).mono ?_;(case hk=>omega);rintro e w' ⟨v,rfl,hat⟩)|(refine(Type_f HCL _ _ _ _ _ _ ‹_›).mono ?_;rintro e w' ⟨v,rfl,hat⟩))|(go_at_call 38;refine(HCL _ _ _ _ _ _ _ _ ‹_› (by first|exact fun _=>rfl|assumption|exact fun hb=>by cases hb) (by first|assumption|exact Lib.hid rfl|exact run_hid _ _ _ _ _)).mono ?_;rintro e w' ⟨v,rfl,hat⟩)|(go_at_call 95;first|(with_reducible refine(comes1_yes ‹_› ?hc).mono ?_;(case hc=>simp [Res.comes, *]);rintro e w' ⟨rfl,hat⟩)|(with_reducible refine(comes1_no ‹_› ?hc).mono ?_;(case hc=>simp [Res.comes, *]);rintro e w' ⟨rfl,hat⟩)))
       go_ret2
       exact FN.out _ _ E51.out E26.out ‹_› EE.out
open Go.RowKit
def Lt (C:Keep) (b:Nat) (z:Res) (p:Value) (w:World) (k:Nat):Prop:=∃ (f:Bool) (x:Res),p=.bool f∧Hid (At C w b x)∧((f=false∧x.kind=63∧x=z∧k=0)∨((f=false→x.kind≠63)∧Hid (run k .tpL x=some z)))
noncomputable def ltOf (C:Keep) (b:Nat) (z:Res) (p:Value) (w:World):Nat:=least (Lt C b z p w)
theorem Lt.least {C:Keep} {b k:Nat} {z:Res} {p:Value} {w:World} (h:Lt C b z p w k):Lt C b z p w (ltOf C b z p w)∧ltOf C b z p w≤k:=least_spec h
open Go.RowKit
def sigK (L:List Tk):List Int:=(L.filter fun t=>sig t.k).map Tk.k
theorem nxt_sigK (L:List Tk):∀ n,(match L[nxt n L]? with|some t=>t.k|none=>0)=(sigK L)[n]?.getD 0:=by
 induction L with
 |nil=>intro n;simp [nxt,sigK]
 |cons t r ih=>
  intro n
  rw[nxt]
  cases hs:sig t.k with
  |true=>
   have e:sigK (t::r)=t.k::sigK r:=by simp [sigK,hs]
   rw[e,if_pos rfl]
   cases n with
   |zero=>simp
   |succ n=>
    rw[if_neg (by omega),Nat.add_sub_cancel,Nat.add_comm 1,List.getElem?_cons_succ,List.getElem?_cons_succ]
    exact ih n
  |false=>
   have e:sigK (t::r)=sigK r:=by simp [sigK,hs]
   rw[e,if_neg (by simp),Nat.add_comm 1,List.getElem?_cons_succ]
   exact ih n
theorem ahead_sigs (x:Res) (n:Nat):x.ahead n=x.sigs[n]?.getD 0:=by
 cases x with
 |fail=>simp [Res.ahead,Res.sigs]
 |ok s=>
  have:=nxt_sigK (s.L.drop s.at') n
  simp only[List.getElem?_drop] at this
  exact this
theorem sigs_pos (x:Res):∀ z∈x.sigs,10≤z:=by
 cases x with
 |fail=>simp [Res.sigs]
 |ok s=>
  intro z hz
  simp only[Res.sigs,List.mem_map,List.mem_filter] at hz
  obtain⟨t,⟨_,h⟩,rfl⟩:=hz
  exact of_decide_eq_true h
theorem ahead_some {x:Res} {n:Nat} (h:n<x.sigs.length):x.sigs.drop n=x.ahead n::x.sigs.drop (n+1)∧x.ahead n≠0:=by
 have e:x.ahead n=x.sigs[n]:=by rw[ahead_sigs,List.getElem?_eq_getElem h];rfl
 refine⟨by rw[e];exact List.drop_eq_getElem_cons h,?_⟩
 have:=sigs_pos x x.sigs[n] (List.getElem_mem h)
 omega
theorem ahead_none {x:Res} {n:Nat} (h:x.sigs.length≤n):x.sigs.drop n=[]∧x.ahead n=0:=
 ⟨List.drop_of_length_le h,by rw[ahead_sigs,List.getElem?_eq_none h];rfl⟩
section
variable {C:Keep} {w:World} {b:Nat} {x y:Res}
theorem sigs_few (h:Hid (At C w b x)):x.sigs.length≤549755813888:=by
 obtain⟨vL,vR,vH,σ,D,hr,ho,hi⟩:=h.out
 cases x with
 |fail=>simp [Res.sigs]
 |ok s=>
  obtain⟨h1,h2,h3,h4,h5,h6,h7,h8,h9,h10⟩:=hi
  simp only[Res.sigs,List.length_map]
  have:=List.length_filter_le (fun t:Tk=>sig t.k) (s.L.drop s.at')
  rw[List.length_drop] at this
  omega
theorem behind_at (h:Hid (At C w b x)) (h1:x.ahead 1=58):Calls Tryz.prog 145 #[.pointer (some ⟨b,0,none⟩)] w fun e w'=>e=.returned (.int .i64 (behindOf 0 (x.sigs.drop 1)))∧w=w':=by
 have hfew:=sigs_few h
 obtain⟨res,hres⟩:∃ res,behindOf 0 (x.sigs.drop 1)=res:=⟨_,rfl⟩
 rw[hres]
 have HRES:=Lib.hid hres
 clear hres
 have HA:Hid (∀ n:Nat,n≤549755813890→Calls Tryz.prog 60 #[.pointer (some ⟨b,0,none⟩),.int .i64 (n:Int)] w fun e w'=>e=.returned (.int .i64 (x.ahead n))∧w=w'):=Lib.hid (fun n hn=>ahead_at h n (by omega))
 have HS:Hid (∀ n,n<x.sigs.length→x.sigs.drop n=x.ahead n::x.sigs.drop (n+1)∧x.ahead n≠0):=Lib.hid (fun n hn=>ahead_some hn)
 have HZ:Hid (∀ n,x.sigs.length≤n→x.sigs.drop n=[]∧x.ahead n=0):=Lib.hid (fun n hn=>ahead_none hn)
 have H1:=Lib.hid h1
 clear h h1
 generalize x.sigs=S at *
 generalize x.ahead=A at *
 go_enter Tryz.func145,Tryz.ntmps145
 go_wp2_with fail
 go_loopw [3,4] (fun q p wr=>∃ c k:Nat,1≤k∧k≤S.length+1∧c<k∧(k=1∨1≤c)∧q=.int .i64 (c:Int)∧p=.int .i64 (k:Int)∧behindOf c (S.drop k)=res∧wr=w) (fun _ p _=>S.length+1 - (intOf p).toNat)
 case atStart=>exact⟨0,1,by omega,by omega,by omega,by omega,rfl,rfl,HRES.out,rfl⟩
 case round=>
  obtain⟨c,k,hk1,hk2,hck,hc1,rfl,rfl,hbo,hw⟩:=hrel
  have hw2:=hw.symm
  subst hw2
  have HB:=Lib.hid hbo
  clear hw hbo
  rcases Nat.lt_or_ge k S.length with hlt|hge
  ·obtain⟨hd,hne⟩:=HS.out k hlt
   obtain⟨z,hz⟩:∃ z,A k=z:=⟨_,rfl⟩
   rw[hz] at hd hne
   have HAk:Hid (Calls Tryz.prog 60 #[.pointer (some ⟨b,0,none⟩),.int .i64 (k:Int)] w fun e w'=>e=.returned (.int .i64 z)∧w=w'):=Lib.hid (by rw[← hz];exact HA.out k (by omega))
   rw[hd,behindOf] at HB
   have e0:(z == 0)=false:=beq_eq_false_iff_ne.2 hne
   have hz1:k=1→z=58:=fun e=>by rw[← hz,e];exact H1.out
   clear hd hz
   by_cases h58:z=58
   ·rw[if_pos h58] at HB
    subst h58
    go_wp2_with (go_at_call 60;refine HAk.out.mono ?_;rintro e w' ⟨rfl,rfl⟩)
    go_roundw
    case rel=>exact⟨c+1,k+1,by omega,by omega,by omega,by omega,by go_num,by go_num,HB.out,by trivial⟩
    case measure=>simp [intOf];omega
   ·rw[if_neg h58] at HB
    have e58:(z == 58)=false:=beq_eq_false_iff_ne.2 h58
    have hk2':k≠1:=fun e=>h58 (hz1 e)
    by_cases h63:z=63
    ·rw[if_pos h63] at HB
     subst h63
     by_cases hc:c≤1
     ·rw[if_pos hc] at HB
      obtain rfl:c=1:=by omega
      have HAk2:Hid (Calls Tryz.prog 60 #[.pointer (some ⟨b,0,none⟩),.int .i64 ((k:Int)+1)] w fun e w'=>e=.returned (.int .i64 res)∧w=w'):=Lib.hid (by
       have h2:=HA.out (k+1) (by omega)
       rw[show A (k+1)=res by
        rw[← HB.out]
        rcases Nat.lt_or_ge (k+1) S.length with h|h
        ·rw[(HS.out _ h).1];rfl
        ·rw[(HZ.out _ h).1,(HZ.out _ h).2];rfl] at h2
       exact h2)
      go_wp2_with (go_at_call 60;first|(with_reducible refine HAk2.out.mono ?_;rintro e w' ⟨rfl,rfl⟩)|(with_reducible refine HAk.out.mono ?_;rintro e w' ⟨rfl,rfl⟩))
      go_ret
      exact⟨rfl,rfl⟩
     ·rw[if_neg hc] at HB
      have ec:(((c:Int) - 1) == 0)=false:=beq_eq_false_iff_ne.2 (by omega)
      go_wp2_with (go_at_call 60;refine HAk.out.mono ?_;rintro e w' ⟨rfl,rfl⟩)
      go_roundw
      case rel=>exact⟨c - 1,k+1,by omega,by omega,by omega,by omega,by go_num,by go_num,HB.out,by trivial⟩
      case measure=>simp [intOf];omega
    ·rw[if_neg h63] at HB
     have e63:(z == 63)=false:=beq_eq_false_iff_ne.2 h63
     go_wp2_with (go_at_call 60;refine HAk.out.mono ?_;rintro e w' ⟨rfl,rfl⟩)
     go_roundw
     case rel=>exact⟨c,k+1,by omega,by omega,by omega,by omega,rfl,by go_num,HB.out,by trivial⟩
     case measure=>simp [intOf];omega
  ·obtain⟨hd,hz⟩:=HZ.out k hge
   rw[hd,behindOf] at HB
   have HAk:Hid (Calls Tryz.prog 60 #[.pointer (some ⟨b,0,none⟩),.int .i64 (k:Int)] w fun e w'=>e=.returned (.int .i64 0)∧w=w'):=Lib.hid (by rw[← hz];exact HA.out k (by omega))
   clear hd hz
   go_wp2_with (go_at_call 60;refine HAk.out.mono ?_;rintro e w' ⟨rfl,rfl⟩)
   go_ret
   exact⟨by rw[← HB.out];rfl,rfl⟩
theorem isNamed_at (h:Hid (At C w b x)):Calls Tryz.prog 133 #[.pointer (some ⟨b,0,none⟩)] w fun e w'=>e=.returned (.bool x.named)∧Hid (At C w' b x):=by
 have HX:Hid (x.named=if x.kind=10 then(if x.ahead 1=60∨x.ahead 1=62∨x.ahead 1=61 then false else if x.ahead 1=58 then(x.ahead 2 == 63 || (behindOf 0 (x.sigs.drop 1) != 0 && behindOf 0 (x.sigs.drop 1) != 60 && behindOf 0 (x.sigs.drop 1) != 62)) else true) else false):=Lib.hid rfl
 obtain⟨res,hres⟩:∃ res,x.named=res:=⟨_,rfl⟩
 rw[hres] at HX ⊢
 clear hres
 by_cases h10:x.kind=10
 ·rw[if_pos h10] at HX
  have HC1:Hid (∀ u,At C u b x→Calls Tryz.prog 60 #[.pointer (some ⟨b,0,none⟩),.int .i64 1] u fun e w'=>e=.returned (.int .i64 (x.ahead 1))∧u=w'):=Lib.hid (fun u hu=>ahead_at (Lib.hid hu) 1 (by decide))
  have HC2:Hid (∀ u,At C u b x→Calls Tryz.prog 60 #[.pointer (some ⟨b,0,none⟩),.int .i64 2] u fun e w'=>e=.returned (.int .i64 (x.ahead 2))∧u=w'):=Lib.hid (fun u hu=>ahead_at (Lib.hid hu) 2 (by decide))
  have HCB:Hid (∀ u,At C u b x→x.ahead 1=58→Calls Tryz.prog 145 #[.pointer (some ⟨b,0,none⟩)] u fun e w'=>e=.returned (.int .i64 (behindOf 0 (x.sigs.drop 1)))∧u=w'):=Lib.hid (fun u hu h1=>behind_at (Lib.hid hu) h1)
  obtain⟨a1,ha1⟩:∃ a1,x.ahead 1=a1:=⟨_,rfl⟩
  obtain⟨a2,ha2⟩:∃ a2,x.ahead 2=a2:=⟨_,rfl⟩
  generalize behindOf 0 (x.sigs.drop 1)=bh at *
  rw[ha1] at HX HC1 HCB
  rw[ha2] at HX HC2
  clear ha1 ha2
  by_cases h60:a1=60
  ·rw[if_pos (.inl h60)] at HX
   subst h60
   go_enter Tryz.func133,Tryz.ntmps133
   go_wp2_with (first|(go_at_call 95;(with_reducible refine(comes1_yes ‹_› ?hc).mono ?_;(case hc=>simp [Res.comes, *]);rintro e w' ⟨rfl,hat⟩))|(go_at_call 60;with_reducible refine(HC1.out _ hat.out).mono ?_;rintro e w' ⟨rfl,rfl⟩))
   go_ret
   exact⟨by rw[HX.out];rfl,by assumption⟩
  by_cases h62:a1=62
  ·rw[if_pos (.inr (.inl h62))] at HX
   subst h62
   clear h60
   go_enter Tryz.func133,Tryz.ntmps133
   go_wp2_with (first|(go_at_call 95;(with_reducible refine(comes1_yes ‹_› ?hc).mono ?_;(case hc=>simp [Res.comes, *]);rintro e w' ⟨rfl,hat⟩))|(go_at_call 60;with_reducible refine(HC1.out _ hat.out).mono ?_;rintro e w' ⟨rfl,rfl⟩))
   go_ret
   exact⟨by rw[HX.out];rfl,by assumption⟩
  by_cases h61:a1=61
  ·rw[if_pos (.inr (.inr h61))] at HX
   subst h61
   clear h60 h62
   go_enter Tryz.func133,Tryz.ntmps133
   go_wp2_with (first|(go_at_call 95;(with_reducible refine(comes1_yes ‹_› ?hc).mono ?_;(case hc=>simp [Res.comes, *]);rintro e w' ⟨rfl,hat⟩))|(go_at_call 60;with_reducible refine(HC1.out _ hat.out).mono ?_;rintro e w' ⟨rfl,rfl⟩))
   go_ret
   exact⟨by rw[HX.out];rfl,by assumption⟩
  rw[if_neg (by omega)] at HX
  have e60:(a1 == 60)=false:=beq_eq_false_iff_ne.2 h60
  have e61:(a1 == 61)=false:=beq_eq_false_iff_ne.2 h61
  have e62:(a1 == 62)=false:=beq_eq_false_iff_ne.2 h62
  by_cases h58:a1=58
  ·rw[if_pos h58] at HX
   subst h58
   clear h60 h61 h62
   have key:∀ p0 p1 p2 p3:Bool,(a2 == 63)=p0→(bh != 0)=p1→(bh != 60)=p2→(bh != 62)=p3→Calls Tryz.prog 133 #[.pointer (some ⟨b,0,none⟩)] w fun e w'=>e=.returned (.bool res)∧Hid (At C w' b x):=by
    intro p0 p1 p2 p3 hp0 hp1 hp2 hp3
    have q1:(bh == 0) = !p1:=by rw[← hp1];simp [bne]
    have q2:(bh == 60) = !p2:=by rw[← hp2];simp [bne]
    have q3:(bh == 62) = !p3:=by rw[← hp3];simp [bne]
    rw[hp0,hp1,hp2,hp3] at HX
    cases p0 <;> cases p1 <;> cases p2 <;> cases p3
    all_goals
     simp only[Bool.not_true,Bool.not_false] at q1 q2 q3
     go_enter Tryz.func133,Tryz.ntmps133
     go_wp2_with (first|(go_at_call 95;(with_reducible refine(comes1_yes ‹_› ?hc).mono ?_;(case hc=>simp [Res.comes, *]);rintro e w' ⟨rfl,hat⟩))|(go_at_call 60;first|(with_reducible refine(HC1.out _ hat.out).mono ?_;rintro e w' ⟨rfl,rfl⟩)|(with_reducible refine(HC2.out _ hat.out).mono ?_;rintro e w' ⟨rfl,rfl⟩))|(go_at_call 145;refine(HCB.out _ hat.out (by first|trivial|rfl)).mono ?_;rintro e w' ⟨rfl,rfl⟩))
     go_ret
     exact⟨by rw[HX.out];rfl,by assumption⟩
   exact key _ _ _ _ rfl rfl rfl rfl
  ·rw[if_neg h58] at HX
   have e58:(a1 == 58)=false:=beq_eq_false_iff_ne.2 h58
   by_cases h0:a1=0
   ·subst h0
    clear h58 h60 h61 h62 e60 e61 e62 e58
    go_enter Tryz.func133,Tryz.ntmps133
    go_wp2_with (first|(go_at_call 95;(with_reducible refine(comes1_yes ‹_› ?hc).mono ?_;(case hc=>simp [Res.comes, *]);rintro e w' ⟨rfl,hat⟩))|(go_at_call 60;with_reducible refine(HC1.out _ hat.out).mono ?_;rintro e w' ⟨rfl,rfl⟩))
    go_ret
    exact⟨by rw[HX.out];rfl,by assumption⟩
   ·have e0:(a1 == 0)=false:=beq_eq_false_iff_ne.2 h0
    clear h58 h60 h61 h62 h0
    go_enter Tryz.func133,Tryz.ntmps133
    go_wp2_with (first|(go_at_call 95;(with_reducible refine(comes1_yes ‹_› ?hc).mono ?_;(case hc=>simp [Res.comes, *]);rintro e w' ⟨rfl,hat⟩))|(go_at_call 60;with_reducible refine(HC1.out _ hat.out).mono ?_;rintro e w' ⟨rfl,rfl⟩))
    go_ret
    exact⟨by rw[HX.out];rfl,by assumption⟩
 ·rw[if_neg h10] at HX
  go_enter Tryz.func133,Tryz.ntmps133
  go_wp2_with (first|(go_at_call 95;(with_reducible refine(comes1_no ‹_› ?hc).mono ?_;(case hc=>simp [Res.comes, *]);rintro e w' ⟨rfl,hat⟩)))
  go_ret
  exact⟨by rw[HX.out];rfl,by assumption⟩
end
open Go.RowKit
def bl:Kd Bool where
 c t:=[.bool t]
 k:=1
 e:=4
 t:=99
 z:=.bool false
 bytes:=1
 len _:=rfl
 one x u hu:=by simp only[List.mem_cons,List.not_mem_nil,or_false] at hu;subst hu;rfl
 ht:=Tryz.underlying99
 hi:=by kernel_rfl
 hz:=rfl
 hk:=by decide
 ht':=by kernel_rfl
 hs _:=by kernel_rfl
theorem At.kept {C:Keep} {w:World} {b:Nat} {x:Res} (h:At C w b x) (k:Nat) (hk:C.K k):w.heap[k]? = C.W.heap[k]? ∧ k<C.W.heap.size:=by
 obtain⟨vL,vR,vH,σ,D,hr,ho,hi⟩:=h
 exact⟨(ho.kept k hk).2.2.2.2,(ho.kept k hk).1⟩
theorem At.size {C:Keep} {w:World} {b:Nat} {x:Res} (h:At C w b x):C.W.heap.size≤w.heap.size:=by
 obtain⟨vL,vR,vH,σ,D,hr,ho,hi⟩:=h
 exact ho.size
theorem At.at {C:Keep} {w:World} {b:Nat} {x:Res} (h:At C w b x):b<w.heap.size:=by
 obtain⟨vL,vR,vH,σ,D,hr,ho,hi⟩:=h
 exact(Array.getElem?_eq_some_iff.1 hr.cells).1
theorem At.rebase {C C':Keep} {w w':World} {b:Nat} {x:Res} (h:At C w b x) (hsize:w.heap.size≤w'.heap.size)
  (hsame:∀ k,k<w.heap.size→w'.heap[k]? = w.heap[k]? ∨ (C.K k∧∃ cur e fz,w.heap[k]? = some (.cells cur e fz)∧e≠tk.e∧e≠nd.e))
  (hW:C'.W=w') (hK:∀ k,C'.K k→k<w'.heap.size∧(C.K k∨w.heap.size≤k)):At C' w' b x:=by
 obtain⟨vL,vR,vH,σ,D,hr,ho,hi⟩:=h
 have hbz:b<w.heap.size:=(Array.getElem?_eq_some_iff.1 hr.cells).1
 have hof:∀ k,k<w.heap.size→¬ C.K k→w'.heap[k]? = w.heap[k]?:=fun k hk hn=>by
  rcases hsame k hk with h|h
  ·exact h
  ·exact absurd h.1 hn
 have hdd:∀ k,D k→w'.heap[k]? = w.heap[k]?:=fun k hk=>by
  obtain⟨a1,_,_,_,cur,fz,a5⟩:=ho.dead k hk
  rcases hsame k a1 with h|⟨_,cur',e,fz',h,_,hne⟩
  ·exact h
  ·rw[a5] at h
   simp only[Option.some.injEq,Obj.cells.injEq] at h
   exact absurd h.2.1.symm hne
 have hT:Mine tk w' 0 vL σ.L:=by
  refine hr.toks.keep (fun k hk hz=>?_)
  rcases hsame k hz with h|⟨_,cur,e,fz,h,hne,_⟩
  ·exact h
  ·exfalso
   rcases hr.toks.2 with⟨hv,_⟩|⟨q,cap,cur',hv,hq,hh,_⟩
   ·rw[hv] at hk;cases hk
   ·rw[hv] at hk
    simp only[Value.ownBlock,Option.some.injEq] at hk
    subst hk
    rw[hh] at h
    simp only[Option.some.injEq,Obj.cells.injEq] at h
    exact hne h.2.1.symm
 refine⟨vL,vR,vH,σ,D,⟨?_,hT,?_,?_,hr.read,hr.few⟩,?_,?_⟩
 ·rw[hof b hbz (fun hc=>(ho.kept b hc).2.1 rfl)];exact hr.cells
 ·exact hr.row.keep (fun k hk hz=>hof k hz (fun hc=>(ho.kept k hc).2.2.1 hk))
 ·exact hr.high.keep (fun k hk hz=>hof k hz (fun hc=>(ho.kept k hc).2.2.2.1 hk))
 ·refine⟨by rw[hW],by rw[hW],by rw[hW],by rw[hW];exact Nat.le_refl _,fun k hk=>?_,fun k hk=>?_⟩
  ·obtain⟨h1,h2⟩:=hK k hk
   rcases h2 with h2|h2
   ·obtain⟨_,a2,a3,a4,_⟩:=ho.kept k h2
    exact⟨by rw[hW];exact h1,a2,a3,a4,by rw[hW]⟩
   ·exact⟨by rw[hW];exact h1,by omega,fun e=>by have:=hr.row.lt k e;omega,fun e=>by have:=hr.high.lt k e;omega,by rw[hW]⟩
  ·obtain⟨a1,a2,a3,a4,a5⟩:=ho.dead k hk
   exact⟨by omega,a2,a3,a4,by rw[hdd k hk];exact a5⟩
 ·cases x with
  |fail a b c=>exact hi
  |ok s=>
   obtain⟨h1,h2,h3,h4,h5⟩:=hi
   exact⟨h1,h2,h3,Ties.keep (fun g hg=>hdd g hg) (fun _ h=>h) _ _ h4,h5⟩
structure Ext (C C1:Keep) (B:Nat):Prop where
 os:C1.W.os=C.W.os
 tape:C1.W.tape=C.W.tape
 output:C1.W.output=C.W.output
 size:C.W.heap.size≤C1.W.heap.size
 base:C.W.heap.size≤B∧B≤C1.W.heap.size
 kept:∀ k,C.K k→k<B∧C1.K k∧C1.W.heap[k]? = C.W.heap[k]?
theorem At.back {C C1:Keep} {B:Nat} {w:World} {b:Nat} {x:Res} (he:Ext C C1 B) (h:At C1 w b x) (hz:∀ k,C.K k→k<C.W.heap.size):At C w b x:=by
 obtain⟨vL,vR,vH,σ,D,hr,ho,hi⟩:=h
 refine⟨vL,vR,vH,σ,D,hr,⟨ho.os.trans he.os,ho.tape.trans he.tape,ho.output.trans he.output,Nat.le_trans he.size ho.size,fun k hk=>?_,ho.dead⟩,hi⟩
 obtain⟨h1,h2,h3⟩:=he.kept k hk
 obtain⟨a1,a2,a3,a4,a5⟩:=ho.kept k h2
 exact⟨hz k hk,a2,a3,a4,a5.trans h3⟩
theorem Ext.start {C:Keep} {w w':World} {b:Nat} {x:Res} (h:At C w b x) (hb:Below w.heap.size w w'):Ext C ⟨w',fun k=>C.K k∨(w.heap.size≤k∧k<w'.heap.size)⟩ w.heap.size∧At ⟨w',fun k=>C.K k∨(w.heap.size≤k∧k<w'.heap.size)⟩ w' b x:=by
 have h':=h
 obtain⟨vL,vR,vH,σ,D,hr,ho,hi⟩:=h'
 refine⟨⟨hb.os.trans ho.os,hb.tape.trans ho.tape,hb.output.trans ho.output,Nat.le_trans ho.size hb.size,⟨ho.size,hb.size⟩,fun k hk=>?_⟩,h.rebase hb.size (fun k hk=>.inl (hb.block k hk)) rfl (fun k hk=>?_)⟩
 ·obtain⟨a1,_,_,_,a5⟩:=ho.kept k hk
  have:=ho.size
  exact⟨by omega,.inl hk,(hb.block k (by omega)).trans a5⟩
 ·rcases hk with hk|hk
  ·have:=(ho.kept k hk).1
   have:=ho.size
   have:=hb.size
   exact⟨by omega,.inl hk⟩
  ·exact⟨hk.2,.inr hk.1⟩
def Apart (v v2:Value):Prop:=∀ k,v.ownBlock=some k→v2.ownBlock≠some k
structure Held {α:Type} (C:Keep) (w:World) (B:Nat) (v:Value) (F:Kd α) (T:List α):Prop where
 mine:Mine F w B v T
 held:∀ k,v.ownBlock=some k→C.K k
theorem Held.call {α:Type} {F:Kd α} {C:Keep} {w w':World} {B b:Nat} {x y:Res} {v:Value} {T:List α} (h:Held C w B v F T) (h1:At C w b x) (h2:At C w' b y):Held C w' B v F T:=
 ⟨h.mine.keep (fun k hk _=>(h2.kept k (h.held k hk)).1.trans (h1.kept k (h.held k hk)).1.symm),h.held⟩
theorem Held.push {α:Type} {F:Kd α} {C C1:Keep} {w:World} {B b:Nat} {x:Res} {v:Value} {T:List α} (hne:F.e≠tk.e∧F.e≠nd.e) (he:Ext C C1 B) (hat:At C1 w b x) (h:Held C1 w B v F T) (hl:T.length≤1099511627776) (hby:F.bytes≤64) (a:α) :
  ∃ v' w',(∀ ty,(Builtin.append_ #[F.t,F.t] ty #[v,.slice (some ⟨w.heap.size,0,none⟩) 1 1]).run Tryz.prog (w.alloc (.cells (F.c a).toArray F.e))=.ok v' w') ∧
   ∃ C2,Ext C C2 B∧At C2 w' b x∧Held C2 w' B v' F (T ++ [a])∧∀ (β:Type) (G:Kd β) (v2:Value) (T2:List β),Held C1 w B v2 G T2→Apart v v2→Held C2 w' B v2 G T2∧Apart v' v2:=by
 have hu:Below w.heap.size w (w.alloc (.cells (F.c a).toArray F.e)):=(Below.refl _ _).alloc (Nat.le_refl _) _
 have hBw:B≤w.heap.size:=Nat.le_trans he.base.2 hat.size
 obtain⟨g,cap',w',h1,h2,h3,h4⟩:=app_lies (h.mine.below hu) (heap_alloc_last w _) (Nat.le_trans hBw hu.size) (by simp [maxLen];omega) (by have:=Nat.mul_le_mul (show T.length+1≤1099511627777 by omega) hby;omega)
 have hsz:w.heap.size≤w'.heap.size:=Nat.le_trans hu.size h3.size
 have hz1:(w.alloc (.cells (F.c a).toArray F.e)).heap.size=w.heap.size+1:=World.size_alloc _ _
 have hsame:∀ k,k<w.heap.size→v.ownBlock≠some k→w'.heap[k]? = w.heap[k]?:=fun k hk hn=>(h3.block k (by omega) (fun e=>hn e.symm)).trans (hu.block k hk)
 have hB:∀ k,v.ownBlock=some k→B≤k:=fun k hk=>(World.ownsRow.lt h.mine k hk).1
 have hg:v.ownBlock=some g∨w.heap.size≤g:=by
  rcases h4 with h4|h4
  ·exact .inl h4
  ·exact .inr (by rw[h4,hz1];omega)
 refine⟨_,w',h1,⟨w',fun k=>C1.K k∨(w.heap.size≤k∧k<w'.heap.size)⟩,⟨?_,?_,?_,?_,?_,fun k hk=>?_⟩,hat.rebase hsz (fun k hk=>?_) rfl (fun k hk=>?_),⟨h2,fun k hk=>?_⟩,?_⟩
 ·obtain⟨vL,vR,vH,σ,D,hr,ho,hi⟩:=hat
  exact h3.os.trans (hu.os.trans (ho.os.trans he.os))
 ·obtain⟨vL,vR,vH,σ,D,hr,ho,hi⟩:=hat
  exact h3.tape.trans (hu.tape.trans (ho.tape.trans he.tape))
 ·obtain⟨vL,vR,vH,σ,D,hr,ho,hi⟩:=hat
  exact h3.output.trans (hu.output.trans (ho.output.trans he.output))
 ·exact Nat.le_trans he.size (Nat.le_trans hat.size hsz)
 ·exact⟨he.base.1,Nat.le_trans hBw hsz⟩
 ·obtain⟨a1,a2,a3⟩:=he.kept k hk
  obtain⟨b1,b2⟩:=hat.kept k a2
  exact⟨a1,.inl a2,(hsame k (by omega) (fun e=>by have:=hB k e;omega)).trans (b1.trans a3)⟩
 ·by_cases hk2:v.ownBlock=some k
  ·refine .inr ⟨h.held k hk2,?_⟩
   rcases h.mine.2 with⟨hv,_⟩|⟨q,cap,cur',hv,hq,hh,_⟩
   ·rw[hv] at hk2;cases hk2
   ·rw[hv] at hk2
    simp only[Value.ownBlock,Option.some.injEq] at hk2
    subst hk2
    exact⟨_,_,_,hh,hne.1,hne.2⟩
  ·exact .inl (hsame k hk hk2)
 ·rcases hk with hk|hk
  ·have:=(hat.kept k hk).2
   have:=hat.size
   exact⟨by omega,.inl hk⟩
  ·exact⟨hk.2,.inr hk.1⟩
 ·simp only[Value.ownBlock,Option.some.injEq] at hk
  subst hk
  rcases hg with hg|hg
  ·exact .inl (h.held _ hg)
  ·exact .inr ⟨hg,h2.lt _ rfl⟩
 ·intro β G v2 T2 h5 h6
  refine⟨⟨h5.mine.keep (fun k hk hz=>hsame k hz (fun e=>h6 k e hk)),fun k hk=>.inl (h5.held k hk)⟩,fun k hk e=>?_⟩
  simp only[Value.ownBlock,Option.some.injEq] at hk
  subst hk
  rcases hg with hg|hg
  ·exact h6 _ hg e
  ·have:=h5.mine.lt _ e;omega
theorem cells_bl {w:World} {g off:Nat} {T:List Bool} (h:Cells bl w g off T) (n:Nat) (hn:n<T.length):w.cell? ⟨g,off+n,none⟩=some (.bool T[n]):=by
 have:=h _ _ (flat_at bl T n hn 0 (by decide))
 simpa [bl] using this
theorem rows_call {α β γ:Type} {F:Kd α} {G:Kd β} {H:Kd γ} {C:Keep} {w w':World} {B b:Nat} {x y:Res} {v1 v2 v3:Value} {T1:List α} {T2:List β} {T3:List γ} (h:Hid (Held C w B v1 F T1∧Held C w B v2 G T2∧Held C w B v3 H T3)) (h1:Hid (At C w b x)) (h2:Hid (At C w' b y)):Hid (Held C w' B v1 F T1∧Held C w' B v2 G T2∧Held C w' B v3 H T3):=
 Lib.hid ⟨h.out.1.call h1.out h2.out,h.out.2.1.call h1.out h2.out,h.out.2.2.call h1.out h2.out⟩
open Go.RowKit
theorem element_s {n:Nat} (HCL:CloseC) (ih:∀ k,k≤n→All k):C0 127 (n+1) .element:=by
 have _:=HCL
 have _:=ih
 intro C w b x y hat hy
 have hy:=hy.out
 cases x with
 |fail d0 d1 d2=>
  rw[run_fail] at hy
  obtain rfl:=Option.some.inj hy
  exact element_f HCL _ _ _ _ _ _ hat
 |ok s=>
  rw[run] at hy
  try dsimp only at hy
  split at hy
  ·iterate 16 (all_goals try(first|split at hy|(rw[bind_iff] at hy;obtain⟨z,hz,hy⟩:=hy;try(rw[some_hid] at hz;subst hz))))
   all_goals(first|(obtain rfl:=Option.some.inj hy)|(replace hy:=Lib.hid hy))
   iterate 2 (all_goals try(rename _∧_=>ho;obtain⟨_,_⟩:=ho))
   iterate 7 (all_goals try(rename _∨_=>ho;rcases ho with ho|ho))
   all_goals(repeat (rename ¬ (_∨_)=>ho;rw[not_or] at ho;obtain⟨_,_⟩:=ho))
   all_goals go_enter Tryz.func127,Tryz.ntmps127
   all_goals go_wp2_with (first|(go_at_call 62;first|(refine(mark_at ‹_›).mono ?_;rintro e w' ⟨rfl,rfl⟩)|(refine(mark_bad ‹_›).mono ?_;rintro e w' ⟨⟨v,rfl⟩,rfl⟩))|(go_at_call 48;refine(name_at HCL ‹_› (by first|assumption|exact Lib.hid rfl|exact run_hid _ _ _ _ _)).mono ?_;rintro e w' ⟨v,rfl,hat⟩)|(go_at_call 52;first|(refine((ih _ ?hk).sig _ _ _ _ _ ‹_› ‹_›).mono ?_;(case hk=>omega);rintro e w' ⟨v,rfl,hat⟩)|(refine(Sig_f HCL _ _ _ _ _ _ ‹_›).mono ?_;rintro e w' ⟨v,rfl,hat⟩))|(go_at_call 38;refine(HCL _ _ _ _ _ _ _ _ ‹_› (by first|exact fun _=>rfl|assumption|exact fun hb=>by cases hb) (by first|assumption|exact Lib.hid rfl|exact run_hid _ _ _ _ _)).mono ?_;rintro e w' ⟨v,rfl,hat⟩)|(go_at_call 95;first|(with_reducible refine(comes1_yes ‹_› ?hc).mono ?_;(case hc=>simp [Res.comes, *]);rintro e w' ⟨rfl,hat⟩)|(with_reducible refine(comes1_no ‹_› ?hc).mono ?_;(case hc=>simp [Res.comes, *]);rintro e w' ⟨rfl,hat⟩))|(go_at_call 60;first|(refine(ahead_is ‹_› 1 (by decide) ‹_›).mono ?_;rintro e w' ⟨rfl,rfl⟩)|(refine(ahead_at ‹_› 1 (by decide)).mono ?_;rintro e w' ⟨rfl,rfl⟩))|(go_at_call 108;first|(refine((ih _ ?hk).union _ _ _ _ _ _ ‹_› ‹_› ‹_›).mono ?_;(case hk=>omega);rintro e w' ⟨c,t,rfl,hat,hct⟩)|(refine(union_f HCL _ _ _ _ _ _ ‹_›).mono ?_;rintro e w' ⟨c,t,rfl,hat⟩)))
   all_goals(first|go_end0|go_ret)
   all_goals exact⟨_,rfl,by assumption⟩
  ·rename ¬ (_∧_)=>hneg
   rw[bind_iff] at hy
   obtain⟨z1,hz1,hy⟩:=hy
   replace hy:=Lib.hid hy
   have hun:∃ k,k+1=n∨n=0:=⟨n - 1,by omega⟩
   cases n with
   |zero=>exact absurd hz1.out (by unfold run;simp)
   |succ n=>
    have hz:=hz1.out
    rw[run] at hz
    try dsimp only at hz
    rw[bind_iff] at hz
    obtain⟨z2,hz2,hz3⟩:=hz
    replace hz3:=Lib.hid hz3
    clear hz1
    by_cases h10:(Res.ok s).kind=10
    ·have hneg2:=not_and.1 hneg h10
     clear hneg
     all_goals(try have a57:((Res.ok s).ahead 1 == 57)=false:=by simp [*])
     all_goals go_enter Tryz.func127,Tryz.ntmps127
     all_goals go_wp2_with (first|(go_at_call 62;first|(refine(mark_at ‹_›).mono ?_;rintro e w' ⟨rfl,rfl⟩)|(refine(mark_bad ‹_›).mono ?_;rintro e w' ⟨⟨v,rfl⟩,rfl⟩))|(go_at_call 48;refine(name_at HCL ‹_› (by first|assumption|exact Lib.hid rfl|exact run_hid _ _ _ _ _)).mono ?_;rintro e w' ⟨v,rfl,hat⟩)|(go_at_call 52;first|(refine((ih _ ?hk).sig _ _ _ _ _ ‹_› ‹_›).mono ?_;(case hk=>omega);rintro e w' ⟨v,rfl,hat⟩)|(refine(Sig_f HCL _ _ _ _ _ _ ‹_›).mono ?_;rintro e w' ⟨v,rfl,hat⟩))|(go_at_call 38;refine(HCL _ _ _ _ _ _ _ _ ‹_› (by first|exact fun _=>rfl|assumption|exact fun hb=>by cases hb) (by first|assumption|exact Lib.hid rfl|exact run_hid _ _ _ _ _)).mono ?_;rintro e w' ⟨v,rfl,hat⟩)|(go_at_call 95;first|(with_reducible refine(comes1_yes ‹_› ?hc).mono ?_;(case hc=>simp [Res.comes, *]);rintro e w' ⟨rfl,hat⟩)|(with_reducible refine(comes1_no ‹_› ?hc).mono ?_;(case hc=>simp [Res.comes, *]);rintro e w' ⟨rfl,hat⟩))|(go_at_call 60;first|(refine(ahead_is ‹_› 1 (by decide) ‹_›).mono ?_;rintro e w' ⟨rfl,rfl⟩)|(refine(ahead_at ‹_› 1 (by decide)).mono ?_;rintro e w' ⟨rfl,rfl⟩))|(go_at_call 108;first|(refine((ih _ ?hk).union _ _ _ _ _ _ ‹_› ‹_› ‹_›).mono ?_;(case hk=>omega);rintro e w' ⟨c,t,rfl,hat,hct⟩)|(refine(union_f HCL _ _ _ _ _ _ ‹_›).mono ?_;rintro e w' ⟨c,t,rfl,hat⟩)))
     all_goals(first|go_end0|go_ret)
     all_goals exact⟨_,rfl,by assumption⟩
    ·clear hneg
     all_goals go_enter Tryz.func127,Tryz.ntmps127
     all_goals go_wp2_with (first|(go_at_call 62;first|(refine(mark_at ‹_›).mono ?_;rintro e w' ⟨rfl,rfl⟩)|(refine(mark_bad ‹_›).mono ?_;rintro e w' ⟨⟨v,rfl⟩,rfl⟩))|(go_at_call 48;refine(name_at HCL ‹_› (by first|assumption|exact Lib.hid rfl|exact run_hid _ _ _ _ _)).mono ?_;rintro e w' ⟨v,rfl,hat⟩)|(go_at_call 52;first|(refine((ih _ ?hk).sig _ _ _ _ _ ‹_› ‹_›).mono ?_;(case hk=>omega);rintro e w' ⟨v,rfl,hat⟩)|(refine(Sig_f HCL _ _ _ _ _ _ ‹_›).mono ?_;rintro e w' ⟨v,rfl,hat⟩))|(go_at_call 38;refine(HCL _ _ _ _ _ _ _ _ ‹_› (by first|exact fun _=>rfl|assumption|exact fun hb=>by cases hb) (by first|assumption|exact Lib.hid rfl|exact run_hid _ _ _ _ _)).mono ?_;rintro e w' ⟨v,rfl,hat⟩)|(go_at_call 95;first|(with_reducible refine(comes1_yes ‹_› ?hc).mono ?_;(case hc=>simp [Res.comes, *]);rintro e w' ⟨rfl,hat⟩)|(with_reducible refine(comes1_no ‹_› ?hc).mono ?_;(case hc=>simp [Res.comes, *]);rintro e w' ⟨rfl,hat⟩))|(go_at_call 60;first|(refine(ahead_is ‹_› 1 (by decide) ‹_›).mono ?_;rintro e w' ⟨rfl,rfl⟩)|(refine(ahead_at ‹_› 1 (by decide)).mono ?_;rintro e w' ⟨rfl,rfl⟩))|(go_at_call 108;first|(refine((ih _ ?hk).union _ _ _ _ _ _ ‹_› ‹_› ‹_›).mono ?_;(case hk=>omega);rintro e w' ⟨c,t,rfl,hat,hct⟩)|(refine(union_f HCL _ _ _ _ _ _ ‹_›).mono ?_;rintro e w' ⟨c,t,rfl,hat⟩)))
     all_goals(first|go_end0|go_ret)
     all_goals exact⟨_,rfl,by assumption⟩
theorem entry_f (HCL:CloseC):∀ (C:Keep) (w:World) (b:Nat) (d0 d1 d2:Int),Hid (At C w b (.fail d0 d1 d2))→Calls Tryz.prog 105 #[.pointer (some ⟨b,0,none⟩)] w fun e w'=>e=.returned (.bool false)∧Hid (At C w' b (.fail d0 d1 d2)):=by
 intro C w b d0 d1 d2 hat
 have hk0:(Res.fail d0 d1 d2).kind=0:=rfl
 have hnm:(Res.fail d0 d1 d2).named=false:=rfl
 go_enter Tryz.func105,Tryz.ntmps105
 go_wp2_with (first|(go_at_call 133;refine(isNamed_at ‹_›).mono ?_;rw[hnm];rintro e w' ⟨rfl,hat⟩)|(go_at_call 51;refine(Type_f HCL _ _ _ _ _ _ ‹_›).mono ?_;rintro e w' ⟨v,rfl,hat⟩)|(go_at_call 95;first|(with_reducible refine(comes1_no ‹_› (by simp [Res.comes,hk0])).mono ?_;rintro e w' ⟨rfl,hat⟩)))
 go_ret
 exact⟨rfl,by assumption⟩
theorem entry_s {n:Nat} (HCL:CloseC) (ih:∀ k,k≤n→All k):CEnt 105 (n+1):=by
 have _:=HCL
 have _:=ih
 intro C w b x y hat hy
 have hy:=hy.out
 cases x with
 |fail d0 d1 d2=>
  rw[run_fail] at hy
  obtain rfl:=Option.some.inj hy
  exact entry_f HCL _ _ _ _ _ _ hat
 |ok s=>
  rw[run] at hy
  try dsimp only at hy
  obtain⟨nm,hnm⟩:∃ nm,(Res.ok s).named=nm:=⟨_,rfl⟩
  rw[hnm] at hy
  have HNM:=Lib.hid hnm
  cases nm with
  |true=>
   rw[if_pos rfl] at hy
   rw[bind_iff] at hy
   obtain⟨z,hz,hy⟩:=hy
   iterate 16 (all_goals try(first|split at hy|(rw[bind_iff] at hy;obtain⟨z,hz,hy⟩:=hy;try(rw[some_hid] at hz;subst hz))))
   all_goals(first|(obtain rfl:=Option.some.inj hy)|(replace hy:=Lib.hid hy))
   iterate 2 (all_goals try(rename _∧_=>ho;obtain⟨_,_⟩:=ho))
   iterate 7 (all_goals try(rename _∨_=>ho;rcases ho with ho|ho))
   all_goals(repeat (rename ¬ (_∨_)=>ho;rw[not_or] at ho;obtain⟨_,_⟩:=ho))
   all_goals(try(rename Res.kind _=56=>hk56;obtain⟨t,rfl⟩:=ok_of_kind hk56 (by decide)))
   all_goals go_enter Tryz.func105,Tryz.ntmps105
   all_goals go_wp2_with (first|(go_at_call 48;refine(name_at HCL ‹_› (by first|assumption|exact Lib.hid rfl|exact run_hid _ _ _ _ _)).mono ?_;rintro e w' ⟨v,rfl,hat⟩)|(go_at_call 62;first|(refine(mark_at ‹_›).mono ?_;rintro e w' ⟨rfl,rfl⟩)|(refine(mark_bad ‹_›).mono ?_;rintro e w' ⟨⟨v,rfl⟩,rfl⟩))|(go_at_call 32;refine(take_at ‹_› (by first|assumption|exact Lib.hid rfl|exact run_hid _ _ _ _ _)).mono ?_;rintro e w' ⟨v,rfl,hat⟩)|(go_at_call 51;first|(refine((ih _ ?hk).type _ _ _ _ _ ‹_› ‹_›).mono ?_;(case hk=>omega);rintro e w' ⟨v,rfl,hat⟩)|(refine(Type_f HCL _ _ _ _ _ _ ‹_›).mono ?_;rintro e w' ⟨v,rfl,hat⟩))|(go_at_call 38;refine(HCL _ _ _ _ _ _ _ _ ‹_› (by first|exact fun _=>rfl|assumption|exact fun hb=>by cases hb) (by first|assumption|exact Lib.hid rfl|exact run_hid _ _ _ _ _)).mono ?_;rintro e w' ⟨v,rfl,hat⟩)|(go_at_call 95;first|(with_reducible refine(comes1_yes ‹_› ?hc).mono ?_;(case hc=>simp [Res.comes, *]);rintro e w' ⟨rfl,hat⟩)|(with_reducible refine(comes1_no ‹_› ?hc).mono ?_;(case hc=>simp [Res.comes, *]);rintro e w' ⟨rfl,hat⟩))|(go_at_call 133;refine(isNamed_at ‹_›).mono ?_;rw[HNM.out];rintro e w' ⟨rfl,hat⟩))
   all_goals go_ret
   all_goals exact⟨by rw[HNM.out];rfl,by assumption⟩
  |false=>
   rw[if_neg (by simp)] at hy
   rw[bind_iff] at hy
   obtain⟨z,hz,hy⟩:=hy
   rw[some_hid] at hz
   subst hz
   iterate 16 (all_goals try(first|split at hy|(rw[bind_iff] at hy;obtain⟨z,hz,hy⟩:=hy;try(rw[some_hid] at hz;subst hz))))
   all_goals(first|(obtain rfl:=Option.some.inj hy)|(replace hy:=Lib.hid hy))
   iterate 2 (all_goals try(rename _∧_=>ho;obtain⟨_,_⟩:=ho))
   iterate 7 (all_goals try(rename _∨_=>ho;rcases ho with ho|ho))
   all_goals(repeat (rename ¬ (_∨_)=>ho;rw[not_or] at ho;obtain⟨_,_⟩:=ho))
   all_goals(try(rename Res.kind _=56=>hk56;obtain⟨t,rfl⟩:=ok_of_kind hk56 (by decide)))
   all_goals go_enter Tryz.func105,Tryz.ntmps105
   all_goals go_wp2_with (first|(go_at_call 48;refine(name_at HCL ‹_› (by first|assumption|exact Lib.hid rfl|exact run_hid _ _ _ _ _)).mono ?_;rintro e w' ⟨v,rfl,hat⟩)|(go_at_call 62;first|(refine(mark_at ‹_›).mono ?_;rintro e w' ⟨rfl,rfl⟩)|(refine(mark_bad ‹_›).mono ?_;rintro e w' ⟨⟨v,rfl⟩,rfl⟩))|(go_at_call 32;refine(take_at ‹_› (by first|assumption|exact Lib.hid rfl|exact run_hid _ _ _ _ _)).mono ?_;rintro e w' ⟨v,rfl,hat⟩)|(go_at_call 51;first|(refine((ih _ ?hk).type _ _ _ _ _ ‹_› ‹_›).mono ?_;(case hk=>omega);rintro e w' ⟨v,rfl,hat⟩)|(refine(Type_f HCL _ _ _ _ _ _ ‹_›).mono ?_;rintro e w' ⟨v,rfl,hat⟩))|(go_at_call 38;refine(HCL _ _ _ _ _ _ _ _ ‹_› (by first|exact fun _=>rfl|assumption|exact fun hb=>by cases hb) (by first|assumption|exact Lib.hid rfl|exact run_hid _ _ _ _ _)).mono ?_;rintro e w' ⟨v,rfl,hat⟩)|(go_at_call 95;first|(with_reducible refine(comes1_yes ‹_› ?hc).mono ?_;(case hc=>simp [Res.comes, *]);rintro e w' ⟨rfl,hat⟩)|(with_reducible refine(comes1_no ‹_› ?hc).mono ?_;(case hc=>simp [Res.comes, *]);rintro e w' ⟨rfl,hat⟩))|(go_at_call 133;refine(isNamed_at ‹_›).mono ?_;rw[HNM.out];rintro e w' ⟨rfl,hat⟩))
   all_goals go_ret
   all_goals exact⟨by rw[HNM.out];rfl,by assumption⟩
end Go.Proofs.YtmelbeefjgjdhaaGreat.rd
