/-
  Texts put together: Hm, Hq, Hr, Hn, Hp, Hs.
-/
import Derived.Test.YtcekbbkidipbnaaGreatL6
set_option maxRecDepth 100000
set_option maxHeartbeats 8000000
namespace Go.Proofs.YtcekbbkidipbnaaGreat.rd
open Go.RowKit
theorem Type_enters:Enters Tryz.prog 23:=enters_of Tryz.func23 (by kernel_rfl) rfl
theorem Sig_enters:Enters Tryz.prog 24:=enters_of Tryz.func24 (by kernel_rfl) rfl
theorem mapping_enters:Enters Tryz.prog 76:=enters_of Tryz.func76 (by kernel_rfl) rfl
theorem Type1_enters:Enters Tryz.prog 74:=enters_of Tryz.func74 (by kernel_rfl) rfl
theorem Type2_enters:Enters Tryz.prog 77:=enters_of Tryz.func77 (by kernel_rfl) rfl
theorem Type3_enters:Enters Tryz.prog 80:=enters_of Tryz.func80 (by kernel_rfl) rfl
theorem field_enters:Enters Tryz.prog 79:=enters_of Tryz.func79 (by kernel_rfl) rfl
theorem element_enters:Enters Tryz.prog 81:=enters_of Tryz.func81 (by kernel_rfl) rfl
theorem qualified_enters:Enters Tryz.prog 115:=enters_of Tryz.func115 (by kernel_rfl) rfl
theorem length1_enters:Enters Tryz.prog 138:=enters_of Tryz.func138 (by kernel_rfl) rfl
theorem Name_enters:Enters Tryz.prog 47:=enters_of Tryz.func47 (by kernel_rfl) rfl
theorem term_enters:Enters Tryz.prog 140:=enters_of Tryz.func140 (by kernel_rfl) rfl
theorem ccloseT_s {n:Nat} {C:Kc} {w:World} {b:Nat} {x z y:Res} (hat:Hid (CAt C w b x)) (h1:Hid (run n .tyL x=some z)) (h2:Hid (rExpect 63 z=some y)) (ih:∀ k,k≤n→AllC k):Calls Tryz.prog 116 #[.pointer (some ⟨b,0,none⟩),.func (.func 23) #[.pointer (some ⟨b,0,none⟩)] #[]] w (CPost C b y):=
 closeList_any (p:=.tyL) (n:=n) (g:=fun k=>run k .type) Type_enters (fun k hk w x y h hy=>by rw[Array.append_empty];exact(ih k hk).type _ _ _ _ _ h hy) (fun k s=>by rw[run]) hat h1 h2
theorem ctypeName_s {n:Nat} {C:Kc} {w:World} {b:Nat} {s:St} {z y:Res} (hat:Hid (CAt C w b (.ok s))) (h1:Hid (rQualified (.ok s)=some z)) (h3:Hid ((if z.kind=58 then(rTake z >>= fun u=>run n .type u >>= fun v=>run n .tyL v >>= fun v2=>rExpect 63 v2 >>= fun v3=>rClose s.R.length 208 v3) else some z)=some y)) (ih:∀ k,k≤n→AllC k):Calls Tryz.prog 72 #[.pointer (some ⟨b,0,none⟩)] w (CPost C b y):=by
 have hy:=h3.out
 clear h3
 iterate 16 (all_goals try(first|split at hy|(rw[bind_iff] at hy;obtain⟨z,hz,hy⟩:=hy;try(rw[some_hid] at hz;subst hz))))
 all_goals(first|(obtain rfl:=Option.some.inj hy)|(replace hy:=Lib.hid hy))
 iterate 2 (all_goals try(rename _∧_=>ho;obtain⟨_,_⟩:=ho))
 iterate 7 (all_goals try(rename _∨_=>ho;rcases ho with ho|ho))
 all_goals(repeat (rename ¬ (_∨_)=>ho;rw[not_or] at ho;obtain⟨_,_⟩:=ho))
 all_goals(try have e58:(z.kind == 58)=false:=by simp [*])
 all_goals go_enter Tryz.func72,Tryz.ntmps72
 all_goals go_wp2_with (first|(go_at_call 61;first|(refine(cmark_at ‹_›).mono ?_;rintro e w' ⟨rfl,rfl⟩)|(refine(cmark_bad ‹_›).mono ?_;rintro e w' ⟨⟨v,_,rfl⟩,rfl⟩))|(go_at_call 115;refine(cqualified_at ‹_› (by first|with_reducible assumption|exact Lib.hid rfl|assumption|exact run_hid _ _ _ _ _)).mono ?_;rintro e w' ⟨v,rfl,hat⟩)|(go_at_call 83;first|(refine(ccame_yes ‹_› ‹_› (by first|with_reducible assumption|exact Lib.hid rfl|assumption|exact run_hid _ _ _ _ _)).mono ?_;rintro e w' ⟨rfl,hat⟩)|(refine(ccame_no ‹_› ?hno).mono ?_;(case hno=>first|assumption|rfl|simp [*]);rintro e w' ⟨rfl,hat⟩))|(go_at_call 23;first|(refine((ih _ ?hk).type _ _ _ _ _ ‹_› ‹_›).mono ?_;(case hk=>omega);rintro e w' ⟨v,rfl,hat⟩)|(refine(cType_f _ _ _ _ _ _ ‹_›).mono ?_;rintro e w' ⟨v,rfl,hat⟩))|(go_at_call 37;refine(cclose_at _ _ _ _ _ _ _ _ ‹_› (by first|exact fun _=>rfl|assumption|exact fun hb=>by cases hb) (by first|exact fun _=>low_ok ‹_›|(intro _;omega)|(intro hb;cases hb;done)|assumption) (by first|with_reducible assumption|exact Lib.hid rfl|assumption|exact run_hid _ _ _ _ _)).mono ?_;rintro e w' ⟨v,rfl,hat⟩)|(go_at_call 116;refine(ccloseT_s ‹_› ‹_› ‹_› (fun j hj=>ih j (by omega))).mono ?_;rintro e w' ⟨v,rfl,hat⟩))
 all_goals(first|go_end0|go_ret)
 all_goals exact⟨_,rfl,by assumption⟩
theorem clength1_any (w:World):Calls Tryz.prog 138 #[] w fun e w'=>(∃ v,e=.returned v)∧w=w':=by
 go_enter Tryz.func138,Tryz.ntmps138
 go_wp2_with fail
 go_end0
 exact⟨⟨_,rfl⟩,rfl⟩
theorem clength1_fun {C:Kc} {b:Nat}:CFun C b 138 (#[] ++ #[]) (fun r=>some r):=by
 intro w x y h hy
 rw[Array.append_empty]
 refine(clength1_any w).mono ?_
 rintro e w' ⟨⟨v,rfl⟩,rfl⟩
 have e:=Option.some.inj hy.out
 rw[← e]
 exact⟨v,rfl,h⟩
theorem clength_s {n:Nat} {C:Kc} {w:World} {b:Nat} {s:St} {y:Res} (hat:Hid (CAt C w b (.ok s))) (h3:Hid ((if (Res.ok s).kind=56 then(rTake (.ok s) >>= fun u=>rClose s.R.length 218 u) else run n (.X false) (.ok s))=some y)) (ih:∀ k,k≤n→AllC k):Calls Tryz.prog 117 #[.pointer (some ⟨b,0,none⟩)] w (CPost C b y):=by
 have hy:=h3.out
 clear h3
 iterate 16 (all_goals try(first|split at hy|(rw[bind_iff] at hy;obtain⟨z,hz,hy⟩:=hy;try(rw[some_hid] at hz;subst hz))))
 all_goals(first|(obtain rfl:=Option.some.inj hy)|(replace hy:=Lib.hid hy))
 iterate 2 (all_goals try(rename _∧_=>ho;obtain⟨_,_⟩:=ho))
 iterate 7 (all_goals try(rename _∨_=>ho;rcases ho with ho|ho))
 all_goals(repeat (rename ¬ (_∨_)=>ho;rw[not_or] at ho;obtain⟨_,_⟩:=ho))
 all_goals(try have e56:((Res.ok s).kind == 56)=false:=by simp [*])
 all_goals go_enter Tryz.func117,Tryz.ntmps117
 all_goals go_wp2_with (first|(go_at_call 57;first|(refine(ckind_is ‹_› ‹_›).mono ?_;rintro e w' ⟨rfl,hat⟩)|(refine(ckind_at ‹_›).mono ?_;rintro e w' ⟨rfl,hat⟩))|(go_at_call 139;first|(refine(cinside_at (ih:=ih _ ?hk) ‹_› ‹_›).mono ?_;(case hk=>omega);rintro e w' ⟨v,rfl,hat⟩)|(refine(cinside_f _ _ _ _ _ _ ‹_›).mono ?_;rintro e w' ⟨v,rfl,hat⟩))|(go_at_call 73;refine(wrapped_any (A:=#[]) (B:=#[]) (g:=fun r=>some r) length1_enters clength1_fun ‹_› ‹_› (Lib.hid rfl) ‹_›).mono ?_;rintro e w' ⟨v,rfl,hat⟩))
 all_goals(first|go_end0|go_ret)
 all_goals exact⟨_,rfl,by assumption⟩
open Go.RowKit
theorem cendsName_at {C:Kc} {w:World} {b:Nat} {x:Res} (h:Hid (CAt C w b x)):Calls Tryz.prog 118 #[.pointer (some ⟨b,0,none⟩)] w fun e w'=>e=.returned (.bool (x.ahead 1 == 15 || x.ahead 1 == 16 || x.ahead 1 == 64 || x.ahead 1 == 61))∧Hid (CAt C w' b x):=by
 have HA:=Lib.hid (cahead_at h 1 (by decide))
 clear h
 generalize x.ahead 1=z at *
 have hcase:∃ r:Bool,(z == 15 || z == 16 || z == 64 || z == 61)=r:=⟨_,rfl⟩
 obtain⟨r,hr⟩:=hcase
 by_cases h15:z=15
 ·subst h15
  all_goals go_enter Tryz.func118,Tryz.ntmps118
  all_goals go_wp2_with (go_at_call 59;refine HA.out.mono ?_;rintro e w' ⟨rfl,hat⟩)
  all_goals(first|go_end0|go_ret)
  all_goals exact⟨rfl,hat⟩
 by_cases h16:z=16
 ·subst h16
  all_goals go_enter Tryz.func118,Tryz.ntmps118
  all_goals go_wp2_with (go_at_call 59;refine HA.out.mono ?_;rintro e w' ⟨rfl,hat⟩)
  all_goals(first|go_end0|go_ret)
  all_goals exact⟨rfl,hat⟩
 by_cases h64:z=64
 ·subst h64
  all_goals go_enter Tryz.func118,Tryz.ntmps118
  all_goals go_wp2_with (go_at_call 59;refine HA.out.mono ?_;rintro e w' ⟨rfl,hat⟩)
  all_goals(first|go_end0|go_ret)
  all_goals exact⟨rfl,hat⟩
 by_cases h61:z=61
 ·subst h61
  all_goals go_enter Tryz.func118,Tryz.ntmps118
  all_goals go_wp2_with (go_at_call 59;refine HA.out.mono ?_;rintro e w' ⟨rfl,hat⟩)
  all_goals(first|go_end0|go_ret)
  all_goals exact⟨rfl,hat⟩
 have e15:(z == 15)=false:=beq_eq_false_iff_ne.2 h15
 have e16:(z == 16)=false:=beq_eq_false_iff_ne.2 h16
 have e64:(z == 64)=false:=beq_eq_false_iff_ne.2 h64
 have e61:(z == 61)=false:=beq_eq_false_iff_ne.2 h61
 rw[e15,e16,e64,e61]
 all_goals go_enter Tryz.func118,Tryz.ntmps118
 all_goals go_wp2_with (go_at_call 59;refine HA.out.mono ?_;rintro e w' ⟨rfl,hat⟩)
 all_goals(first|go_end0|go_ret)
 all_goals exact⟨rfl,hat⟩
theorem cendsName_is {C:Kc} {w:World} {b:Nat} {x:Res} (h:Hid (CAt C w b x)) {r:Bool} (hr:(x.ahead 1 == 15 || x.ahead 1 == 16 || x.ahead 1 == 64 || x.ahead 1 == 61)=r):Calls Tryz.prog 118 #[.pointer (some ⟨b,0,none⟩)] w fun e w'=>e=.returned (.bool r)∧Hid (CAt C w' b x):=by
 rw[← hr];exact cendsName_at h
theorem cjoinedName_s {n:Nat} (hn:n≤1099511627776) {C:Kc} {w:World} {b:Nat} {x z y:Res} (hat:Hid (CAt C w b x)) (h1:Hid (rName x=some z)) (h2:Hid (run n .names z=some y)):Calls Tryz.prog 84 #[.pointer (some ⟨b,0,none⟩),.int .i64 60,.func (.func 47) #[.pointer (some ⟨b,0,none⟩)] #[]] w fun e w'=>∃ c:Int,e=.returned (.int .i64 c)∧Hid (CAt C w' b y):=by
 refine(joined_any (p:=.names) (n:=n) (g:=fun _=>rName) (A:=#[.pointer (some ⟨b,0,none⟩)]) (B:=#[]) (by':=60) hn Name_enters (fun k hk w x y h hy=>by rw[Array.append_empty];exact cname_at h hy) (by decide) (fun k s=>by rw[run]) hat h1 h2).mono ?_
 rintro e w' ⟨c,rfl,h,_⟩
 exact⟨c,rfl,h⟩
open Go.RowKit
theorem cfield_s {n:Nat} (hn:n≤1099511627776) (ih:∀ k,k≤n→AllC k):P0 79 (n+1) .field:=by
 have _:=ih
 intro C w b x y hat hy
 have hy:=hy.out
 cases x with
 |fail d0 d1 d2=>
  rw[run_fail] at hy
  obtain rfl:=Option.some.inj hy
  clear hy
  have hk0:(Res.fail d0 d1 d2).kind=0:=rfl
  all_goals go_enter Tryz.func79,Tryz.ntmps79
  all_goals go_wp2_with (first|(go_at_call 61;first|(refine(cmark_at ‹_›).mono ?_;rintro e w' ⟨rfl,rfl⟩)|(refine(cmark_bad ‹_›).mono ?_;rintro e w' ⟨⟨v,_,rfl⟩,rfl⟩))|(go_at_call 57;first|(refine(ckind_is ‹_› ‹_›).mono ?_;rintro e w' ⟨rfl,hat⟩)|(refine(ckind_at ‹_›).mono ?_;rintro e w' ⟨rfl,hat⟩))|(go_at_call 37;refine(cclose_at _ _ _ _ _ _ _ _ ‹_› (by first|exact fun _=>rfl|assumption|exact fun hb=>by cases hb) (by first|exact fun _=>low_ok ‹_›|(intro _;omega)|(intro hb;cases hb;done)|assumption) (by first|with_reducible assumption|exact Lib.hid rfl|assumption|exact run_hid _ _ _ _ _)).mono ?_;rintro e w' ⟨v,rfl,hat⟩)|(go_at_call 23;refine(cType_f _ _ _ _ _ _ ‹_›).mono ?_;rintro e w' ⟨v,rfl,hat⟩)|(go_at_call 84;refine(cjoinedName_s (n:=0) (by omega) ‹_› (Lib.hid rfl) (run_hid _ _ _ _ _)).mono ?_;rintro e w' ⟨c,rfl,hat⟩))
  all_goals(first|go_end0|go_ret)
  all_goals exact⟨_,rfl,by assumption⟩
 |ok s=>
  have hlo:C.low≤s.R.length:=low_nat hat
  rw[run] at hy
  try dsimp only at hy
  have HF:Hid (CFun C b 115 (#[.pointer (some ⟨b,0,none⟩)] ++ #[]) rQualified):=Lib.hid (fun w x y h hy=>by rw[Array.append_empty];exact cqualified_at h hy)
  by_cases h22:(Res.ok s).kind=22
  ·rw[if_pos h22] at hy
   iterate 16 (all_goals try(first|split at hy|(rw[bind_iff] at hy;obtain⟨z,hz,hy⟩:=hy;try(rw[some_hid] at hz;subst hz))))
   all_goals(first|(obtain rfl:=Option.some.inj hy)|(replace hy:=Lib.hid hy))
   iterate 2 (all_goals try(rename _∧_=>ho;obtain⟨_,_⟩:=ho))
   iterate 7 (all_goals try(rename _∨_=>ho;rcases ho with ho|ho))
   all_goals(repeat (rename ¬ (_∨_)=>ho;rw[not_or] at ho;obtain⟨_,_⟩:=ho))
   all_goals go_enter Tryz.func79,Tryz.ntmps79
   all_goals go_wp2_with (first|(go_at_call 61;first|(refine(cmark_at ‹_›).mono ?_;rintro e w' ⟨rfl,rfl⟩)|(refine(cmark_bad ‹_›).mono ?_;rintro e w' ⟨⟨v,_,rfl⟩,rfl⟩))|(go_at_call 57;first|(refine(ckind_is ‹_› ‹_›).mono ?_;rintro e w' ⟨rfl,hat⟩)|(refine(ckind_at ‹_›).mono ?_;rintro e w' ⟨rfl,hat⟩))|(go_at_call 115;refine(cqualified_at ‹_› (by first|with_reducible assumption|exact Lib.hid rfl|assumption|exact run_hid _ _ _ _ _)).mono ?_;rintro e w' ⟨v,rfl,hat⟩)|(go_at_call 37;refine(cclose_at _ _ _ _ _ _ _ _ ‹_› (by first|exact fun _=>rfl|assumption|exact fun hb=>by cases hb) (by first|exact fun _=>low_ok ‹_›|(intro _;omega)|(intro hb;cases hb;done)|assumption) (by first|with_reducible assumption|exact Lib.hid rfl|assumption|exact run_hid _ _ _ _ _)).mono ?_;rintro e w' ⟨v,rfl,hat⟩)|(go_at_call 23;first|(refine((ih _ ?hk).type _ _ _ _ _ ‹_› ‹_›).mono ?_;(case hk=>omega);rintro e w' ⟨v,rfl,hat⟩)|(refine(cType_f _ _ _ _ _ _ ‹_›).mono ?_;rintro e w' ⟨v,rfl,hat⟩))|(go_at_call 118;refine(cendsName_is ‹_› ‹_›).mono ?_;rintro e w' ⟨rfl,hat⟩)|(go_at_call 84;refine(cjoinedName_s hn ‹_› (by first|with_reducible assumption|exact Lib.hid rfl) (by first|with_reducible assumption|exact run_hid _ _ _ _ _)).mono ?_;rintro e w' ⟨c,rfl,hat⟩)|(go_at_call 73;(with_reducible refine(wrapped_any (C:=C) (A:=#[.pointer (some ⟨b,0,none⟩)]) (B:=#[]) (g:=rQualified) qualified_enters HF.out ‹_› ‹_› ‹_› ‹_›).mono ?_);rintro e w' ⟨v,rfl,hat⟩))
   all_goals(first|go_end0|go_ret)
   all_goals exact⟨_,rfl,by assumption⟩
  ·rw[if_neg h22] at hy
   have e22:((Res.ok s).kind == 22)=false:=beq_eq_false_iff_ne.2 h22
   by_cases h10:(Res.ok s).kind=10
   ·by_cases hE:(Res.ok s).ahead 1=15∨(Res.ok s).ahead 1=16∨(Res.ok s).ahead 1=64∨(Res.ok s).ahead 1=61
    ·rw[if_pos ⟨h10,hE⟩] at hy
     have hr:((Res.ok s).ahead 1 == 15 || (Res.ok s).ahead 1 == 16 || (Res.ok s).ahead 1 == 64 || (Res.ok s).ahead 1 == 61)=true:=by simp only[Bool.or_eq_true,beq_iff_eq];rcases hE with h|h|h|h <;> simp [h]
     iterate 16 (all_goals try(first|split at hy|(rw[bind_iff] at hy;obtain⟨z,hz,hy⟩:=hy;try(rw[some_hid] at hz;subst hz))))
     all_goals(first|(obtain rfl:=Option.some.inj hy)|(replace hy:=Lib.hid hy))
     iterate 2 (all_goals try(rename _∧_=>ho;obtain⟨_,_⟩:=ho))
     iterate 7 (all_goals try(rename _∨_=>ho;rcases ho with ho|ho))
     all_goals(repeat (rename ¬ (_∨_)=>ho;rw[not_or] at ho;obtain⟨_,_⟩:=ho))
     all_goals go_enter Tryz.func79,Tryz.ntmps79
     all_goals go_wp2_with (first|(go_at_call 61;first|(refine(cmark_at ‹_›).mono ?_;rintro e w' ⟨rfl,rfl⟩)|(refine(cmark_bad ‹_›).mono ?_;rintro e w' ⟨⟨v,_,rfl⟩,rfl⟩))|(go_at_call 57;first|(refine(ckind_is ‹_› ‹_›).mono ?_;rintro e w' ⟨rfl,hat⟩)|(refine(ckind_at ‹_›).mono ?_;rintro e w' ⟨rfl,hat⟩))|(go_at_call 115;refine(cqualified_at ‹_› (by first|with_reducible assumption|exact Lib.hid rfl|assumption|exact run_hid _ _ _ _ _)).mono ?_;rintro e w' ⟨v,rfl,hat⟩)|(go_at_call 37;refine(cclose_at _ _ _ _ _ _ _ _ ‹_› (by first|exact fun _=>rfl|assumption|exact fun hb=>by cases hb) (by first|exact fun _=>low_ok ‹_›|(intro _;omega)|(intro hb;cases hb;done)|assumption) (by first|with_reducible assumption|exact Lib.hid rfl|assumption|exact run_hid _ _ _ _ _)).mono ?_;rintro e w' ⟨v,rfl,hat⟩)|(go_at_call 23;first|(refine((ih _ ?hk).type _ _ _ _ _ ‹_› ‹_›).mono ?_;(case hk=>omega);rintro e w' ⟨v,rfl,hat⟩)|(refine(cType_f _ _ _ _ _ _ ‹_›).mono ?_;rintro e w' ⟨v,rfl,hat⟩))|(go_at_call 118;refine(cendsName_is ‹_› ‹_›).mono ?_;rintro e w' ⟨rfl,hat⟩)|(go_at_call 84;refine(cjoinedName_s hn ‹_› (by first|with_reducible assumption|exact Lib.hid rfl) (by first|with_reducible assumption|exact run_hid _ _ _ _ _)).mono ?_;rintro e w' ⟨c,rfl,hat⟩)|(go_at_call 73;(with_reducible refine(wrapped_any (C:=C) (A:=#[.pointer (some ⟨b,0,none⟩)]) (B:=#[]) (g:=rQualified) qualified_enters HF.out ‹_› ‹_› ‹_› ‹_›).mono ?_);rintro e w' ⟨v,rfl,hat⟩))
     all_goals(first|go_end0|go_ret)
     all_goals exact⟨_,rfl,by assumption⟩
    ·rw[if_neg (fun h=>hE h.2)] at hy
     have hr:((Res.ok s).ahead 1 == 15 || (Res.ok s).ahead 1 == 16 || (Res.ok s).ahead 1 == 64 || (Res.ok s).ahead 1 == 61)=false:=by
      simp only[not_or] at hE
      simp [hE.1,hE.2.1,hE.2.2.1,hE.2.2.2]
     rw[bind_iff] at hy
     obtain⟨z1,hz1,hy⟩:=hy
     rw[bind_iff] at hy
     obtain⟨z2,hz2,hy⟩:=hy
     rw[bind_iff] at hy
     obtain⟨z3,hz3,hy⟩:=hy
     replace hy:=Lib.hid hy
     all_goals go_enter Tryz.func79,Tryz.ntmps79
     all_goals go_wp2_with (first|(go_at_call 61;first|(refine(cmark_at ‹_›).mono ?_;rintro e w' ⟨rfl,rfl⟩)|(refine(cmark_bad ‹_›).mono ?_;rintro e w' ⟨⟨v,_,rfl⟩,rfl⟩))|(go_at_call 57;first|(refine(ckind_is ‹_› ‹_›).mono ?_;rintro e w' ⟨rfl,hat⟩)|(refine(ckind_at ‹_›).mono ?_;rintro e w' ⟨rfl,hat⟩))|(go_at_call 115;refine(cqualified_at ‹_› (by first|with_reducible assumption|exact Lib.hid rfl|assumption|exact run_hid _ _ _ _ _)).mono ?_;rintro e w' ⟨v,rfl,hat⟩)|(go_at_call 37;refine(cclose_at _ _ _ _ _ _ _ _ ‹_› (by first|exact fun _=>rfl|assumption|exact fun hb=>by cases hb) (by first|exact fun _=>low_ok ‹_›|(intro _;omega)|(intro hb;cases hb;done)|assumption) (by first|with_reducible assumption|exact Lib.hid rfl|assumption|exact run_hid _ _ _ _ _)).mono ?_;rintro e w' ⟨v,rfl,hat⟩)|(go_at_call 23;first|(refine((ih _ ?hk).type _ _ _ _ _ ‹_› ‹_›).mono ?_;(case hk=>omega);rintro e w' ⟨v,rfl,hat⟩)|(refine(cType_f _ _ _ _ _ _ ‹_›).mono ?_;rintro e w' ⟨v,rfl,hat⟩))|(go_at_call 118;refine(cendsName_is ‹_› ‹_›).mono ?_;rintro e w' ⟨rfl,hat⟩)|(go_at_call 84;refine(cjoinedName_s hn ‹_› (by first|with_reducible assumption|exact Lib.hid rfl) (by first|with_reducible assumption|exact run_hid _ _ _ _ _)).mono ?_;rintro e w' ⟨c,rfl,hat⟩)|(go_at_call 73;(with_reducible refine(wrapped_any (C:=C) (A:=#[.pointer (some ⟨b,0,none⟩)]) (B:=#[]) (g:=rQualified) qualified_enters HF.out ‹_› ‹_› ‹_› ‹_›).mono ?_);rintro e w' ⟨v,rfl,hat⟩))
     all_goals(first|go_end0|go_ret)
     all_goals exact⟨_,rfl,by assumption⟩
   ·rw[if_neg (fun h=>h10 h.1)] at hy
    have e10:((Res.ok s).kind == 10)=false:=beq_eq_false_iff_ne.2 h10
    rw[bind_iff] at hy
    obtain⟨z1,hz1,hy⟩:=hy
    rw[bind_iff] at hy
    obtain⟨z2,hz2,hy⟩:=hy
    rw[bind_iff] at hy
    obtain⟨z3,hz3,hy⟩:=hy
    replace hy:=Lib.hid hy
    all_goals go_enter Tryz.func79,Tryz.ntmps79
    all_goals go_wp2_with (first|(go_at_call 61;first|(refine(cmark_at ‹_›).mono ?_;rintro e w' ⟨rfl,rfl⟩)|(refine(cmark_bad ‹_›).mono ?_;rintro e w' ⟨⟨v,_,rfl⟩,rfl⟩))|(go_at_call 57;first|(refine(ckind_is ‹_› ‹_›).mono ?_;rintro e w' ⟨rfl,hat⟩)|(refine(ckind_at ‹_›).mono ?_;rintro e w' ⟨rfl,hat⟩))|(go_at_call 115;refine(cqualified_at ‹_› (by first|with_reducible assumption|exact Lib.hid rfl|assumption|exact run_hid _ _ _ _ _)).mono ?_;rintro e w' ⟨v,rfl,hat⟩)|(go_at_call 37;refine(cclose_at _ _ _ _ _ _ _ _ ‹_› (by first|exact fun _=>rfl|assumption|exact fun hb=>by cases hb) (by first|exact fun _=>low_ok ‹_›|(intro _;omega)|(intro hb;cases hb;done)|assumption) (by first|with_reducible assumption|exact Lib.hid rfl|assumption|exact run_hid _ _ _ _ _)).mono ?_;rintro e w' ⟨v,rfl,hat⟩)|(go_at_call 23;first|(refine((ih _ ?hk).type _ _ _ _ _ ‹_› ‹_›).mono ?_;(case hk=>omega);rintro e w' ⟨v,rfl,hat⟩)|(refine(cType_f _ _ _ _ _ _ ‹_›).mono ?_;rintro e w' ⟨v,rfl,hat⟩))|(go_at_call 118;refine(cendsName_is ‹_› ‹_›).mono ?_;rintro e w' ⟨rfl,hat⟩)|(go_at_call 84;refine(cjoinedName_s hn ‹_› (by first|with_reducible assumption|exact Lib.hid rfl) (by first|with_reducible assumption|exact run_hid _ _ _ _ _)).mono ?_;rintro e w' ⟨c,rfl,hat⟩)|(go_at_call 73;(with_reducible refine(wrapped_any (C:=C) (A:=#[.pointer (some ⟨b,0,none⟩)]) (B:=#[]) (g:=rQualified) qualified_enters HF.out ‹_› ‹_› ‹_› ‹_›).mono ?_);rintro e w' ⟨v,rfl,hat⟩))
    all_goals(first|go_end0|go_ret)
    all_goals exact⟨_,rfl,by assumption⟩
open Go.RowKit
theorem csequence_s {n:Nat} (ih:∀ k,k≤n→AllC k):PArr 75 (n+1):=by
 have _:=ih
 intro C w b s y hat hy
 have hy:=hy.out
 rw[run] at hy
 try dsimp only at hy
 rw[bind_iff] at hy
 obtain⟨z1,hz1,hy⟩:=hy
 have e1:=hz1.out
 obtain⟨rfl,_⟩:=chk_ok e1
 clear e1
 by_cases h63:(Res.ok s.take).kind=63
 ·rw[if_pos h63] at hy
  rw[bind_iff] at hy
  obtain⟨z2,hz2,hy⟩:=hy
  have hz2':=rExpect_take h63 (by decide) hz2
  rw[bind_iff] at hy
  obtain⟨z3,hz3,hy⟩:=hy
  replace hy:=Lib.hid hy
  all_goals go_enter Tryz.func75,Tryz.ntmps75
  all_goals go_wp2_with (first|(go_at_call 61;first|(refine(cmark_at ‹_›).mono ?_;rintro e w' ⟨rfl,rfl⟩)|(refine(cmark_bad ‹_›).mono ?_;rintro e w' ⟨⟨v,_,rfl⟩,rfl⟩))|(go_at_call 31;refine(ctake_at ‹_› (by first|with_reducible assumption|exact Lib.hid rfl|assumption|exact run_hid _ _ _ _ _)).mono ?_;rintro e w' ⟨v,rfl,hat⟩)|(go_at_call 57;first|(refine(ckind_is ‹_› ‹_›).mono ?_;rintro e w' ⟨rfl,hat⟩)|(refine(ckind_at ‹_›).mono ?_;rintro e w' ⟨rfl,hat⟩))|(go_at_call 33;refine(cexpect_at ‹_› _ (by first|with_reducible assumption|exact Lib.hid rfl|assumption|exact run_hid _ _ _ _ _)).mono ?_;rintro e w' ⟨rfl,hat⟩)|(go_at_call 23;first|(refine((ih _ ?hk).type _ _ _ _ _ ‹_› ‹_›).mono ?_;(case hk=>omega);rintro e w' ⟨v,rfl,hat⟩)|(refine(cType_f _ _ _ _ _ _ ‹_›).mono ?_;rintro e w' ⟨v,rfl,hat⟩))|(go_at_call 37;refine(cclose_at _ _ _ _ _ _ _ _ ‹_› (by first|exact fun _=>rfl|assumption|exact fun hb=>by cases hb) (by first|exact fun _=>low_ok ‹_›|(intro _;omega)|(intro hb;cases hb;done)|assumption) (by first|with_reducible assumption|exact Lib.hid rfl|assumption|exact run_hid _ _ _ _ _)).mono ?_;rintro e w' ⟨v,rfl,hat⟩)|(go_at_call 117;refine(clength_s ‹_› ‹_› (fun j hj=>ih j (by omega))).mono ?_;rintro e w' ⟨v,rfl,hat⟩))
  all_goals(first|go_end0|go_ret)
  all_goals exact⟨_,rfl,by assumption⟩
 ·rw[if_neg h63] at hy
  have e63:((Res.ok s.take).kind == 63)=false:=by simp [*]
  have hcase:∃ z2,Hid ((if (Res.ok s.take).kind=56 then(rTake (.ok s.take) >>= fun u=>rClose s.take.R.length 218 u) else run n (.X false) (.ok s.take))=some z2)∧((rExpect 63 z2 >>= fun v=>run n .type v >>= fun v2=>rClose s.R.length 221 v2)=some y):=by
   split at hy
   ·rename_i h56
    rw[bind_iff] at hy
    obtain⟨a1,ha1,hy⟩:=hy
    rw[bind_iff] at hy
    obtain⟨a2,ha2,hy⟩:=hy
    refine⟨a2,Lib.hid ?_,hy⟩
    rw[if_pos h56]
    have e1:=ha1.out
    have e2:=ha2.out
    rw[e1]
    exact e2
   ·rename_i h56
    rw[bind_iff] at hy
    obtain⟨a1,ha1,hy⟩:=hy
    exact⟨a1,Lib.hid (by rw[if_neg h56];exact ha1.out),hy⟩
  clear hy
  obtain⟨z2,hz2,hy⟩:=hcase
  rw[bind_iff] at hy
  obtain⟨z3,hz3,hy⟩:=hy
  rw[bind_iff] at hy
  obtain⟨z4,hz4,hy⟩:=hy
  replace hy:=Lib.hid hy
  all_goals go_enter Tryz.func75,Tryz.ntmps75
  all_goals go_wp2_with (first|(go_at_call 61;first|(refine(cmark_at ‹_›).mono ?_;rintro e w' ⟨rfl,rfl⟩)|(refine(cmark_bad ‹_›).mono ?_;rintro e w' ⟨⟨v,_,rfl⟩,rfl⟩))|(go_at_call 31;refine(ctake_at ‹_› (by first|with_reducible assumption|exact Lib.hid rfl|assumption|exact run_hid _ _ _ _ _)).mono ?_;rintro e w' ⟨v,rfl,hat⟩)|(go_at_call 57;first|(refine(ckind_is ‹_› ‹_›).mono ?_;rintro e w' ⟨rfl,hat⟩)|(refine(ckind_at ‹_›).mono ?_;rintro e w' ⟨rfl,hat⟩))|(go_at_call 33;refine(cexpect_at ‹_› _ (by first|with_reducible assumption|exact Lib.hid rfl|assumption|exact run_hid _ _ _ _ _)).mono ?_;rintro e w' ⟨rfl,hat⟩)|(go_at_call 23;first|(refine((ih _ ?hk).type _ _ _ _ _ ‹_› ‹_›).mono ?_;(case hk=>omega);rintro e w' ⟨v,rfl,hat⟩)|(refine(cType_f _ _ _ _ _ _ ‹_›).mono ?_;rintro e w' ⟨v,rfl,hat⟩))|(go_at_call 37;refine(cclose_at _ _ _ _ _ _ _ _ ‹_› (by first|exact fun _=>rfl|assumption|exact fun hb=>by cases hb) (by first|exact fun _=>low_ok ‹_›|(intro _;omega)|(intro hb;cases hb;done)|assumption) (by first|with_reducible assumption|exact Lib.hid rfl|assumption|exact run_hid _ _ _ _ _)).mono ?_;rintro e w' ⟨v,rfl,hat⟩)|(go_at_call 117;refine(clength_s ‹_› ‹_› (fun j hj=>ih j (by omega))).mono ?_;rintro e w' ⟨v,rfl,hat⟩))
  all_goals(first|go_end0|go_ret)
  all_goals exact⟨_,rfl,by assumption⟩
theorem cmapping_s {n:Nat} {C:Kc} {w:World} {b:Nat} {x y:Res} (hat:Hid (CAt C w b x)) (h3:Hid ((rExpect 58 x >>= fun u=>run n .type u >>= fun v=>rExpect 63 v >>= fun v2=>run n .type v2)=some y)) (ih:∀ k,k≤n→AllC k):Calls Tryz.prog 76 #[.pointer (some ⟨b,0,none⟩)] w (CPost C b y):=by
 have hy:=h3.out
 clear h3
 iterate 16 (all_goals try(first|split at hy|(rw[bind_iff] at hy;obtain⟨z,hz,hy⟩:=hy;try(rw[some_hid] at hz;subst hz))))
 all_goals(first|(obtain rfl:=Option.some.inj hy)|(replace hy:=Lib.hid hy))
 iterate 2 (all_goals try(rename _∧_=>ho;obtain⟨_,_⟩:=ho))
 iterate 7 (all_goals try(rename _∨_=>ho;rcases ho with ho|ho))
 all_goals(repeat (rename ¬ (_∨_)=>ho;rw[not_or] at ho;obtain⟨_,_⟩:=ho))
 all_goals go_enter Tryz.func76,Tryz.ntmps76
 all_goals go_wp2_with (first|(go_at_call 33;refine(cexpect_at ‹_› _ (by first|with_reducible assumption|exact Lib.hid rfl|assumption|exact run_hid _ _ _ _ _)).mono ?_;rintro e w' ⟨rfl,hat⟩)|(go_at_call 23;first|(refine((ih _ ?hk).type _ _ _ _ _ ‹_› ‹_›).mono ?_;(case hk=>omega);rintro e w' ⟨v,rfl,hat⟩)|(refine(cType_f _ _ _ _ _ _ ‹_›).mono ?_;rintro e w' ⟨v,rfl,hat⟩)))
 all_goals(first|go_end0|go_ret)
 all_goals exact⟨_,rfl,by assumption⟩
theorem citemsF_s {n:Nat} {C:Kc} {w:World} {b:Nat} {x y:Res} (hat:Hid (CAt C w b x)) (hy:Hid (run n (.items true) x=some y)) (ih:∀ k,k≤n→AllC k):Calls Tryz.prog 78 #[.pointer (some ⟨b,0,none⟩),.func (.func 79) #[.pointer (some ⟨b,0,none⟩)] #[]] w (CPost C b y):=by
 have key:∀ m z1 z,m≤n→Hid (rExpect 59 x=some z1)→Hid (run m (.itL true) z1=some z)→Hid (rExpect 64 z=some y)→Calls Tryz.prog 78 #[.pointer (some ⟨b,0,none⟩),.func (.func 79) #[.pointer (some ⟨b,0,none⟩)] #[]] w (CPost C b y):=fun m z1 z hm h1 h2 h3=>
  items_any (p:=.itL true) (n:=m) (g:=fun k=>run k .field) field_enters (fun k hk w x y h hy=>by rw[Array.append_empty];exact(ih k (by omega)).field _ _ _ _ _ h hy) (fun k d0 d1 d2=>run_fail _ _ _ _ _) (fun k s=>by rw[run]) hat h1 h2 h3
 have hy:=hy.out
 cases x with
 |fail d0 d1 d2=>
  rw[run_fail] at hy
  obtain rfl:=Option.some.inj hy
  exact key 0 _ _ (Nat.zero_le _) (Lib.hid rfl) (run_hid _ _ _ _ _) (Lib.hid rfl)
 |ok s=>
  cases n with
  |zero=>exact absurd hy (by unfold run;simp)
  |succ n=>
   rw[run] at hy
   rw[bind_iff] at hy
   obtain⟨z1,hz1,hy⟩:=hy
   rw[bind_iff] at hy
   obtain⟨z2,hz2,hy⟩:=hy
   replace hy:=Lib.hid hy
   exact key n _ _ (by omega) ‹_› ‹_› ‹_›
theorem citemsE_s {n:Nat} {C:Kc} {w:World} {b:Nat} {x y:Res} (hat:Hid (CAt C w b x)) (hy:Hid (run n (.items false) x=some y)) (ih:∀ k,k≤n→AllC k):Calls Tryz.prog 78 #[.pointer (some ⟨b,0,none⟩),.func (.func 81) #[.pointer (some ⟨b,0,none⟩)] #[]] w (CPost C b y):=by
 have key:∀ m z1 z,m≤n→Hid (rExpect 59 x=some z1)→Hid (run m (.itL false) z1=some z)→Hid (rExpect 64 z=some y)→Calls Tryz.prog 78 #[.pointer (some ⟨b,0,none⟩),.func (.func 81) #[.pointer (some ⟨b,0,none⟩)] #[]] w (CPost C b y):=fun m z1 z hm h1 h2 h3=>
  items_any (p:=.itL false) (n:=m) (g:=fun k=>run k .element) element_enters (fun k hk w x y h hy=>by rw[Array.append_empty];exact(ih k (by omega)).element _ _ _ _ _ h hy) (fun k d0 d1 d2=>run_fail _ _ _ _ _) (fun k s=>by rw[run]) hat h1 h2 h3
 have hy:=hy.out
 cases x with
 |fail d0 d1 d2=>
  rw[run_fail] at hy
  obtain rfl:=Option.some.inj hy
  exact key 0 _ _ (Nat.zero_le _) (Lib.hid rfl) (run_hid _ _ _ _ _) (Lib.hid rfl)
 |ok s=>
  cases n with
  |zero=>exact absurd hy (by unfold run;simp)
  |succ n=>
   rw[run] at hy
   rw[bind_iff] at hy
   obtain⟨z1,hz1,hy⟩:=hy
   rw[bind_iff] at hy
   obtain⟨z2,hz2,hy⟩:=hy
   replace hy:=Lib.hid hy
   exact key n _ _ (by omega) ‹_› ‹_› ‹_›
theorem cType1_s {n:Nat} {C1:Kc} {b B0:Nat} (ih:∀ k,k≤n→AllC k) (HBX:Hid (∀ W' z,Hid (CAt C1 W' b z)→W'.cell? ⟨B0,0,none⟩=some (.pointer (some ⟨b,0,none⟩)))):CFun C1 b 74 (#[] ++ #[.pointer (some ⟨B0,0,none⟩)]) (fun r=>run n .type r >>= fun u=>rExpect 62 u):=by
 intro w x y hat hy
 have hy:=hy.out
 try dsimp only at hy
 iterate 16 (all_goals try(first|split at hy|(rw[bind_iff] at hy;obtain⟨z,hz,hy⟩:=hy;try(rw[some_hid] at hz;subst hz))))
 all_goals(first|(obtain rfl:=Option.some.inj hy)|(replace hy:=Lib.hid hy))
 iterate 2 (all_goals try(rename _∧_=>ho;obtain⟨_,_⟩:=ho))
 iterate 7 (all_goals try(rename _∨_=>ho;rcases ho with ho|ho))
 all_goals(repeat (rename ¬ (_∨_)=>ho;rw[not_or] at ho;obtain⟨_,_⟩:=ho))
 have hc:=HBX.out _ _ hat
 rw[Array.empty_append]
 all_goals go_enter Tryz.func74,Tryz.ntmps74
 all_goals go_wp2_with (first|((go_at_call 23;first|(refine((ih _ ?hk).type _ _ _ _ _ ‹_› ‹_›).mono ?_;(case hk=>omega);rintro e w' ⟨v,rfl,hat⟩)|(refine(cType_f _ _ _ _ _ _ ‹_›).mono ?_;rintro e w' ⟨v,rfl,hat⟩));have hc:=HBX.out _ _ hat)|((go_at_call 33;refine(cexpect_at ‹_› _ (by first|with_reducible assumption|exact Lib.hid rfl|assumption|exact run_hid _ _ _ _ _)).mono ?_;rintro e w' ⟨rfl,hat⟩);have hc:=HBX.out _ _ hat))
 all_goals(first|go_end0|go_ret)
 all_goals exact⟨_,rfl,by assumption⟩
theorem cType2_s {n:Nat} {C1:Kc} {b B0:Nat} (ih:∀ k,k≤n→AllC k) (HBX:Hid (∀ W' z,Hid (CAt C1 W' b z)→W'.cell? ⟨B0,0,none⟩=some (.pointer (some ⟨b,0,none⟩)))):CFun C1 b 77 (#[] ++ #[.pointer (some ⟨B0,0,none⟩)]) (fun r=>run n (.items true) r):=by
 intro w x y hat hy
 have hy:=hy.out
 try dsimp only at hy
 iterate 16 (all_goals try(first|split at hy|(rw[bind_iff] at hy;obtain⟨z,hz,hy⟩:=hy;try(rw[some_hid] at hz;subst hz))))
 all_goals(first|(obtain rfl:=Option.some.inj hy)|(replace hy:=Lib.hid hy))
 iterate 2 (all_goals try(rename _∧_=>ho;obtain⟨_,_⟩:=ho))
 iterate 7 (all_goals try(rename _∨_=>ho;rcases ho with ho|ho))
 all_goals(repeat (rename ¬ (_∨_)=>ho;rw[not_or] at ho;obtain⟨_,_⟩:=ho))
 have hc:=HBX.out _ _ hat
 rw[Array.empty_append]
 all_goals go_enter Tryz.func77,Tryz.ntmps77
 all_goals go_wp2_with (first|((go_at_call 78;refine(citemsF_s ‹_› ‹_› (fun j hj=>ih j (by omega))).mono ?_;rintro e w' ⟨v,rfl,hat⟩);have hc:=HBX.out _ _ hat))
 all_goals(first|go_end0|go_ret)
 all_goals exact⟨_,rfl,by assumption⟩
theorem cType3_s {n:Nat} {C1:Kc} {b B0:Nat} (ih:∀ k,k≤n→AllC k) (HBX:Hid (∀ W' z,Hid (CAt C1 W' b z)→W'.cell? ⟨B0,0,none⟩=some (.pointer (some ⟨b,0,none⟩)))):CFun C1 b 80 (#[] ++ #[.pointer (some ⟨B0,0,none⟩)]) (fun r=>run n (.items false) r):=by
 intro w x y hat hy
 have hy:=hy.out
 try dsimp only at hy
 iterate 16 (all_goals try(first|split at hy|(rw[bind_iff] at hy;obtain⟨z,hz,hy⟩:=hy;try(rw[some_hid] at hz;subst hz))))
 all_goals(first|(obtain rfl:=Option.some.inj hy)|(replace hy:=Lib.hid hy))
 iterate 2 (all_goals try(rename _∧_=>ho;obtain⟨_,_⟩:=ho))
 iterate 7 (all_goals try(rename _∨_=>ho;rcases ho with ho|ho))
 all_goals(repeat (rename ¬ (_∨_)=>ho;rw[not_or] at ho;obtain⟨_,_⟩:=ho))
 have hc:=HBX.out _ _ hat
 rw[Array.empty_append]
 all_goals go_enter Tryz.func80,Tryz.ntmps80
 all_goals go_wp2_with (first|((go_at_call 78;refine(citemsE_s ‹_› ‹_› (fun j hj=>ih j (by omega))).mono ?_;rintro e w' ⟨v,rfl,hat⟩);have hc:=HBX.out _ _ hat))
 all_goals(first|go_end0|go_ret)
 all_goals exact⟨_,rfl,by assumption⟩
open Go.RowKit
theorem cterm_s {n:Nat} (ih:∀ k,k≤n→AllC k):P0 140 (n+1) .term:=by
 have _:=ih
 intro C w b x y hat hy
 have hy:=hy.out
 cases x with
 |fail d0 d1 d2=>
  rw[run_fail] at hy
  obtain rfl:=Option.some.inj hy
  clear hy
  have hk0:(Res.fail d0 d1 d2).kind=0:=rfl
  all_goals go_enter Tryz.func140,Tryz.ntmps140
  all_goals go_wp2_with (first|(go_at_call 57;first|(refine(ckind_is ‹_› ‹_›).mono ?_;rintro e w' ⟨rfl,hat⟩)|(refine(ckind_at ‹_›).mono ?_;rintro e w' ⟨rfl,hat⟩))|(go_at_call 23;refine(cType_f _ _ _ _ _ _ ‹_›).mono ?_;rintro e w' ⟨v,rfl,hat⟩))
  all_goals(first|go_end0|go_ret)
  all_goals exact⟨_,rfl,by assumption⟩
 |ok s=>
  have hlo:C.low≤s.R.length:=low_nat hat
  rw[run] at hy
  try dsimp only at hy
  have HF:Hid (CFun C b 23 (#[.pointer (some ⟨b,0,none⟩)] ++ #[]) (run n .type)):=Lib.hid (fun w x y h hy=>by rw[Array.append_empty];exact(ih n (by omega)).type _ _ _ _ _ h hy)
  iterate 16 (all_goals try(first|split at hy|(rw[bind_iff] at hy;obtain⟨z,hz,hy⟩:=hy;try(rw[some_hid] at hz;subst hz))))
  all_goals(first|(obtain rfl:=Option.some.inj hy)|(replace hy:=Lib.hid hy))
  iterate 2 (all_goals try(rename _∧_=>ho;obtain⟨_,_⟩:=ho))
  iterate 7 (all_goals try(rename _∨_=>ho;rcases ho with ho|ho))
  all_goals(repeat (rename ¬ (_∨_)=>ho;rw[not_or] at ho;obtain⟨_,_⟩:=ho))
  all_goals(try have e51:((Res.ok s).kind == 51)=false:=by simp [*])
  all_goals go_enter Tryz.func140,Tryz.ntmps140
  all_goals go_wp2_with (first|(go_at_call 57;first|(refine(ckind_is ‹_› ‹_›).mono ?_;rintro e w' ⟨rfl,hat⟩)|(refine(ckind_at ‹_›).mono ?_;rintro e w' ⟨rfl,hat⟩))|(go_at_call 23;first|(refine((ih _ ?hk).type _ _ _ _ _ ‹_› ‹_›).mono ?_;(case hk=>omega);rintro e w' ⟨v,rfl,hat⟩)|(refine(cType_f _ _ _ _ _ _ ‹_›).mono ?_;rintro e w' ⟨v,rfl,hat⟩))|(go_at_call 73;(with_reducible refine(wrapped_any (C:=C) (A:=#[.pointer (some ⟨b,0,none⟩)]) (B:=#[]) (g:=run n .type) Type_enters HF.out ‹_› ‹_› ‹_› ‹_›).mono ?_);rintro e w' ⟨v,rfl,hat⟩))
  all_goals(first|go_end0|go_ret)
  all_goals exact⟨_,rfl,by assumption⟩
theorem cterm_f:∀ (C:Kc) (w:World) (b:Nat) (d0 d1 d2:Int),Hid (CAt C w b (.fail d0 d1 d2))→Calls Tryz.prog 140 #[.pointer (some ⟨b,0,none⟩)] w (CPost C b (.fail d0 d1 d2)):=by
 intro C w b d0 d1 d2 hat
 have hk0:(Res.fail d0 d1 d2).kind=0:=rfl
 go_enter Tryz.func140,Tryz.ntmps140
 go_wp2_with (first|(go_at_call 57;first|(refine(ckind_is ‹_› ‹_›).mono ?_;rintro e w' ⟨rfl,hat⟩)|(refine(ckind_at ‹_›).mono ?_;rintro e w' ⟨rfl,hat⟩))|(go_at_call 23;refine(cType_f _ _ _ _ _ _ ‹_›).mono ?_;rintro e w' ⟨v,rfl,hat⟩))
 all_goals(first|go_end0|go_ret)
 all_goals exact⟨_,rfl,by assumption⟩
theorem cterms_low {n:Nat} (hn:n≤1099511627776) (hT:∀ k,k≤n→P0 140 k .term):PUni 119 n:=by
 intro C w b x z y hat h1 h2
 have HJ:=Lib.hid (joined_any (p:=.unionL) (n:=n) (g:=fun k=>run k .term) (A:=#[.pointer (some ⟨b,0,none⟩)]) (B:=#[]) (by':=26) hn term_enters (fun k hk w x y h hy=>by rw[Array.append_empty];exact hT k hk _ _ _ _ _ h hy) (by decide) (fun k s=>by rw[run]) hat h1 h2)
 go_enter Tryz.func119,Tryz.ntmps119
 go_wp2_with (go_at_call 84;refine HJ.out.mono ?_;rintro e w' ⟨c,rfl,hat,hc⟩)
 go_ret
 exact⟨_,rfl,hat,hc⟩
theorem cterm_zero:P0 140 0 .term:=by
 intro C w b x y hat hy
 cases x with
 |ok s=>exact(run_zero hy).elim
 |fail d0 d1 d2=>obtain rfl:=run_bad hy;exact cterm_f _ _ _ _ _ _ hat
theorem cterms_s {n:Nat} (hn:n≤1099511627776) (ih:∀ k,k≤n→AllC k):PUni 119 n:=cterms_low hn (fun k hk=>(ih k hk).term)
theorem cterms_f:∀ (C:Kc) (w:World) (b:Nat) (d0 d1 d2:Int),Hid (CAt C w b (.fail d0 d1 d2))→Calls Tryz.prog 119 #[.pointer (some ⟨b,0,none⟩)] w fun e w'=>∃ c:Int,e=.returned (.int .i64 c)∧Hid (CAt C w' b (.fail d0 d1 d2)):=by
 intro C w b d0 d1 d2 hat
 refine(cterms_low (n:=0) (by omega) (fun k hk=>by have e:k=0:=Nat.le_zero.1 hk;subst e;exact cterm_zero) _ _ _ _ _ _ hat (run_hid _ _ _ _ _) (run_hid _ _ _ _ _)).mono ?_
 rintro e w' ⟨c,rfl,h,_⟩
 exact⟨c,rfl,h⟩
open Go.RowKit
theorem celement_s {n:Nat} (hn:n≤1099511627776) (ih:∀ k,k≤n→AllC k):P0 81 (n+1) .element:=by
 have _:=ih
 intro C w b x y hat hy
 have hy:=hy.out
 cases x with
 |fail d0 d1 d2=>
  rw[run_fail] at hy
  obtain rfl:=Option.some.inj hy
  clear hy
  have hk0:(Res.fail d0 d1 d2).kind=0:=rfl
  all_goals go_enter Tryz.func81,Tryz.ntmps81
  all_goals go_wp2_with (first|(go_at_call 61;first|(refine(cmark_at ‹_›).mono ?_;rintro e w' ⟨rfl,rfl⟩)|(refine(cmark_bad ‹_›).mono ?_;rintro e w' ⟨⟨v,_,rfl⟩,rfl⟩))|(go_at_call 57;first|(refine(ckind_is ‹_› ‹_›).mono ?_;rintro e w' ⟨rfl,hat⟩)|(refine(ckind_at ‹_›).mono ?_;rintro e w' ⟨rfl,hat⟩))|(go_at_call 37;refine(cclose_at _ _ _ _ _ _ _ _ ‹_› (by first|exact fun _=>rfl|assumption|exact fun hb=>by cases hb) (by first|exact fun _=>low_ok ‹_›|(intro _;omega)|(intro hb;cases hb;done)|assumption) (by first|with_reducible assumption|exact Lib.hid rfl|assumption|exact run_hid _ _ _ _ _)).mono ?_;rintro e w' ⟨v,rfl,hat⟩)|(go_at_call 119;refine(cterms_f _ _ _ _ _ _ ‹_›).mono ?_;rintro e w' ⟨c,rfl,hat⟩))
  all_goals(first|go_end0|go_ret)
  all_goals exact⟨_,rfl,by assumption⟩
 |ok s=>
  have hlo:C.low≤s.R.length:=low_nat hat
  rw[run] at hy
  try dsimp only at hy
  by_cases hE:(Res.ok s).kind=10∧(Res.ok s).ahead 1=57
  ·rw[if_pos hE] at hy
   obtain⟨h10,h57⟩:=hE
   iterate 16 (all_goals try(first|split at hy|(rw[bind_iff] at hy;obtain⟨z,hz,hy⟩:=hy;try(rw[some_hid] at hz;subst hz))))
   all_goals(first|(obtain rfl:=Option.some.inj hy)|(replace hy:=Lib.hid hy))
   iterate 2 (all_goals try(rename _∧_=>ho;obtain⟨_,_⟩:=ho))
   iterate 7 (all_goals try(rename _∨_=>ho;rcases ho with ho|ho))
   all_goals(repeat (rename ¬ (_∨_)=>ho;rw[not_or] at ho;obtain⟨_,_⟩:=ho))
   all_goals go_enter Tryz.func81,Tryz.ntmps81
   all_goals go_wp2_with (first|(go_at_call 61;first|(refine(cmark_at ‹_›).mono ?_;rintro e w' ⟨rfl,rfl⟩)|(refine(cmark_bad ‹_›).mono ?_;rintro e w' ⟨⟨v,_,rfl⟩,rfl⟩))|(go_at_call 57;first|(refine(ckind_is ‹_› ‹_›).mono ?_;rintro e w' ⟨rfl,hat⟩)|(refine(ckind_at ‹_›).mono ?_;rintro e w' ⟨rfl,hat⟩))|(go_at_call 59;first|(refine(cahead_is ‹_› 1 (by decide) ‹_›).mono ?_;rintro e w' ⟨rfl,hat⟩)|(refine(cahead_at ‹_› 1 (by decide)).mono ?_;rintro e w' ⟨rfl,hat⟩))|(go_at_call 47;refine(cname_at ‹_› (by first|with_reducible assumption|exact Lib.hid rfl|assumption|exact run_hid _ _ _ _ _)).mono ?_;rintro e w' ⟨v,rfl,hat⟩)|(go_at_call 24;first|(refine((ih _ ?hk).sig _ _ _ _ _ ‹_› ‹_›).mono ?_;(case hk=>omega);rintro e w' ⟨v,rfl,hat⟩)|(refine(cSig_f _ _ _ _ _ _ ‹_›).mono ?_;rintro e w' ⟨v,rfl,hat⟩))|(go_at_call 37;refine(cclose_at _ _ _ _ _ _ _ _ ‹_› (by first|exact fun _=>rfl|assumption|exact fun hb=>by cases hb) (by first|exact fun _=>low_ok ‹_›|(intro _;omega)|(intro hb;cases hb;done)|assumption) (by first|with_reducible assumption|exact Lib.hid rfl|assumption|exact run_hid _ _ _ _ _)).mono ?_;rintro e w' ⟨v,rfl,hat⟩)|(go_at_call 119;first|(refine(cterms_s (n:=n) (by omega) (fun j hj=>ih j (by omega)) _ _ _ _ _ _ ‹_› ‹_› ‹_›).mono ?_;rintro e w' ⟨c,rfl,hat,hct⟩)|(refine(cterms_f _ _ _ _ _ _ ‹_›).mono ?_;rintro e w' ⟨c,rfl,hat⟩)))
   all_goals(first|go_end0|go_ret)
   all_goals exact⟨_,rfl,by assumption⟩
  ·rw[if_neg hE] at hy
   rw[bind_iff] at hy
   obtain⟨z1,hz1,hy⟩:=hy
   replace hy:=Lib.hid hy
   cases n with
   |zero=>exact absurd hz1.out (by unfold run;simp)
   |succ n=>
    have hz:=hz1.out
    rw[run] at hz
    try dsimp only at hz
    rw[bind_iff] at hz
    obtain⟨z2,hz2,hz3⟩:=hz
    replace hz3:=Lib.hid hz3
    clear hz1
    by_cases h10:(Res.ok s).kind=10
    ·have h57:¬ (Res.ok s).ahead 1=57:=fun h=>hE ⟨h10,h⟩
     have a57:((Res.ok s).ahead 1 == 57)=false:=beq_eq_false_iff_ne.2 h57
     clear hE h57
     all_goals go_enter Tryz.func81,Tryz.ntmps81
     all_goals go_wp2_with (first|(go_at_call 61;first|(refine(cmark_at ‹_›).mono ?_;rintro e w' ⟨rfl,rfl⟩)|(refine(cmark_bad ‹_›).mono ?_;rintro e w' ⟨⟨v,_,rfl⟩,rfl⟩))|(go_at_call 57;first|(refine(ckind_is ‹_› ‹_›).mono ?_;rintro e w' ⟨rfl,hat⟩)|(refine(ckind_at ‹_›).mono ?_;rintro e w' ⟨rfl,hat⟩))|(go_at_call 59;first|(refine(cahead_is ‹_› 1 (by decide) ‹_›).mono ?_;rintro e w' ⟨rfl,hat⟩)|(refine(cahead_at ‹_› 1 (by decide)).mono ?_;rintro e w' ⟨rfl,hat⟩))|(go_at_call 47;refine(cname_at ‹_› (by first|with_reducible assumption|exact Lib.hid rfl|assumption|exact run_hid _ _ _ _ _)).mono ?_;rintro e w' ⟨v,rfl,hat⟩)|(go_at_call 24;first|(refine((ih _ ?hk).sig _ _ _ _ _ ‹_› ‹_›).mono ?_;(case hk=>omega);rintro e w' ⟨v,rfl,hat⟩)|(refine(cSig_f _ _ _ _ _ _ ‹_›).mono ?_;rintro e w' ⟨v,rfl,hat⟩))|(go_at_call 37;refine(cclose_at _ _ _ _ _ _ _ _ ‹_› (by first|exact fun _=>rfl|assumption|exact fun hb=>by cases hb) (by first|exact fun _=>low_ok ‹_›|(intro _;omega)|(intro hb;cases hb;done)|assumption) (by first|with_reducible assumption|exact Lib.hid rfl|assumption|exact run_hid _ _ _ _ _)).mono ?_;rintro e w' ⟨v,rfl,hat⟩)|(go_at_call 119;first|(refine(cterms_s (n:=n) (by omega) (fun j hj=>ih j (by omega)) _ _ _ _ _ _ ‹_› ‹_› ‹_›).mono ?_;rintro e w' ⟨c,rfl,hat,hct⟩)|(refine(cterms_f _ _ _ _ _ _ ‹_›).mono ?_;rintro e w' ⟨c,rfl,hat⟩)))
     all_goals(first|go_end0|go_ret)
     all_goals exact⟨_,rfl,by assumption⟩
    ·have e10:((Res.ok s).kind == 10)=false:=beq_eq_false_iff_ne.2 h10
     clear hE
     all_goals go_enter Tryz.func81,Tryz.ntmps81
     all_goals go_wp2_with (first|(go_at_call 61;first|(refine(cmark_at ‹_›).mono ?_;rintro e w' ⟨rfl,rfl⟩)|(refine(cmark_bad ‹_›).mono ?_;rintro e w' ⟨⟨v,_,rfl⟩,rfl⟩))|(go_at_call 57;first|(refine(ckind_is ‹_› ‹_›).mono ?_;rintro e w' ⟨rfl,hat⟩)|(refine(ckind_at ‹_›).mono ?_;rintro e w' ⟨rfl,hat⟩))|(go_at_call 59;first|(refine(cahead_is ‹_› 1 (by decide) ‹_›).mono ?_;rintro e w' ⟨rfl,hat⟩)|(refine(cahead_at ‹_› 1 (by decide)).mono ?_;rintro e w' ⟨rfl,hat⟩))|(go_at_call 47;refine(cname_at ‹_› (by first|with_reducible assumption|exact Lib.hid rfl|assumption|exact run_hid _ _ _ _ _)).mono ?_;rintro e w' ⟨v,rfl,hat⟩)|(go_at_call 24;first|(refine((ih _ ?hk).sig _ _ _ _ _ ‹_› ‹_›).mono ?_;(case hk=>omega);rintro e w' ⟨v,rfl,hat⟩)|(refine(cSig_f _ _ _ _ _ _ ‹_›).mono ?_;rintro e w' ⟨v,rfl,hat⟩))|(go_at_call 37;refine(cclose_at _ _ _ _ _ _ _ _ ‹_› (by first|exact fun _=>rfl|assumption|exact fun hb=>by cases hb) (by first|exact fun _=>low_ok ‹_›|(intro _;omega)|(intro hb;cases hb;done)|assumption) (by first|with_reducible assumption|exact Lib.hid rfl|assumption|exact run_hid _ _ _ _ _)).mono ?_;rintro e w' ⟨v,rfl,hat⟩)|(go_at_call 119;first|(refine(cterms_s (n:=n) (by omega) (fun j hj=>ih j (by omega)) _ _ _ _ _ _ ‹_› ‹_› ‹_›).mono ?_;rintro e w' ⟨c,rfl,hat,hct⟩)|(refine(cterms_f _ _ _ _ _ _ ‹_›).mono ?_;rintro e w' ⟨c,rfl,hat⟩)))
     all_goals(first|go_end0|go_ret)
     all_goals exact⟨_,rfl,by assumption⟩
end Go.Proofs.YtcekbbkidipbnaaGreat.rd
