/-
  Texts put together: Ho, Ht, Is, Ig.
-/
import Derived.Test.YtcekbbkidipbnaaGreatL8
import Derived.Test.YtcekbbkidipbnaaGreatL6
import Derived.Test.YtcekbbkidipbnaaGreatL7
import Derived.Test.YtcekbbkidipbnaaGreatL5
set_option maxRecDepth 100000
set_option maxHeartbeats 8000000
namespace Go.Proofs.YtcekbbkidipbnaaGreat.rd
open Go.RowKit
theorem cType_s {n:Nat} (ih:∀ k,k≤n→AllC k):P0 23 (n+1) .type:=by
 have _:=ih
 intro C w b x y hat hy
 have hy:=hy.out
 cases x with
 |fail d0 d1 d2=>
  rw[run_fail] at hy
  obtain rfl:=Option.some.inj hy
  exact cType_f _ _ _ _ _ _ hat
 |ok s=>
  have hlo:C.low≤s.R.length:=low_nat hat
  rw[run] at hy
  try dsimp only at hy
  rw[bind_iff] at hy
  obtain⟨z,hz,hy⟩:=hy
  cases z with
  |fail a0 a1 a2=>
   rw[if_pos (bad_fail a0 a1 a2)] at hy
   obtain rfl:=Option.some.inj hy
   clear hy
   go_enter Tryz.func23,Tryz.ntmps23
   go_wp2_with fail
   obtain⟨C1,hat1,HBX,HBK⟩:=CAt.boxed1 hat (.pointer (some ⟨b,0,none⟩)) 25
   have hc:=HBX.out _ _ hat1
   go_wp2_with (first|(go_at_call 41;refine(cdown_at ‹_› ‹_›).mono ?_;rintro e w' ⟨rfl,hat⟩;have hc:=HBX.out _ _ hat)|((go_at_call 57;first|(refine(ckind_is ‹_› ‹_›).mono ?_;rintro e w' ⟨rfl,hat⟩)|(refine(ckind_at ‹_›).mono ?_;rintro e w' ⟨rfl,hat⟩));have hc:=HBX.out _ _ hat)|((go_at_call 45;refine(cfail_at ‹_› _ (by first|with_reducible assumption|exact Lib.hid rfl|assumption|exact run_hid _ _ _ _ _)).mono ?_;rintro e w' ⟨v,rfl,hat⟩);have hc:=HBX.out _ _ hat)|((go_at_call 43;refine(cup_at ‹_› (by first|with_reducible assumption|exact Lib.hid rfl|assumption|exact run_hid _ _ _ _ _)).mono ?_;rintro e w' ⟨v,rfl,hat⟩);have hc:=HBX.out _ _ hat))
   all_goals(first|go_end0|go_ret)
   all_goals exact⟨_,rfl,HBK.out _ _ ‹_›⟩
  |ok t=>
   rw[if_neg (by rw[bad_ok];simp)] at hy
   simp only[show(Res.ok t).len=t.R.length from rfl] at hy
   by_cases h10:(Res.ok t).kind=10
   ·rw[if_pos h10] at hy
    rw[bind_iff] at hy
    obtain⟨z1,hz1,hy⟩:=hy
    have hcase:∃ u,Hid ((if z1.kind=58 then(rTake z1 >>= fun u=>run n .type u >>= fun v=>run n .tyL v >>= fun v2=>rExpect 63 v2 >>= fun v3=>rClose t.R.length 208 v3) else some z1)=some u)∧Hid (rUp u=some y):=by
     split at hy
     ·rename_i h58
      rw[bind_iff] at hy
      obtain⟨a1,ha1,hy⟩:=hy
      rw[bind_iff] at hy
      obtain⟨a2,ha2,hy⟩:=hy
      rw[bind_iff] at hy
      obtain⟨a3,ha3,hy⟩:=hy
      rw[bind_iff] at hy
      obtain⟨a4,ha4,hy⟩:=hy
      rw[bind_iff] at hy
      obtain⟨a5,ha5,hy⟩:=hy
      refine⟨a5,Lib.hid ?_,Lib.hid hy⟩
      rw[if_pos h58,ha1.out]
      show(run n .type a1 >>= _)=_
      rw[ha2.out]
      show(run n .tyL a2 >>= _)=_
      rw[ha3.out]
      show(rExpect 63 a3 >>= _)=_
      rw[ha4.out]
      exact ha5.out
     ·rename_i h58
      exact⟨z1,Lib.hid (by rw[if_neg h58]),Lib.hid hy⟩
    clear hy
    obtain⟨u,hu,hy⟩:=hcase
    go_enter Tryz.func23,Tryz.ntmps23
    go_wp2_with fail
    obtain⟨C1,hat1,HBX,HBK⟩:=CAt.boxed1 hat (.pointer (some ⟨b,0,none⟩)) 25
    have hc:=HBX.out _ _ hat1
    go_wp2_with (first|(go_at_call 41;refine(cdown_at ‹_› ‹_›).mono ?_;rintro e w' ⟨rfl,hat⟩;have hc:=HBX.out _ _ hat)|((go_at_call 57;first|(refine(ckind_is ‹_› ‹_›).mono ?_;rintro e w' ⟨rfl,hat⟩)|(refine(ckind_at ‹_›).mono ?_;rintro e w' ⟨rfl,hat⟩));have hc:=HBX.out _ _ hat)|((go_at_call 45;refine(cfail_at ‹_› _ (by first|with_reducible assumption|exact Lib.hid rfl|assumption|exact run_hid _ _ _ _ _)).mono ?_;rintro e w' ⟨v,rfl,hat⟩);have hc:=HBX.out _ _ hat)|((go_at_call 43;refine(cup_at ‹_› (by first|with_reducible assumption|exact Lib.hid rfl|assumption|exact run_hid _ _ _ _ _)).mono ?_;rintro e w' ⟨v,rfl,hat⟩);have hc:=HBX.out _ _ hat)|((go_at_call 72;refine(ctypeName_s ‹_› ‹_› ‹_› (fun j hj=>ih j (by omega))).mono ?_;rintro e w' ⟨v,rfl,hat⟩);have hc:=HBX.out _ _ hat))
    all_goals(first|go_end0|go_ret)
    all_goals exact⟨_,rfl,HBK.out _ _ ‹_›⟩
   ·rw[if_neg h10] at hy
    have e10:((Res.ok t).kind == 10)=false:=by simp [*]
    by_cases h57:(Res.ok t).kind=57
    ·rw[if_pos h57] at hy
     rw[bind_iff] at hy
     obtain⟨z1,hz1,hy⟩:=hy
     rw[bind_iff] at hy
     obtain⟨z2,hz2,hy⟩:=hy
     rw[bind_iff] at hy
     obtain⟨z3,hz3,hy⟩:=hy
     rw[bind_iff] at hy
     obtain⟨z4,hz4,hy⟩:=hy
     replace hy:=Lib.hid hy
     have h62:(run n .type z1 >>= fun u=>rExpect 62 u)=some z3:=by rw[hz2.out];exact hz3.out
     go_enter Tryz.func23,Tryz.ntmps23
     go_wp2_with fail
     obtain⟨C1,hat1,HBX,HBK⟩:=CAt.boxed1 hat (.pointer (some ⟨b,0,none⟩)) 25
     have hc:=HBX.out _ _ hat1
     have HF1:Hid (CFun C1 b 74 (#[] ++ #[.pointer (some ⟨w.heap.size,0,none⟩)]) (fun r=>run n .type r >>= fun u=>rExpect 62 u)):=Lib.hid (cType1_s (fun j hj=>ih j (by omega)) HBX)
     go_wp2_with (first|(go_at_call 41;refine(cdown_at ‹_› ‹_›).mono ?_;rintro e w' ⟨rfl,hat⟩;have hc:=HBX.out _ _ hat)|((go_at_call 57;first|(refine(ckind_is ‹_› ‹_›).mono ?_;rintro e w' ⟨rfl,hat⟩)|(refine(ckind_at ‹_›).mono ?_;rintro e w' ⟨rfl,hat⟩));have hc:=HBX.out _ _ hat)|((go_at_call 45;refine(cfail_at ‹_› _ (by first|with_reducible assumption|exact Lib.hid rfl|assumption|exact run_hid _ _ _ _ _)).mono ?_;rintro e w' ⟨v,rfl,hat⟩);have hc:=HBX.out _ _ hat)|((go_at_call 43;refine(cup_at ‹_› (by first|with_reducible assumption|exact Lib.hid rfl|assumption|exact run_hid _ _ _ _ _)).mono ?_;rintro e w' ⟨v,rfl,hat⟩);have hc:=HBX.out _ _ hat)|((go_at_call 73;(with_reducible refine(wrapped_any (C:=C1) (A:=#[]) (B:=#[.pointer (some ⟨w.heap.size,0,none⟩)]) (g:=fun r=>run n .type r >>= fun u=>rExpect 62 u) Type1_enters HF1.out ‹_› ‹_› (Lib.hid h62) ‹_›).mono ?_);rintro e w' ⟨v,rfl,hat⟩);have hc:=HBX.out _ _ hat))
     all_goals(first|go_end0|go_ret)
     all_goals exact⟨_,rfl,HBK.out _ _ ‹_›⟩
    ·rw[if_neg h57] at hy
     have e57:((Res.ok t).kind == 57)=false:=by simp [*]
     by_cases h83:(Res.ok t).kind=83
     ·rw[if_neg (by rw[h83];decide),if_neg (by rw[h83];decide),if_neg (by rw[h83];decide),if_pos h83] at hy
      rw[bind_iff] at hy
      obtain⟨z1,hz1,hy⟩:=hy
      rw[bind_iff] at hy
      obtain⟨z2,hz2,hy⟩:=hy
      rw[bind_iff] at hy
      obtain⟨z3,hz3,hy⟩:=hy
      rw[bind_iff] at hy
      obtain⟨z4,hz4,hy⟩:=hy
      rw[bind_iff] at hy
      obtain⟨z5,hz5,hy⟩:=hy
      rw[bind_iff] at hy
      obtain⟨z6,hz6,hy⟩:=hy
      replace hy:=Lib.hid hy
      have hmap:(rExpect 58 z1 >>= fun u=>run n .type u >>= fun v=>rExpect 63 v >>= fun v2=>run n .type v2)=some z5:=by
       rw[hz2.out]
       show(run n .type z2 >>= _)=_
       rw[hz3.out]
       show(rExpect 63 z3 >>= _)=_
       rw[hz4.out]
       exact hz5.out
      go_enter Tryz.func23,Tryz.ntmps23
      go_wp2_with fail
      obtain⟨C1,hat1,HBX,HBK⟩:=CAt.boxed1 hat (.pointer (some ⟨b,0,none⟩)) 25
      have hc:=HBX.out _ _ hat1
      have HF4:Hid (CFun C1 b 76 (#[.pointer (some ⟨b,0,none⟩)] ++ #[]) (fun r=>rExpect 58 r >>= fun u=>run n .type u >>= fun v=>rExpect 63 v >>= fun v2=>run n .type v2)):=Lib.hid (fun w x y h hy=>by rw[Array.append_empty];exact cmapping_s h hy (fun j hj=>ih j (by omega)))
      go_wp2_with (first|(go_at_call 41;refine(cdown_at ‹_› ‹_›).mono ?_;rintro e w' ⟨rfl,hat⟩;have hc:=HBX.out _ _ hat)|((go_at_call 57;first|(refine(ckind_is ‹_› ‹_›).mono ?_;rintro e w' ⟨rfl,hat⟩)|(refine(ckind_at ‹_›).mono ?_;rintro e w' ⟨rfl,hat⟩));have hc:=HBX.out _ _ hat)|((go_at_call 45;refine(cfail_at ‹_› _ (by first|with_reducible assumption|exact Lib.hid rfl|assumption|exact run_hid _ _ _ _ _)).mono ?_;rintro e w' ⟨v,rfl,hat⟩);have hc:=HBX.out _ _ hat)|((go_at_call 43;refine(cup_at ‹_› (by first|with_reducible assumption|exact Lib.hid rfl|assumption|exact run_hid _ _ _ _ _)).mono ?_;rintro e w' ⟨v,rfl,hat⟩);have hc:=HBX.out _ _ hat)|((go_at_call 73;(with_reducible refine(wrapped_any (C:=C1) (A:=#[.pointer (some ⟨b,0,none⟩)]) (B:=#[]) (g:=fun r=>rExpect 58 r >>= fun u=>run n .type u >>= fun v=>rExpect 63 v >>= fun v2=>run n .type v2) mapping_enters HF4.out ‹_› ‹_› (Lib.hid hmap) ‹_›).mono ?_);rintro e w' ⟨v,rfl,hat⟩);have hc:=HBX.out _ _ hat))
      all_goals(first|go_end0|go_ret)
      all_goals exact⟨_,rfl,HBK.out _ _ ‹_›⟩
     ·iterate 16 (all_goals try(first|split at hy|(rw[bind_iff] at hy;obtain⟨z,hz,hy⟩:=hy;try(rw[some_hid] at hz;subst hz))))
      all_goals(first|(obtain rfl:=Option.some.inj hy)|(replace hy:=Lib.hid hy))
      iterate 2 (all_goals try(rename _∧_=>ho;obtain⟨_,_⟩:=ho))
      iterate 7 (all_goals try(rename _∨_=>ho;rcases ho with ho|ho))
      all_goals(repeat (rename ¬ (_∨_)=>ho;rw[not_or] at ho;obtain⟨_,_⟩:=ho))
      all_goals(try(exact absurd ‹_› h83))
      all_goals(try have e22:((Res.ok t).kind == 22)=false:=by simp [*])
      all_goals(try have e79:((Res.ok t).kind == 79)=false:=by simp [*])
      all_goals(try have e58:((Res.ok t).kind == 58)=false:=by simp [*])
      all_goals(try have e83:((Res.ok t).kind == 83)=false:=by simp [*])
      all_goals(try have e87:((Res.ok t).kind == 87)=false:=by simp [*])
      all_goals(try have e82:((Res.ok t).kind == 82)=false:=by simp [*])
      all_goals(
       go_enter Tryz.func23,Tryz.ntmps23
       go_wp2_with fail
       obtain⟨C1,hat1,HBX,HBK⟩:=CAt.boxed1 hat (.pointer (some ⟨b,0,none⟩)) 25
       have hc:=HBX.out _ _ hat1
       have HF2:Hid (CFun C1 b 23 (#[.pointer (some ⟨b,0,none⟩)] ++ #[]) (run n .type)):=Lib.hid (fun w x y h hy=>by rw[Array.append_empty];exact(ih n (by omega)).type _ _ _ _ _ h hy)
       have HF3:Hid (CFun C1 b 24 (#[.pointer (some ⟨b,0,none⟩)] ++ #[]) (run n .sig)):=Lib.hid (fun w x y h hy=>by rw[Array.append_empty];exact(ih n (by omega)).sig _ _ _ _ _ h hy)
       have HF5:Hid (CFun C1 b 77 (#[] ++ #[.pointer (some ⟨w.heap.size,0,none⟩)]) (fun r=>run n (.items true) r)):=Lib.hid (cType2_s (fun j hj=>ih j (by omega)) HBX)
       have HF6:Hid (CFun C1 b 80 (#[] ++ #[.pointer (some ⟨w.heap.size,0,none⟩)]) (fun r=>run n (.items false) r)):=Lib.hid (cType3_s (fun j hj=>ih j (by omega)) HBX)
       go_wp2_with (first|(go_at_call 41;refine(cdown_at ‹_› ‹_›).mono ?_;rintro e w' ⟨rfl,hat⟩;have hc:=HBX.out _ _ hat)|((go_at_call 57;first|(refine(ckind_is ‹_› ‹_›).mono ?_;rintro e w' ⟨rfl,hat⟩)|(refine(ckind_at ‹_›).mono ?_;rintro e w' ⟨rfl,hat⟩));have hc:=HBX.out _ _ hat)|((go_at_call 45;refine(cfail_at ‹_› _ (by first|with_reducible assumption|exact Lib.hid rfl|assumption|exact run_hid _ _ _ _ _)).mono ?_;rintro e w' ⟨v,rfl,hat⟩);have hc:=HBX.out _ _ hat)|((go_at_call 43;refine(cup_at ‹_› (by first|with_reducible assumption|exact Lib.hid rfl|assumption|exact run_hid _ _ _ _ _)).mono ?_;rintro e w' ⟨v,rfl,hat⟩);have hc:=HBX.out _ _ hat)|((go_at_call 75;refine((ih _ ?hk).array _ _ _ _ _ ‹_› ‹_›).mono ?_;(case hk=>omega);rintro e w' ⟨v,rfl,hat⟩);have hc:=HBX.out _ _ hat)|((go_at_call 73;(with_reducible refine(wrapped_any (C:=C1) (A:=#[.pointer (some ⟨b,0,none⟩)]) (B:=#[]) (g:=run n .type) Type_enters HF2.out ‹_› ‹_› ‹_› ‹_›).mono ?_);rintro e w' ⟨v,rfl,hat⟩);have hc:=HBX.out _ _ hat)|((go_at_call 73;(with_reducible refine(wrapped_any (C:=C1) (A:=#[.pointer (some ⟨b,0,none⟩)]) (B:=#[]) (g:=run n .sig) Sig_enters HF3.out ‹_› ‹_› ‹_› ‹_›).mono ?_);rintro e w' ⟨v,rfl,hat⟩);have hc:=HBX.out _ _ hat)|((go_at_call 73;(with_reducible refine(wrapped_any (C:=C1) (A:=#[]) (B:=#[.pointer (some ⟨w.heap.size,0,none⟩)]) (g:=fun r=>run n (.items true) r) Type2_enters HF5.out ‹_› ‹_› ‹_› ‹_›).mono ?_);rintro e w' ⟨v,rfl,hat⟩);have hc:=HBX.out _ _ hat)|((go_at_call 73;(with_reducible refine(wrapped_any (C:=C1) (A:=#[]) (B:=#[.pointer (some ⟨w.heap.size,0,none⟩)]) (g:=fun r=>run n (.items false) r) Type3_enters HF6.out ‹_› ‹_› ‹_› ‹_›).mono ?_);rintro e w' ⟨v,rfl,hat⟩);have hc:=HBX.out _ _ hat))
       all_goals(first|go_end0|go_ret)
       all_goals exact⟨_,rfl,HBK.out _ _ ‹_›⟩)
open Go.RowKit
theorem csig_low (hPF:∀ (C:Kc) (w:World) (b:Nat) (d0 d1 d2:Int),Hid (CAt C w b (.fail d0 d1 d2))→Calls Tryz.prog 53 #[.pointer (some ⟨b,0,none⟩)] w (CPost C b (.fail d0 d1 d2))):∀ (C:Kc) (w:World) (b:Nat) (d0 d1 d2:Int),Hid (CAt C w b (.fail d0 d1 d2))→Calls Tryz.prog 24 #[.pointer (some ⟨b,0,none⟩)] w (CPost C b (.fail d0 d1 d2)):=by
 intro C w b d0 d1 d2 hat
 have hk0:(Res.fail d0 d1 d2).kind=0:=rfl
 go_enter Tryz.func24,Tryz.ntmps24
 go_wp2_with (first|(go_at_call 61;first|(refine(cmark_at ‹_›).mono ?_;rintro e w' ⟨rfl,rfl⟩)|(refine(cmark_bad ‹_›).mono ?_;rintro e w' ⟨⟨v,_,rfl⟩,rfl⟩))|(go_at_call 57;first|(refine(ckind_is ‹_› ‹_›).mono ?_;rintro e w' ⟨rfl,hat⟩)|(refine(ckind_at ‹_›).mono ?_;rintro e w' ⟨rfl,hat⟩))|(go_at_call 35;refine(cnone_at ‹_› (by first|with_reducible assumption|exact Lib.hid rfl|assumption|exact run_hid _ _ _ _ _)).mono ?_;rintro e w' ⟨v,rfl,hat⟩)|(go_at_call 37;refine(cclose_at _ _ _ _ _ _ _ _ ‹_› (by first|exact fun _=>rfl|assumption|exact fun hb=>by cases hb) (by first|exact fun _=>low_ok ‹_›|(intro _;omega)|(intro hb;cases hb;done)|assumption) (by first|with_reducible assumption|exact Lib.hid rfl|assumption|exact run_hid _ _ _ _ _)).mono ?_;rintro e w' ⟨v,rfl,hat⟩)|(go_at_call 53;refine(hPF _ _ _ _ _ _ ‹_›).mono ?_;rintro e w' ⟨v,rfl,hat⟩))
 all_goals(first|go_end0|go_ret)
 all_goals exact⟨_,rfl,by assumption⟩
theorem cSig_s {n:Nat} (hPF:∀ (C:Kc) (w:World) (b:Nat) (d0 d1 d2:Int),Hid (CAt C w b (.fail d0 d1 d2))→Calls Tryz.prog 53 #[.pointer (some ⟨b,0,none⟩)] w (CPost C b (.fail d0 d1 d2))) (ih:∀ k,k≤n→AllC k):P0 24 (n+1) .sig:=by
 have _:=ih
 intro C w b x y hat hy
 have hy:=hy.out
 cases x with
 |fail d0 d1 d2=>
  rw[run_fail] at hy
  obtain rfl:=Option.some.inj hy
  exact csig_low hPF _ _ _ _ _ _ hat
 |ok s=>
  have hlo:C.low≤s.R.length:=low_nat hat
  rw[run] at hy
  try dsimp only at hy
  rw[bind_iff] at hy
  obtain⟨z1,hz1,hy⟩:=hy
  iterate 16 (all_goals try(first|split at hy|(rw[bind_iff] at hy;obtain⟨z,hz,hy⟩:=hy;try(rw[some_hid] at hz;subst hz))))
  all_goals(first|(obtain rfl:=Option.some.inj hy)|(replace hy:=Lib.hid hy))
  iterate 2 (all_goals try(rename _∧_=>ho;obtain⟨_,_⟩:=ho))
  iterate 7 (all_goals try(rename _∨_=>ho;rcases ho with ho|ho))
  all_goals(repeat (rename ¬ (_∨_)=>ho;rw[not_or] at ho;obtain⟨_,_⟩:=ho))
  all_goals(try have e57:(z1.kind == 57)=false:=by simp [*])
  all_goals(try have e10:(z1.kind == 10)=false:=by simp [*])
  all_goals(try have e22:(z1.kind == 22)=false:=by simp [*])
  all_goals(try have e58:(z1.kind == 58)=false:=by simp [*])
  all_goals(try have e83:(z1.kind == 83)=false:=by simp [*])
  all_goals(try have e87:(z1.kind == 87)=false:=by simp [*])
  all_goals(try have e82:(z1.kind == 82)=false:=by simp [*])
  all_goals(try have e79:(z1.kind == 79)=false:=by simp [*])
  all_goals go_enter Tryz.func24,Tryz.ntmps24
  all_goals go_wp2_with (first|(go_at_call 61;first|(refine(cmark_at ‹_›).mono ?_;rintro e w' ⟨rfl,rfl⟩)|(refine(cmark_bad ‹_›).mono ?_;rintro e w' ⟨⟨v,_,rfl⟩,rfl⟩))|(go_at_call 57;first|(refine(ckind_is ‹_› ‹_›).mono ?_;rintro e w' ⟨rfl,hat⟩)|(refine(ckind_at ‹_›).mono ?_;rintro e w' ⟨rfl,hat⟩))|(go_at_call 35;refine(cnone_at ‹_› (by first|with_reducible assumption|exact Lib.hid rfl|assumption|exact run_hid _ _ _ _ _)).mono ?_;rintro e w' ⟨v,rfl,hat⟩)|(go_at_call 23;first|(refine((ih _ ?hk).type _ _ _ _ _ ‹_› ‹_›).mono ?_;(case hk=>omega);rintro e w' ⟨v,rfl,hat⟩)|(refine(cType_f _ _ _ _ _ _ ‹_›).mono ?_;rintro e w' ⟨v,rfl,hat⟩))|(go_at_call 37;refine(cclose_at _ _ _ _ _ _ _ _ ‹_› (by first|exact fun _=>rfl|assumption|exact fun hb=>by cases hb) (by first|exact fun _=>low_ok ‹_›|(intro _;omega)|(intro hb;cases hb;done)|assumption) (by first|with_reducible assumption|exact Lib.hid rfl|assumption|exact run_hid _ _ _ _ _)).mono ?_;rintro e w' ⟨v,rfl,hat⟩)|(go_at_call 53;first|(refine((ih _ ?hk).params _ _ _ _ _ ‹_› ‹_›).mono ?_;(case hk=>omega);rintro e w' ⟨v,rfl,hat⟩)|(refine(hPF _ _ _ _ _ _ ‹_›).mono ?_;rintro e w' ⟨v,rfl,hat⟩)))
  all_goals(first|go_end0|go_ret)
  all_goals exact⟨_,rfl,by assumption⟩
open Go.RowKit
theorem ccloseX_f:∀ (C:Kc) (w:World) (b:Nat) (d0 d1 d2:Int),Hid (CAt C w b (.fail d0 d1 d2))→Calls Tryz.prog 116 #[.pointer (some ⟨b,0,none⟩),.func (.func 139) #[.pointer (some ⟨b,0,none⟩)] #[]] w (CPost C b (.fail d0 d1 d2)):=fun C w b d0 d1 d2 hat=>
 closeList_any (p:=.idxL) (n:=0) (g:=fun k=>run k (.X false)) inside_enters (fun k hk w x y h hy=>by
  obtain rfl:=Nat.le_zero.1 hk
  rw[Array.append_empty]
  cases x with
  |fail a0 a1 a2=>
   have:=hy.out
   rw[run_fail] at this
   obtain rfl:=Option.some.inj this
   exact cinside_f _ _ _ _ _ _ h
  |ok s=>
   have:=hy.out
   unfold run at this
   simp at this) (fun k s=>by rw[run]) hat (run_hid _ _ _ _ _) (Lib.hid rfl)
theorem cselection_f:∀ (C:Kc) (w:World) (b:Nat) (d0 d1 d2:Int) (m:Int),Hid (CAt C w b (.fail d0 d1 d2))→Calls Tryz.prog 154 #[.pointer (some ⟨b,0,none⟩),.int .i64 m] w (CPost C b (.fail d0 d1 d2)):=by
 intro C w b d0 d1 d2 m hat
 have hk0:(Res.fail d0 d1 d2).kind=0:=rfl
 all_goals go_enter Tryz.func154,Tryz.ntmps154
 all_goals go_wp2_with (first|(go_at_call 31;refine(ctake_at ‹_› (by first|with_reducible assumption|exact Lib.hid rfl|assumption|exact run_hid _ _ _ _ _)).mono ?_;rintro e w' ⟨v,rfl,hat⟩)|(go_at_call 57;first|(refine(ckind_is ‹_› ‹_›).mono ?_;rintro e w' ⟨rfl,hat⟩)|(refine(ckind_at ‹_›).mono ?_;rintro e w' ⟨rfl,hat⟩))|(go_at_call 47;refine(cname_at ‹_› (by first|with_reducible assumption|exact Lib.hid rfl|assumption|exact run_hid _ _ _ _ _)).mono ?_;rintro e w' ⟨v,rfl,hat⟩)|(go_at_call 37;refine(cclose_at _ _ _ _ _ _ _ _ ‹_› (by first|exact fun _=>rfl|assumption|exact fun hb=>by cases hb) (by first|exact fun _=>low_ok ‹_›|(intro _;omega)|(intro hb;cases hb;done)|assumption) (by first|with_reducible assumption|exact Lib.hid rfl|assumption|exact run_hid _ _ _ _ _)).mono ?_;rintro e w' ⟨v,rfl,hat⟩)|(go_at_call 45;refine(cfail_at ‹_› _ (by first|with_reducible assumption|exact Lib.hid rfl|assumption|exact run_hid _ _ _ _ _)).mono ?_;rintro e w' ⟨v,rfl,hat⟩))
 all_goals(first|go_end0|go_ret)
 all_goals exact⟨_,rfl,by assumption⟩
theorem ccall_f:∀ (C:Kc) (w:World) (b:Nat) (d0 d1 d2:Int) (m:Int),Hid (CAt C w b (.fail d0 d1 d2))→Calls Tryz.prog 156 #[.pointer (some ⟨b,0,none⟩),.int .i64 m] w (CPost C b (.fail d0 d1 d2)):=by
 intro C w b d0 d1 d2 m hat
 have hk0:(Res.fail d0 d1 d2).kind=0:=rfl
 go_enter Tryz.func156,Tryz.ntmps156
 go_wp2_with (first|(go_at_call 31;refine(ctake_at ‹_› (by first|with_reducible assumption|exact Lib.hid rfl|assumption|exact run_hid _ _ _ _ _)).mono ?_;rintro e w' ⟨v,rfl,hat⟩)|(go_at_call 57;first|(refine(ckind_is ‹_› ‹_›).mono ?_;rintro e w' ⟨rfl,hat⟩)|(refine(ckind_at ‹_›).mono ?_;rintro e w' ⟨rfl,hat⟩))|(go_at_call 139;(refine(cinside_f _ _ _ _ _ _ ‹_›).mono ?_;rintro e w' ⟨v,rfl,hat⟩))|(go_at_call 83;first|(refine(ccame_yes ‹_› ‹_› (by first|with_reducible assumption|exact Lib.hid rfl|assumption|exact run_hid _ _ _ _ _)).mono ?_;rintro e w' ⟨rfl,hat⟩)|(refine(ccame_no ‹_› ?hno).mono ?_;(case hno=>first|assumption|rfl|simp [*]);rintro e w' ⟨rfl,hat⟩))|(go_at_call 33;refine(cexpect_at ‹_› _ (by first|with_reducible assumption|exact Lib.hid rfl|assumption|exact run_hid _ _ _ _ _)).mono ?_;rintro e w' ⟨rfl,hat⟩)|(go_at_call 37;refine(cclose_at _ _ _ _ _ _ _ _ ‹_› (by first|exact fun _=>rfl|assumption|exact fun hb=>by cases hb) (by first|exact fun _=>low_ok ‹_›|(intro _;omega)|(intro hb;cases hb;done)|assumption) (by first|with_reducible assumption|exact Lib.hid rfl|assumption|exact run_hid _ _ _ _ _)).mono ?_;rintro e w' ⟨v,rfl,hat⟩))
 go_loopw [] (fun wr=>Hid (CAt C wr b (.fail d0 d1 d2))) (fun _=>0)
 case atStart=>assumption
 case round=>
  have hat:=hrel
  go_wp2_with (first|(go_at_call 31;refine(ctake_at ‹_› (by first|with_reducible assumption|exact Lib.hid rfl|assumption|exact run_hid _ _ _ _ _)).mono ?_;rintro e w' ⟨v,rfl,hat⟩)|(go_at_call 57;first|(refine(ckind_is ‹_› ‹_›).mono ?_;rintro e w' ⟨rfl,hat⟩)|(refine(ckind_at ‹_›).mono ?_;rintro e w' ⟨rfl,hat⟩))|(go_at_call 139;(refine(cinside_f _ _ _ _ _ _ ‹_›).mono ?_;rintro e w' ⟨v,rfl,hat⟩))|(go_at_call 83;first|(refine(ccame_yes ‹_› ‹_› (by first|with_reducible assumption|exact Lib.hid rfl|assumption|exact run_hid _ _ _ _ _)).mono ?_;rintro e w' ⟨rfl,hat⟩)|(refine(ccame_no ‹_› ?hno).mono ?_;(case hno=>first|assumption|rfl|simp [*]);rintro e w' ⟨rfl,hat⟩))|(go_at_call 33;refine(cexpect_at ‹_› _ (by first|with_reducible assumption|exact Lib.hid rfl|assumption|exact run_hid _ _ _ _ _)).mono ?_;rintro e w' ⟨rfl,hat⟩)|(go_at_call 37;refine(cclose_at _ _ _ _ _ _ _ _ ‹_› (by first|exact fun _=>rfl|assumption|exact fun hb=>by cases hb) (by first|exact fun _=>low_ok ‹_›|(intro _;omega)|(intro hb;cases hb;done)|assumption) (by first|with_reducible assumption|exact Lib.hid rfl|assumption|exact run_hid _ _ _ _ _)).mono ?_;rintro e w' ⟨v,rfl,hat⟩))
  all_goals(first|go_end0|go_ret)
  all_goals exact⟨_,rfl,by assumption⟩
theorem ccut_f:∀ (C:Kc) (w:World) (b:Nat) (d0 d1 d2:Int) (m:Int),Hid (CAt C w b (.fail d0 d1 d2))→Calls Tryz.prog 176 #[.pointer (some ⟨b,0,none⟩),.int .i64 m] w (CPost C b (.fail d0 d1 d2)):=by
 intro C w b d0 d1 d2 m hat
 have hk0:(Res.fail d0 d1 d2).kind=0:=rfl
 all_goals go_enter Tryz.func176,Tryz.ntmps176
 all_goals go_wp2_with (first|(go_at_call 31;refine(ctake_at ‹_› (by first|with_reducible assumption|exact Lib.hid rfl|assumption|exact run_hid _ _ _ _ _)).mono ?_;rintro e w' ⟨v,rfl,hat⟩)|(go_at_call 57;first|(refine(ckind_is ‹_› ‹_›).mono ?_;rintro e w' ⟨rfl,hat⟩)|(refine(ckind_at ‹_›).mono ?_;rintro e w' ⟨rfl,hat⟩))|(go_at_call 45;refine(cfail_at ‹_› _ (by first|with_reducible assumption|exact Lib.hid rfl|assumption|exact run_hid _ _ _ _ _)).mono ?_;rintro e w' ⟨v,rfl,hat⟩)|(go_at_call 35;refine(cnone_at ‹_› (by first|with_reducible assumption|exact Lib.hid rfl|assumption|exact run_hid _ _ _ _ _)).mono ?_;rintro e w' ⟨v,rfl,hat⟩)|(go_at_call 139;(refine(cinside_f _ _ _ _ _ _ ‹_›).mono ?_;rintro e w' ⟨v,rfl,hat⟩))|(go_at_call 83;first|(refine(ccame_yes ‹_› ‹_› (by first|with_reducible assumption|exact Lib.hid rfl|assumption|exact run_hid _ _ _ _ _)).mono ?_;rintro e w' ⟨rfl,hat⟩)|(refine(ccame_no ‹_› ?hno).mono ?_;(case hno=>first|assumption|rfl|simp [*]);rintro e w' ⟨rfl,hat⟩))|(go_at_call 33;refine(cexpect_at ‹_› _ (by first|with_reducible assumption|exact Lib.hid rfl|assumption|exact run_hid _ _ _ _ _)).mono ?_;rintro e w' ⟨rfl,hat⟩)|(go_at_call 37;refine(cclose_at _ _ _ _ _ _ _ _ ‹_› (by first|exact fun _=>rfl|assumption|exact fun hb=>by cases hb) (by first|exact fun _=>low_ok ‹_›|(intro _;omega)|(intro hb;cases hb;done)|assumption) (by first|with_reducible assumption|exact Lib.hid rfl|assumption|exact run_hid _ _ _ _ _)).mono ?_;rintro e w' ⟨v,rfl,hat⟩))
 all_goals(first|go_end0|go_ret)
 all_goals exact⟨_,rfl,by assumption⟩
theorem cindex_f:∀ (C:Kc) (w:World) (b:Nat) (d0 d1 d2:Int) (m:Int),Hid (CAt C w b (.fail d0 d1 d2))→Calls Tryz.prog 155 #[.pointer (some ⟨b,0,none⟩),.int .i64 m] w (CPost C b (.fail d0 d1 d2)):=by
 intro C w b d0 d1 d2 m hat
 have hk0:(Res.fail d0 d1 d2).kind=0:=rfl
 all_goals go_enter Tryz.func155,Tryz.ntmps155
 all_goals go_wp2_with (first|(go_at_call 31;refine(ctake_at ‹_› (by first|with_reducible assumption|exact Lib.hid rfl|assumption|exact run_hid _ _ _ _ _)).mono ?_;rintro e w' ⟨v,rfl,hat⟩)|(go_at_call 57;first|(refine(ckind_is ‹_› ‹_›).mono ?_;rintro e w' ⟨rfl,hat⟩)|(refine(ckind_at ‹_›).mono ?_;rintro e w' ⟨rfl,hat⟩))|(go_at_call 35;refine(cnone_at ‹_› (by first|with_reducible assumption|exact Lib.hid rfl|assumption|exact run_hid _ _ _ _ _)).mono ?_;rintro e w' ⟨v,rfl,hat⟩)|(go_at_call 139;(refine(cinside_f _ _ _ _ _ _ ‹_›).mono ?_;rintro e w' ⟨v,rfl,hat⟩))|(go_at_call 37;refine(cclose_at _ _ _ _ _ _ _ _ ‹_› (by first|exact fun _=>rfl|assumption|exact fun hb=>by cases hb) (by first|exact fun _=>low_ok ‹_›|(intro _;omega)|(intro hb;cases hb;done)|assumption) (by first|with_reducible assumption|exact Lib.hid rfl|assumption|exact run_hid _ _ _ _ _)).mono ?_;rintro e w' ⟨v,rfl,hat⟩)|(go_at_call 116;refine(ccloseX_f _ _ _ _ _ _ ‹_›).mono ?_;rintro e w' ⟨v,rfl,hat⟩))
 all_goals(first|go_end0|go_ret)
 all_goals exact⟨_,rfl,by assumption⟩
theorem cvalues_f:∀ (C:Kc) (w:World) (b:Nat) (d0 d1 d2:Int) (m:Int) (kind:Int),Hid (CAt C w b (.fail d0 d1 d2))→Calls Tryz.prog 158 #[.pointer (some ⟨b,0,none⟩),.int .i64 m,.int .i64 kind] w (CPost C b (.fail d0 d1 d2)):=by
 intro C w b d0 d1 d2 m kind hat
 have hk0:(Res.fail d0 d1 d2).kind=0:=rfl
 go_enter Tryz.func158,Tryz.ntmps158
 go_wp2_with (first|(go_at_call 33;refine(cexpect_at ‹_› _ (by first|with_reducible assumption|exact Lib.hid rfl|assumption|exact run_hid _ _ _ _ _)).mono ?_;rintro e w' ⟨rfl,hat⟩)|(go_at_call 57;first|(refine(ckind_is ‹_› ‹_›).mono ?_;rintro e w' ⟨rfl,hat⟩)|(refine(ckind_at ‹_›).mono ?_;rintro e w' ⟨rfl,hat⟩))|(go_at_call 177;(refine(ckeyed_f _ _ _ _ _ _ ‹_›).mono ?_;rintro e w' ⟨v,rfl,hat⟩))|(go_at_call 83;first|(refine(ccame_yes ‹_› ‹_› (by first|with_reducible assumption|exact Lib.hid rfl|assumption|exact run_hid _ _ _ _ _)).mono ?_;rintro e w' ⟨rfl,hat⟩)|(refine(ccame_no ‹_› ?hno).mono ?_;(case hno=>first|assumption|rfl|simp [*]);rintro e w' ⟨rfl,hat⟩))|(go_at_call 37;refine(cclose_at _ _ _ _ _ _ _ _ ‹_› (by first|exact fun _=>rfl|assumption|exact fun hb=>by cases hb) (by first|exact fun _=>low_ok ‹_›|(intro _;omega)|(intro hb;cases hb;done)|assumption) (by first|with_reducible assumption|exact Lib.hid rfl|assumption|exact run_hid _ _ _ _ _)).mono ?_;rintro e w' ⟨v,rfl,hat⟩))
 go_loopw [] (fun wr=>Hid (CAt C wr b (.fail d0 d1 d2))) (fun _=>0)
 case atStart=>assumption
 case round=>
  have hat:=hrel
  go_wp2_with (first|(go_at_call 33;refine(cexpect_at ‹_› _ (by first|with_reducible assumption|exact Lib.hid rfl|assumption|exact run_hid _ _ _ _ _)).mono ?_;rintro e w' ⟨rfl,hat⟩)|(go_at_call 57;first|(refine(ckind_is ‹_› ‹_›).mono ?_;rintro e w' ⟨rfl,hat⟩)|(refine(ckind_at ‹_›).mono ?_;rintro e w' ⟨rfl,hat⟩))|(go_at_call 177;(refine(ckeyed_f _ _ _ _ _ _ ‹_›).mono ?_;rintro e w' ⟨v,rfl,hat⟩))|(go_at_call 83;first|(refine(ccame_yes ‹_› ‹_› (by first|with_reducible assumption|exact Lib.hid rfl|assumption|exact run_hid _ _ _ _ _)).mono ?_;rintro e w' ⟨rfl,hat⟩)|(refine(ccame_no ‹_› ?hno).mono ?_;(case hno=>first|assumption|rfl|simp [*]);rintro e w' ⟨rfl,hat⟩))|(go_at_call 37;refine(cclose_at _ _ _ _ _ _ _ _ ‹_› (by first|exact fun _=>rfl|assumption|exact fun hb=>by cases hb) (by first|exact fun _=>low_ok ‹_›|(intro _;omega)|(intro hb;cases hb;done)|assumption) (by first|with_reducible assumption|exact Lib.hid rfl|assumption|exact run_hid _ _ _ _ _)).mono ?_;rintro e w' ⟨v,rfl,hat⟩))
  all_goals(first|go_end0|go_ret)
  all_goals exact⟨_,rfl,by assumption⟩
theorem cfield_f:∀ (C:Kc) (w:World) (b:Nat) (d0 d1 d2:Int),Hid (CAt C w b (.fail d0 d1 d2))→Calls Tryz.prog 79 #[.pointer (some ⟨b,0,none⟩)] w (CPost C b (.fail d0 d1 d2)):=by
 intro C w b d0 d1 d2 hat
 have hk0:(Res.fail d0 d1 d2).kind=0:=rfl
 all_goals go_enter Tryz.func79,Tryz.ntmps79
 all_goals go_wp2_with (first|(go_at_call 61;first|(refine(cmark_at ‹_›).mono ?_;rintro e w' ⟨rfl,rfl⟩)|(refine(cmark_bad ‹_›).mono ?_;rintro e w' ⟨⟨v,_,rfl⟩,rfl⟩))|(go_at_call 57;first|(refine(ckind_is ‹_› ‹_›).mono ?_;rintro e w' ⟨rfl,hat⟩)|(refine(ckind_at ‹_›).mono ?_;rintro e w' ⟨rfl,hat⟩))|(go_at_call 37;refine(cclose_at _ _ _ _ _ _ _ _ ‹_› (by first|exact fun _=>rfl|assumption|exact fun hb=>by cases hb) (by first|exact fun _=>low_ok ‹_›|(intro _;omega)|(intro hb;cases hb;done)|assumption) (by first|with_reducible assumption|exact Lib.hid rfl|assumption|exact run_hid _ _ _ _ _)).mono ?_;rintro e w' ⟨v,rfl,hat⟩)|(go_at_call 23;refine(cType_f _ _ _ _ _ _ ‹_›).mono ?_;rintro e w' ⟨v,rfl,hat⟩)|(go_at_call 84;refine(cjoinedName_s (n:=0) (by omega) ‹_› (Lib.hid rfl) (run_hid _ _ _ _ _)).mono ?_;rintro e w' ⟨c,rfl,hat⟩))
 all_goals(first|go_end0|go_ret)
 all_goals exact⟨_,rfl,by assumption⟩
theorem celement_f:∀ (C:Kc) (w:World) (b:Nat) (d0 d1 d2:Int),Hid (CAt C w b (.fail d0 d1 d2))→Calls Tryz.prog 81 #[.pointer (some ⟨b,0,none⟩)] w (CPost C b (.fail d0 d1 d2)):=by
 intro C w b d0 d1 d2 hat
 have hk0:(Res.fail d0 d1 d2).kind=0:=rfl
 all_goals go_enter Tryz.func81,Tryz.ntmps81
 all_goals go_wp2_with (first|(go_at_call 61;first|(refine(cmark_at ‹_›).mono ?_;rintro e w' ⟨rfl,rfl⟩)|(refine(cmark_bad ‹_›).mono ?_;rintro e w' ⟨⟨v,_,rfl⟩,rfl⟩))|(go_at_call 57;first|(refine(ckind_is ‹_› ‹_›).mono ?_;rintro e w' ⟨rfl,hat⟩)|(refine(ckind_at ‹_›).mono ?_;rintro e w' ⟨rfl,hat⟩))|(go_at_call 37;refine(cclose_at _ _ _ _ _ _ _ _ ‹_› (by first|exact fun _=>rfl|assumption|exact fun hb=>by cases hb) (by first|exact fun _=>low_ok ‹_›|(intro _;omega)|(intro hb;cases hb;done)|assumption) (by first|with_reducible assumption|exact Lib.hid rfl|assumption|exact run_hid _ _ _ _ _)).mono ?_;rintro e w' ⟨v,rfl,hat⟩)|(go_at_call 119;refine(cterms_f _ _ _ _ _ _ ‹_›).mono ?_;rintro e w' ⟨c,rfl,hat⟩))
 all_goals(first|go_end0|go_ret)
 all_goals exact⟨_,rfl,by assumption⟩
theorem cflat_x {n:Nat} (hn:n≤1099511627776):P0 189 (n+1) .flat:=by
 intro C w b x y hat hy
 have hy:=hy.out
 have hmain:∃ z1 z2,∃ m':Nat,Hid (rExpect 59 x=some z1)∧Hid (run n (.flatL 1) z1=some z2)∧Hid (rClose m' 217 z2=some y)∧(∀ s,x=.ok s→m'=s.R.length):=by
  cases x with
  |fail d0 d1 d2=>
   rw[run_fail] at hy
   obtain rfl:=Option.some.inj hy
   exact⟨_,_,0,Lib.hid rfl,run_hid _ _ _ _ _,Lib.hid rfl,fun s h=>by cases h⟩
  |ok s=>
   rw[run] at hy
   try dsimp only at hy
   rw[bind_iff] at hy
   obtain⟨z1,hz1,hy⟩:=hy
   rw[bind_iff] at hy
   obtain⟨z2,hz2,hy⟩:=hy
   exact⟨z1,z2,s.R.length,hz1,hz2,Lib.hid hy,fun s' h=>by cases h;rfl⟩
 clear hy
 obtain⟨z1,z2,m',hz1,hz2,hy,hmm⟩:=hmain
 have hMK:∃ mv:Int,Hid (Calls Tryz.prog 61 #[.pointer (some ⟨b,0,none⟩)] w fun e w'=>e=.returned (.int .i64 mv)∧w=w')∧(z2.bad=false→mv=(m':Int))∧(z2.bad=false→(C.low:Int)≤mv):=by
  cases x with
  |fail d0 d1 d2=>
   have e1:=hz1.out
   obtain rfl:=Option.some.inj e1
   have e2:=hz2.out
   rw[run_fail] at e2
   obtain rfl:=Option.some.inj e2
   obtain⟨vL,vS,vR,σ,D,hr,_,hi⟩:=hat.out
   exact⟨_,Lib.hid (cmark_any hr),(fun h=>by cases h),(fun h=>by cases h)⟩
  |ok s=>exact⟨_,Lib.hid (cmark_at hat),(fun _=>by rw[hmm s rfl]),fun _=>low_ok hat⟩
 obtain⟨mv,HMK,hmv,hlw⟩:=hMK
 clear hmm
 go_enter Tryz.func189,Tryz.ntmps189
 go_wp2_with (first|(go_at_call 61;refine HMK.out.mono ?_;rintro e w' ⟨rfl,rfl⟩)|(go_at_call 33;refine(cexpect_at ‹_› _ (by first|with_reducible assumption|exact Lib.hid rfl|assumption|exact run_hid _ _ _ _ _)).mono ?_;rintro e w' ⟨rfl,hat⟩))
 go_loopw [3] (fun p wr=>∃ c k:Nat,c+k≤n+1∧p=.int .i64 (c:Int)∧Mp C b z2 (.flatL c) wr k) (fun p wr=>mpOf C b z2 (.flatL (intOf p).toNat) wr)
 case atStart=>exact⟨1,n,by omega,rfl,z1,by assumption,by assumption⟩
 case round=>
  obtain⟨c,k0,hck,rfl,hlp⟩:=hrel
  have hq0:mpOf C b z2 (.flatL (intOf (.int .i64 (c:Int))).toNat) wr=mpOf C b z2 (.flatL c) wr:=by simp [intOf]
  clear hat hz1 hz2 HMK
  rcases Mq.out ⟨k0,Nat.le_refl _,hlp⟩ with⟨d0,d1,d2,hu,hat⟩|⟨k,s',hk,hq,hat,hy2⟩
  ·subst hu
   have hk0:(Res.fail d0 d1 d2).kind=0:=rfl
   have e:=hy.out
   obtain rfl:=Option.some.inj e
   rcases Nat.eq_zero_or_pos c with rfl|hc0
   ·go_wp2_with (first
   |(go_at_call 61;first|(refine(cmark_at ‹_›).mono ?_;rintro e w' ⟨rfl,rfl⟩)|(refine(cmark_bad ‹_›).mono ?_;rintro e w' ⟨⟨v,_,rfl⟩,rfl⟩))
   |(go_at_call 33;refine(cexpect_at ‹_› _ (by first|with_reducible assumption|exact Lib.hid rfl|assumption|exact run_hid _ _ _ _ _)).mono ?_;rintro e w' ⟨rfl,hat⟩)
   |(go_at_call 57;first|(refine(ckind_is ‹_› ‹_›).mono ?_;rintro e w' ⟨rfl,hat⟩)|(refine(ckind_at ‹_›).mono ?_;rintro e w' ⟨rfl,hat⟩))
   |(go_at_call 45;refine(cfail_at ‹_› _ (by first|with_reducible assumption|exact Lib.hid rfl|assumption|exact run_hid _ _ _ _ _)).mono ?_;rintro e w' ⟨v,rfl,hat⟩)
   |(go_at_call 31;refine(ctake_at ‹_› (by first|with_reducible assumption|exact Lib.hid rfl|assumption|exact run_hid _ _ _ _ _)).mono ?_;rintro e w' ⟨v,rfl,hat⟩)
   |(go_at_call 37;refine(cclose_at _ _ _ _ _ _ _ _ ‹_› (by first|exact fun _=>rfl|assumption|exact fun hb=>by cases hb) (by first|exact fun _=>low_ok ‹_›|(intro _;omega)|(intro hb;cases hb;done)|assumption) (by first|with_reducible assumption|exact Lib.hid rfl|assumption|exact run_hid _ _ _ _ _)).mono ?_;rintro e w' ⟨v,rfl,hat⟩))
    go_end0
    exact⟨_,rfl,by assumption⟩
   ·have hd:decide (0<(c:Int))=true:=decide_eq_true (by omega)
    go_wp2_with (first
   |(go_at_call 61;first|(refine(cmark_at ‹_›).mono ?_;rintro e w' ⟨rfl,rfl⟩)|(refine(cmark_bad ‹_›).mono ?_;rintro e w' ⟨⟨v,_,rfl⟩,rfl⟩))
   |(go_at_call 33;refine(cexpect_at ‹_› _ (by first|with_reducible assumption|exact Lib.hid rfl|assumption|exact run_hid _ _ _ _ _)).mono ?_;rintro e w' ⟨rfl,hat⟩)
   |(go_at_call 57;first|(refine(ckind_is ‹_› ‹_›).mono ?_;rintro e w' ⟨rfl,hat⟩)|(refine(ckind_at ‹_›).mono ?_;rintro e w' ⟨rfl,hat⟩))
   |(go_at_call 45;refine(cfail_at ‹_› _ (by first|with_reducible assumption|exact Lib.hid rfl|assumption|exact run_hid _ _ _ _ _)).mono ?_;rintro e w' ⟨v,rfl,hat⟩)
   |(go_at_call 31;refine(ctake_at ‹_› (by first|with_reducible assumption|exact Lib.hid rfl|assumption|exact run_hid _ _ _ _ _)).mono ?_;rintro e w' ⟨v,rfl,hat⟩)
   |(go_at_call 37;refine(cclose_at _ _ _ _ _ _ _ _ ‹_› (by first|exact fun _=>rfl|assumption|exact fun hb=>by cases hb) (by first|exact fun _=>low_ok ‹_›|(intro _;omega)|(intro hb;cases hb;done)|assumption) (by first|with_reducible assumption|exact Lib.hid rfl|assumption|exact run_hid _ _ _ _ _)).mono ?_;rintro e w' ⟨v,rfl,hat⟩))
    all_goals(first|go_end0|go_ret)
    all_goals exact⟨_,rfl,by assumption⟩
  ·rw[run] at hy2
   try dsimp only at hy2
   rcases Nat.eq_zero_or_pos c with rfl|hc0
   ·rw[if_pos rfl] at hy2
    obtain rfl:=Option.some.inj hy2
    have hmv':=hmv rfl
    subst hmv'
    have hlm:=hlw rfl
    go_wp2_with (first
   |(go_at_call 61;first|(refine(cmark_at ‹_›).mono ?_;rintro e w' ⟨rfl,rfl⟩)|(refine(cmark_bad ‹_›).mono ?_;rintro e w' ⟨⟨v,_,rfl⟩,rfl⟩))
   |(go_at_call 33;refine(cexpect_at ‹_› _ (by first|with_reducible assumption|exact Lib.hid rfl|assumption|exact run_hid _ _ _ _ _)).mono ?_;rintro e w' ⟨rfl,hat⟩)
   |(go_at_call 57;first|(refine(ckind_is ‹_› ‹_›).mono ?_;rintro e w' ⟨rfl,hat⟩)|(refine(ckind_at ‹_›).mono ?_;rintro e w' ⟨rfl,hat⟩))
   |(go_at_call 45;refine(cfail_at ‹_› _ (by first|with_reducible assumption|exact Lib.hid rfl|assumption|exact run_hid _ _ _ _ _)).mono ?_;rintro e w' ⟨v,rfl,hat⟩)
   |(go_at_call 31;refine(ctake_at ‹_› (by first|with_reducible assumption|exact Lib.hid rfl|assumption|exact run_hid _ _ _ _ _)).mono ?_;rintro e w' ⟨v,rfl,hat⟩)
   |(go_at_call 37;refine(cclose_at _ _ _ _ _ _ _ _ ‹_› (by first|exact fun _=>rfl|assumption|exact fun hb=>by cases hb) (by first|exact fun _=>low_ok ‹_›|(intro _;omega)|(intro hb;cases hb;done)|assumption) (by first|with_reducible assumption|exact Lib.hid rfl|assumption|exact run_hid _ _ _ _ _)).mono ?_;rintro e w' ⟨v,rfl,hat⟩))
    go_end0
    exact⟨_,rfl,by assumption⟩
   have hd:decide (0<(c:Int))=true:=decide_eq_true (by omega)
   rw[if_neg (by omega)] at hy2
   by_cases h0:(Res.ok s').kind=0
   ·rw[if_pos h0] at hy2
    obtain⟨d0,d1,d2,rfl⟩:=rFail_bad hy2
    replace hy2:=Lib.hid hy2
    have e:=hy.out
    obtain rfl:=Option.some.inj e
    go_wp2_with (first
   |(go_at_call 61;first|(refine(cmark_at ‹_›).mono ?_;rintro e w' ⟨rfl,rfl⟩)|(refine(cmark_bad ‹_›).mono ?_;rintro e w' ⟨⟨v,_,rfl⟩,rfl⟩))
   |(go_at_call 33;refine(cexpect_at ‹_› _ (by first|with_reducible assumption|exact Lib.hid rfl|assumption|exact run_hid _ _ _ _ _)).mono ?_;rintro e w' ⟨rfl,hat⟩)
   |(go_at_call 57;first|(refine(ckind_is ‹_› ‹_›).mono ?_;rintro e w' ⟨rfl,hat⟩)|(refine(ckind_at ‹_›).mono ?_;rintro e w' ⟨rfl,hat⟩))
   |(go_at_call 45;refine(cfail_at ‹_› _ (by first|with_reducible assumption|exact Lib.hid rfl|assumption|exact run_hid _ _ _ _ _)).mono ?_;rintro e w' ⟨v,rfl,hat⟩)
   |(go_at_call 31;refine(ctake_at ‹_› (by first|with_reducible assumption|exact Lib.hid rfl|assumption|exact run_hid _ _ _ _ _)).mono ?_;rintro e w' ⟨v,rfl,hat⟩)
   |(go_at_call 37;refine(cclose_at _ _ _ _ _ _ _ _ ‹_› (by first|exact fun _=>rfl|assumption|exact fun hb=>by cases hb) (by first|exact fun _=>low_ok ‹_›|(intro _;omega)|(intro hb;cases hb;done)|assumption) (by first|with_reducible assumption|exact Lib.hid rfl|assumption|exact run_hid _ _ _ _ _)).mono ?_;rintro e w' ⟨v,rfl,hat⟩))
    all_goals(first|go_end0|go_ret)
    all_goals exact⟨_,rfl,by assumption⟩
   rw[if_neg h0] at hy2
   by_cases h59:(Res.ok s').kind=59
   ·rw[if_pos h59] at hy2
    obtain⟨y1,hy1,hy2⟩:=bind_some hy2
    replace hy2:=Lib.hid hy2
    have hw1:IntKind.i64.wrap ((c:Int)+1)=(c:Int)+1:=IntWalk.i64_in _ (by omega)
    go_wp2_with (first
   |(go_at_call 61;first|(refine(cmark_at ‹_›).mono ?_;rintro e w' ⟨rfl,rfl⟩)|(refine(cmark_bad ‹_›).mono ?_;rintro e w' ⟨⟨v,_,rfl⟩,rfl⟩))
   |(go_at_call 33;refine(cexpect_at ‹_› _ (by first|with_reducible assumption|exact Lib.hid rfl|assumption|exact run_hid _ _ _ _ _)).mono ?_;rintro e w' ⟨rfl,hat⟩)
   |(go_at_call 57;first|(refine(ckind_is ‹_› ‹_›).mono ?_;rintro e w' ⟨rfl,hat⟩)|(refine(ckind_at ‹_›).mono ?_;rintro e w' ⟨rfl,hat⟩))
   |(go_at_call 45;refine(cfail_at ‹_› _ (by first|with_reducible assumption|exact Lib.hid rfl|assumption|exact run_hid _ _ _ _ _)).mono ?_;rintro e w' ⟨v,rfl,hat⟩)
   |(go_at_call 31;refine(ctake_at ‹_› (by first|with_reducible assumption|exact Lib.hid rfl|assumption|exact run_hid _ _ _ _ _)).mono ?_;rintro e w' ⟨v,rfl,hat⟩)
   |(go_at_call 37;refine(cclose_at _ _ _ _ _ _ _ _ ‹_› (by first|exact fun _=>rfl|assumption|exact fun hb=>by cases hb) (by first|exact fun _=>low_ok ‹_›|(intro _;omega)|(intro hb;cases hb;done)|assumption) (by first|with_reducible assumption|exact Lib.hid rfl|assumption|exact run_hid _ _ _ _ _)).mono ?_;rintro e w' ⟨v,rfl,hat⟩))
    go_roundw
    case rel=>exact⟨c+1,k,by omega,by go_num,_,by assumption,by assumption⟩
    case measure=>
     rw[hq0]
     have hq1:mpOf C b z2 (.flatL (intOf (.int .i64 ((c:Int)+1))).toNat) w'=mpOf C b z2 (.flatL (c+1)) w':=by simp only[intOf];rw[show((c:Int)+1).toNat=c+1 by omega]
     show mpOf C b z2 (.flatL (intOf (.int .i64 ((c:Int)+1))).toNat) w'<_
     rw[hq1,hq]
     exact Nat.lt_succ_of_le (least_spec (P:=Mp C b z2 (.flatL (c+1)) w') ⟨_,by assumption,by assumption⟩).2
   rw[if_neg h59] at hy2
   by_cases h64:(Res.ok s').kind=64
   ·rw[if_pos h64] at hy2
    obtain⟨y1,hy1,hy2⟩:=bind_some hy2
    replace hy2:=Lib.hid hy2
    have hw1:IntKind.i64.wrap ((c:Int) - 1)=(c:Int) - 1:=IntWalk.i64_in _ (by omega)
    go_wp2_with (first
   |(go_at_call 61;first|(refine(cmark_at ‹_›).mono ?_;rintro e w' ⟨rfl,rfl⟩)|(refine(cmark_bad ‹_›).mono ?_;rintro e w' ⟨⟨v,_,rfl⟩,rfl⟩))
   |(go_at_call 33;refine(cexpect_at ‹_› _ (by first|with_reducible assumption|exact Lib.hid rfl|assumption|exact run_hid _ _ _ _ _)).mono ?_;rintro e w' ⟨rfl,hat⟩)
   |(go_at_call 57;first|(refine(ckind_is ‹_› ‹_›).mono ?_;rintro e w' ⟨rfl,hat⟩)|(refine(ckind_at ‹_›).mono ?_;rintro e w' ⟨rfl,hat⟩))
   |(go_at_call 45;refine(cfail_at ‹_› _ (by first|with_reducible assumption|exact Lib.hid rfl|assumption|exact run_hid _ _ _ _ _)).mono ?_;rintro e w' ⟨v,rfl,hat⟩)
   |(go_at_call 31;refine(ctake_at ‹_› (by first|with_reducible assumption|exact Lib.hid rfl|assumption|exact run_hid _ _ _ _ _)).mono ?_;rintro e w' ⟨v,rfl,hat⟩)
   |(go_at_call 37;refine(cclose_at _ _ _ _ _ _ _ _ ‹_› (by first|exact fun _=>rfl|assumption|exact fun hb=>by cases hb) (by first|exact fun _=>low_ok ‹_›|(intro _;omega)|(intro hb;cases hb;done)|assumption) (by first|with_reducible assumption|exact Lib.hid rfl|assumption|exact run_hid _ _ _ _ _)).mono ?_;rintro e w' ⟨v,rfl,hat⟩))
    go_roundw
    case rel=>exact⟨c - 1,k,by omega,by go_num,_,by assumption,by assumption⟩
    case measure=>
     rw[hq0]
     have hq1:mpOf C b z2 (.flatL (intOf (.int .i64 ((c:Int) - 1))).toNat) w'=mpOf C b z2 (.flatL (c - 1)) w':=by simp only[intOf];rw[show((c:Int) - 1).toNat=c - 1 by omega]
     show mpOf C b z2 (.flatL (intOf (.int .i64 ((c:Int) - 1))).toNat) w'<_
     rw[hq1,hq]
     exact Nat.lt_succ_of_le (least_spec (P:=Mp C b z2 (.flatL (c - 1)) w') ⟨_,by assumption,by assumption⟩).2
   rw[if_neg h64] at hy2
   obtain⟨y1,hy1,hy2⟩:=bind_some hy2
   replace hy2:=Lib.hid hy2
   have e0:((Res.ok s').kind == 0)=false:=by simp [*]
   have e59:((Res.ok s').kind == 59)=false:=by simp [*]
   have e64:((Res.ok s').kind == 64)=false:=by simp [*]
   go_wp2_with (first|(go_at_call 61;first|(refine(cmark_at ‹_›).mono ?_;rintro e w' ⟨rfl,rfl⟩)|(refine(cmark_bad ‹_›).mono ?_;rintro e w' ⟨⟨v,_,rfl⟩,rfl⟩))|(go_at_call 33;refine(cexpect_at ‹_› _ (by first|with_reducible assumption|exact Lib.hid rfl|assumption|exact run_hid _ _ _ _ _)).mono ?_;rintro e w' ⟨rfl,hat⟩)|(go_at_call 57;first|(refine(ckind_is ‹_› ‹_›).mono ?_;rintro e w' ⟨rfl,hat⟩)|(refine(ckind_at ‹_›).mono ?_;rintro e w' ⟨rfl,hat⟩))|(go_at_call 45;refine(cfail_at ‹_› _ (by first|with_reducible assumption|exact Lib.hid rfl|assumption|exact run_hid _ _ _ _ _)).mono ?_;rintro e w' ⟨v,rfl,hat⟩)|(go_at_call 31;refine(ctake_at ‹_› (by first|with_reducible assumption|exact Lib.hid rfl|assumption|exact run_hid _ _ _ _ _)).mono ?_;rintro e w' ⟨v,rfl,hat⟩)|(go_at_call 37;refine(cclose_at _ _ _ _ _ _ _ _ ‹_› (by first|exact fun _=>rfl|assumption|exact fun hb=>by cases hb) (by first|exact fun _=>low_ok ‹_›|(intro _;omega)|(intro hb;cases hb;done)|assumption) (by first|with_reducible assumption|exact Lib.hid rfl|assumption|exact run_hid _ _ _ _ _)).mono ?_;rintro e w' ⟨v,rfl,hat⟩))
   go_roundw
   case rel=>exact⟨c,k,by omega,rfl,_,by assumption,by assumption⟩
   case measure=>
    rw[hq0,hq]
    show mpOf C b z2 (.flatL (intOf (.int .i64 (c:Int))).toNat) w'<_
    rw[show mpOf C b z2 (.flatL (intOf (.int .i64 (c:Int))).toNat) w'=mpOf C b z2 (.flatL c) w' by simp [intOf]]
    exact Nat.lt_succ_of_le (least_spec (P:=Mp C b z2 (.flatL c) w') ⟨_,by assumption,by assumption⟩).2
theorem cflat_f:∀ (C:Kc) (w:World) (b:Nat) (d0 d1 d2:Int),Hid (CAt C w b (.fail d0 d1 d2))→Calls Tryz.prog 189 #[.pointer (some ⟨b,0,none⟩)] w (CPost C b (.fail d0 d1 d2)):=fun C w b d0 d1 d2 hat=>cflat_x (n:=0) (by decide) C w b _ _ hat (run_hid _ _ _ _ _)
open Go.RowKit
theorem cloneB_any {w:World} {v:Value} {T:List Bn} (hr:Row bt w v T) (hn:T.length≤1099511627776) :
  Calls Tryz.prog 131 #[v] w fun e w'=>∃ v',e=.returned v'∧Mine bt w' w.heap.size v' T∧Below w.heap.size w w':=by
 have hr0:=hr
 obtain⟨g,off,o,cap,hc,rfl,ho,hcell⟩:=hr
 have HR:=Lib.hid hr0
 clear hr0 ho hcell
 cases o with
 |none=>
  have hq:∀ u,(binOp .eql 59 (.slice none 0 cap) (.slice none 0 0)).run Tryz.prog u=.ok (.bool true) u:=fun u=>Lib.run_eql_slice_nil u _ _ none _ _ _ _ Tryz.underlying59
  have hT:T=[]:=by
   refine Classical.byContradiction fun h=>?_
   obtain⟨_,_,_,_,_,hv,ho,_⟩:=HR.out
   have:=ho h
   subst this
   cases hv
  subst hT
  rw[List.length_nil] at *
  go_enter Tryz.func131,Tryz.ntmps131
  go_wp2
  go_ret
  exact⟨_,rfl,Mine.nil _ _,Below.refl _ _⟩
 |some ad=>
  have hq:∀ u,(binOp .eql 59 (.slice (some ad) T.length cap) (.slice none 0 0)).run Tryz.prog u=.ok (.bool false) u:=fun u=>Lib.run_eql_slice_nil u _ _ (some ad) _ _ _ _ Tryz.underlying59
  go_enter Tryz.func131,Tryz.ntmps131
  have h0:Mine bt (w.alloc (.cells #[] bt.e)) w.heap.size (.slice (some ⟨w.heap.size,0,none⟩) 0 0) []:=World.ownsRow_made w #[] 0 (Nat.le_refl _) (by decide) rfl
  have hB:Below w.heap.size w (w.alloc (.cells #[] bt.e)):=(Below.refl _ _).alloc (Nat.le_refl _) _
  obtain⟨v',w',hrun,hown,hgr⟩:=run_append_row (F:=bt) h0 (HR.out.below hB) hB.size (by simp [maxLen];omega) (by show(0+T.length)*bt.bytes≤_;simp only[bt];omega)
  have HB:=Lib.hid (hB.grown hgr (by simp) (fun k hk=>by cases hk;exact Nat.le_refl _))
  have HO:=Lib.hid hown
  have HRUN:=Lib.hid hrun
  clear hown hgr hrun h0 hB
  go_wp2_with (at_builtin;refine Lib.wpList_append_run _ rfl _ _ _ _ rfl _ _ rfl rfl _ _ (HRUN.out _) ?_)
  go_ret
  exact⟨_,rfl,HO.out,HB.out⟩
theorem cloneN_any {w:World} {v:Value} {T:List Rn} (hr:Row nd w v T) (hn:T.length≤1099511627776) :
  Calls Tryz.prog 109 #[v] w fun e w'=>∃ v',e=.returned v'∧Mine nd w' w.heap.size v' T∧Below w.heap.size w w':=by
 have hr0:=hr
 obtain⟨g,off,o,cap,hc,rfl,ho,hcell⟩:=hr
 have HR:=Lib.hid hr0
 clear hr0 ho hcell
 cases o with
 |none=>
  have hq:∀ u,(binOp .eql 35 (.slice none 0 cap) (.slice none 0 0)).run Tryz.prog u=.ok (.bool true) u:=fun u=>Lib.run_eql_slice_nil u _ _ none _ _ _ _ Tryz.underlying35
  have hT:T=[]:=by
   refine Classical.byContradiction fun h=>?_
   obtain⟨_,_,_,_,_,hv,ho,_⟩:=HR.out
   have:=ho h
   subst this
   cases hv
  subst hT
  rw[List.length_nil] at *
  go_enter Tryz.func109,Tryz.ntmps109
  go_wp2
  go_ret
  exact⟨_,rfl,Mine.nil _ _,Below.refl _ _⟩
 |some ad=>
  have hq:∀ u,(binOp .eql 35 (.slice (some ad) T.length cap) (.slice none 0 0)).run Tryz.prog u=.ok (.bool false) u:=fun u=>Lib.run_eql_slice_nil u _ _ (some ad) _ _ _ _ Tryz.underlying35
  go_enter Tryz.func109,Tryz.ntmps109
  have h0:Mine nd (w.alloc (.cells #[] nd.e)) w.heap.size (.slice (some ⟨w.heap.size,0,none⟩) 0 0) []:=World.ownsRow_made w #[] 0 (Nat.le_refl _) (by decide) rfl
  have hB:Below w.heap.size w (w.alloc (.cells #[] nd.e)):=(Below.refl _ _).alloc (Nat.le_refl _) _
  obtain⟨v',w',hrun,hown,hgr⟩:=run_append_row (F:=nd) h0 (HR.out.below hB) hB.size (by simp [maxLen];omega) (by show(0+T.length)*nd.bytes≤_;simp only[nd];omega)
  have HB:=Lib.hid (hB.grown hgr (by simp) (fun k hk=>by cases hk;exact Nat.le_refl _))
  have HO:=Lib.hid hown
  have HRUN:=Lib.hid hrun
  clear hown hgr hrun h0 hB
  go_wp2_with (at_builtin;refine Lib.wpList_append_run _ rfl _ _ _ _ rfl _ _ rfl rfl _ _ (HRUN.out _) ?_)
  go_ret
  exact⟨_,rfl,HO.out,HB.out⟩
theorem cloneT_any {w:World} {v:Value} {T:List Tk} (hr:Row tk w v T) (hn:T.length≤1099511627776) :
  Calls Tryz.prog 29 #[v] w fun e w'=>∃ v',e=.returned v'∧Mine tk w' w.heap.size v' T∧Below w.heap.size w w':=by
 have hr0:=hr
 obtain⟨g,off,o,cap,hc,rfl,ho,hcell⟩:=hr
 have HR:=Lib.hid hr0
 clear hr0 ho hcell
 cases o with
 |none=>
  have hq:∀ u,(binOp .eql 22 (.slice none 0 cap) (.slice none 0 0)).run Tryz.prog u=.ok (.bool true) u:=fun u=>Lib.run_eql_slice_nil u _ _ none _ _ _ _ Tryz.underlying22
  have hT:T=[]:=by
   refine Classical.byContradiction fun h=>?_
   obtain⟨_,_,_,_,_,hv,ho,_⟩:=HR.out
   have:=ho h
   subst this
   cases hv
  subst hT
  rw[List.length_nil] at *
  go_enter Tryz.func29,Tryz.ntmps29
  go_wp2
  go_ret
  exact⟨_,rfl,Mine.nil _ _,Below.refl _ _⟩
 |some ad=>
  have hq:∀ u,(binOp .eql 22 (.slice (some ad) T.length cap) (.slice none 0 0)).run Tryz.prog u=.ok (.bool false) u:=fun u=>Lib.run_eql_slice_nil u _ _ (some ad) _ _ _ _ Tryz.underlying22
  go_enter Tryz.func29,Tryz.ntmps29
  have h0:Mine tk (w.alloc (.cells #[] tk.e)) w.heap.size (.slice (some ⟨w.heap.size,0,none⟩) 0 0) []:=World.ownsRow_made w #[] 0 (Nat.le_refl _) (by decide) rfl
  have hB:Below w.heap.size w (w.alloc (.cells #[] tk.e)):=(Below.refl _ _).alloc (Nat.le_refl _) _
  obtain⟨v',w',hrun,hown,hgr⟩:=run_append_row (F:=tk) h0 (HR.out.below hB) hB.size (by simp [maxLen];omega) (by show(0+T.length)*tk.bytes≤_;simp only[tk];omega)
  have HB:=Lib.hid (hB.grown hgr (by simp) (fun k hk=>by cases hk;exact Nat.le_refl _))
  have HO:=Lib.hid hown
  have HRUN:=Lib.hid hrun
  clear hown hgr hrun h0 hB
  go_wp2_with (at_builtin;refine Lib.wpList_append_run _ rfl _ _ _ _ rfl _ _ rfl rfl _ _ (HRUN.out _) ?_)
  go_ret
  exact⟨_,rfl,HO.out,HB.out⟩
end Go.Proofs.YtcekbbkidipbnaaGreat.rd
