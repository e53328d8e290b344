/-
  Texts put together: Hn, Hp, Hs, Ho, Ht.
-/
import Derived.Test.YtcekbbkidipbnaaGreatP41
set_option maxRecDepth 100000
set_option maxHeartbeats 8000000
namespace Go.Proofs.YtcekbbkidipbnaaGreat.rd
open Go.RowKit
theorem zpU {n:Nat} (ih:∀ k,k≤n→AllC k):PArr 75 (n+1):=by
 have _:=ih
 intro C w b s y hat hy
 have hy:=hy.out
 rw[run] at hy
 try dsimp only at hy
 rw[zfu] at hy
 obtain⟨z1,hz1,hy⟩:=hy
 have e1:=hz1.out
 obtain⟨rfl,_⟩:=zgg e1
 clear e1
 by_cases h63:(Res.ok s.take).kind=63
 ·rw[if_pos h63] at hy
  rw[zfu] at hy
  obtain⟨z2,hz2,hy⟩:=hy
  have hz2':=zoQ h63 zdD hz2
  rw[zfu] at hy
  obtain⟨z3,hz3,hy⟩:=hy
  replace hy:=Lib.hid hy
  all_goals go_enter Tryz.func75,Tryz.ntmps75
  all_goals exact zaa
 ·rw[if_neg h63] at hy
  have e63:((Res.ok s.take).kind == 63)=false:=by simp [*]
  have hcase:∃ z2,Hid ((if (Res.ok s.take).kind=56 then(rTake (.ok s.take) >>= fun u=>rClose s.take.R.length 218 u) else run n (.X false) (.ok s.take))=some z2)∧((rExpect 63 z2 >>= fun v=>run n .type v >>= fun v2=>rClose s.R.length 221 v2)=some y):=by
   split at hy
   ·rename_i h56
    rw[zfu] at hy
    obtain⟨a1,ha1,hy⟩:=hy
    rw[zfu] at hy
    obtain⟨a2,ha2,hy⟩:=hy
    refine⟨a2,Lib.hid ?_,hy⟩
    rw[if_pos h56]
    have e1:=ha1.out
    have e2:=ha2.out
    rw[e1]
    exact e2
   ·rename_i h56
    rw[zfu] at hy
    obtain⟨a1,ha1,hy⟩:=hy
    exact⟨a1,Lib.hid (by rw[if_neg h56];exact ha1.out),hy⟩
  clear hy
  obtain⟨z2,hz2,hy⟩:=hcase
  rw[zfu] at hy
  obtain⟨z3,hz3,hy⟩:=hy
  rw[zfu] at hy
  obtain⟨z4,hz4,hy⟩:=hy
  replace hy:=Lib.hid hy
  all_goals go_enter Tryz.func75,Tryz.ntmps75
  all_goals exact zaa
theorem zrq {n:Nat} {C:Kc} {w:World} {b:Nat} {x y:Res} (hat:Hid (CAt C w b x)) (h3:Hid ((rExpect 58 x >>= fun u=>run n .type u >>= fun v=>rExpect 63 v >>= fun v2=>run n .type v2)=some y)) (ih:∀ k,k≤n→AllC k):Calls Tryz.prog 76 #[.pointer (some ⟨b,0,none⟩)] w (CPost C b y):=by
 have hy:=h3.out
 clear h3
 iterate 16 (all_goals try(first|split at hy|(rw[zfu] at hy;obtain⟨z,hz,hy⟩:=hy;try(rw[zfF] at hz;subst hz))))
 all_goals(first|(obtain rfl:=Option.some.inj hy)|(replace hy:=Lib.hid hy))
 iterate 2 (all_goals try(rename _∧_=>ho;obtain⟨_,_⟩:=ho))
 iterate 7 (all_goals try(rename _∨_=>ho;rcases ho with ho|ho))
 all_goals(repeat (rename ¬ (_∨_)=>ho;rw[not_or] at ho;obtain⟨_,_⟩:=ho))
 all_goals go_enter Tryz.func76,Tryz.ntmps76
 all_goals exact zaa
theorem ztn {n:Nat} {C:Kc} {w:World} {b:Nat} {x y:Res} (hat:Hid (CAt C w b x)) (hy:Hid (run n (.items true) x=some y)) (ih:∀ k,k≤n→AllC k):Calls Tryz.prog 78 #[.pointer (some ⟨b,0,none⟩),.func (.func 79) #[.pointer (some ⟨b,0,none⟩)] #[]] w (CPost C b y):=by
 have key:∀ m z1 z,m≤n→Hid (rExpect 59 x=some z1)→Hid (run m (.itL true) z1=some z)→Hid (rExpect 64 z=some y)→Calls Tryz.prog 78 #[.pointer (some ⟨b,0,none⟩),.func (.func 79) #[.pointer (some ⟨b,0,none⟩)] #[]] w (CPost C b y):=fun m z1 z hm h1 h2 h3=>
  znz (p:=.itL true) (n:=m) (g:=fun k=>run k .field) zpA (fun k hk w x y h hy=>by rw[Array.append_empty];exact(ih k zdC).field _ _ _ _ _ h hy) (fun k d0 d1 d2=>zfB _ _ _ _ _) (fun k s=>by rw[run]) hat h1 h2 h3
 exact zbv
theorem zti {n:Nat} {C:Kc} {w:World} {b:Nat} {x y:Res} (hat:Hid (CAt C w b x)) (hy:Hid (run n (.items false) x=some y)) (ih:∀ k,k≤n→AllC k):Calls Tryz.prog 78 #[.pointer (some ⟨b,0,none⟩),.func (.func 81) #[.pointer (some ⟨b,0,none⟩)] #[]] w (CPost C b y):=by
 have key:∀ m z1 z,m≤n→Hid (rExpect 59 x=some z1)→Hid (run m (.itL false) z1=some z)→Hid (rExpect 64 z=some y)→Calls Tryz.prog 78 #[.pointer (some ⟨b,0,none⟩),.func (.func 81) #[.pointer (some ⟨b,0,none⟩)] #[]] w (CPost C b y):=fun m z1 z hm h1 h2 h3=>
  znz (p:=.itL false) (n:=m) (g:=fun k=>run k .element) zmD (fun k hk w x y h hy=>by rw[Array.append_empty];exact(ih k zdC).element _ _ _ _ _ h hy) (fun k d0 d1 d2=>zfB _ _ _ _ _) (fun k s=>by rw[run]) hat h1 h2 h3
 exact zbv
theorem zuO {n:Nat} {C1:Kc} {b B0:Nat} (ih:∀ k,k≤n→AllC k) (HBX:Hid (∀ W' z,Hid (CAt C1 W' b z)→W'.cell? ⟨B0,0,none⟩=some (.pointer (some ⟨b,0,none⟩)))):CFun C1 b 74 (#[] ++ #[.pointer (some ⟨B0,0,none⟩)]) (fun r=>run n .type r >>= fun u=>rExpect 62 u):=by
 intro w x y hat hy
 have hy:=hy.out
 try dsimp only at hy
 iterate 16 (all_goals try(first|split at hy|(rw[zfu] at hy;obtain⟨z,hz,hy⟩:=hy;try(rw[zfF] at hz;subst hz))))
 all_goals(first|(obtain rfl:=Option.some.inj hy)|(replace hy:=Lib.hid hy))
 iterate 2 (all_goals try(rename _∧_=>ho;obtain⟨_,_⟩:=ho))
 iterate 7 (all_goals try(rename _∨_=>ho;rcases ho with ho|ho))
 all_goals(repeat (rename ¬ (_∨_)=>ho;rw[not_or] at ho;obtain⟨_,_⟩:=ho))
 have hc:=HBX.out _ _ hat
 rw[Array.empty_append]
 all_goals go_enter Tryz.func74,Tryz.ntmps74
 all_goals exact zak
theorem zve {n:Nat} {C1:Kc} {b B0:Nat} (ih:∀ k,k≤n→AllC k) (HBX:Hid (∀ W' z,Hid (CAt C1 W' b z)→W'.cell? ⟨B0,0,none⟩=some (.pointer (some ⟨b,0,none⟩)))):CFun C1 b 77 (#[] ++ #[.pointer (some ⟨B0,0,none⟩)]) (fun r=>run n (.items true) r):=by
 intro w x y hat hy
 have hy:=hy.out
 try dsimp only at hy
 iterate 16 (all_goals try(first|split at hy|(rw[zfu] at hy;obtain⟨z,hz,hy⟩:=hy;try(rw[zfF] at hz;subst hz))))
 all_goals(first|(obtain rfl:=Option.some.inj hy)|(replace hy:=Lib.hid hy))
 iterate 2 (all_goals try(rename _∧_=>ho;obtain⟨_,_⟩:=ho))
 iterate 7 (all_goals try(rename _∨_=>ho;rcases ho with ho|ho))
 all_goals(repeat (rename ¬ (_∨_)=>ho;rw[not_or] at ho;obtain⟨_,_⟩:=ho))
 have hc:=HBX.out _ _ hat
 rw[Array.empty_append]
 all_goals go_enter Tryz.func77,Tryz.ntmps77
 all_goals exact zaa
theorem zug {n:Nat} {C1:Kc} {b B0:Nat} (ih:∀ k,k≤n→AllC k) (HBX:Hid (∀ W' z,Hid (CAt C1 W' b z)→W'.cell? ⟨B0,0,none⟩=some (.pointer (some ⟨b,0,none⟩)))):CFun C1 b 80 (#[] ++ #[.pointer (some ⟨B0,0,none⟩)]) (fun r=>run n (.items false) r):=by
 intro w x y hat hy
 have hy:=hy.out
 try dsimp only at hy
 iterate 16 (all_goals try(first|split at hy|(rw[zfu] at hy;obtain⟨z,hz,hy⟩:=hy;try(rw[zfF] at hz;subst hz))))
 all_goals(first|(obtain rfl:=Option.some.inj hy)|(replace hy:=Lib.hid hy))
 iterate 2 (all_goals try(rename _∧_=>ho;obtain⟨_,_⟩:=ho))
 iterate 7 (all_goals try(rename _∨_=>ho;rcases ho with ho|ho))
 all_goals(repeat (rename ¬ (_∨_)=>ho;rw[not_or] at ho;obtain⟨_,_⟩:=ho))
 have hc:=HBX.out _ _ hat
 rw[Array.empty_append]
 all_goals go_enter Tryz.func80,Tryz.ntmps80
 all_goals exact zac
open Go.RowKit
theorem zvZ {n:Nat} (ih:∀ k,k≤n→AllC k):P0 140 (n+1) .term:=by
 have _:=ih
 intro C w b x y hat hy
 have hy:=hy.out
 cases x with
 |fail d0 d1 d2=>
  rw[zfB] at hy
  obtain rfl:=Option.some.inj hy
  clear hy
  have hk0:(Res.fail d0 d1 d2).kind=0:=rfl
  all_goals go_enter Tryz.func140,Tryz.ntmps140
  all_goals exact zaf
 |ok s=>
  have hlo:C.low≤s.R.length:=zgs hat
  rw[run] at hy
  try dsimp only at hy
  have HF:Hid (CFun C b 23 (#[.pointer (some ⟨b,0,none⟩)] ++ #[]) (run n .type)):=Lib.hid (fun w x y h hy=>by rw[Array.append_empty];exact(ih n zdC).type _ _ _ _ _ h hy)
  iterate 16 (all_goals try(first|split at hy|(rw[zfu] at hy;obtain⟨z,hz,hy⟩:=hy;try(rw[zfF] at hz;subst hz))))
  all_goals(first|(obtain rfl:=Option.some.inj hy)|(replace hy:=Lib.hid hy))
  iterate 2 (all_goals try(rename _∧_=>ho;obtain⟨_,_⟩:=ho))
  iterate 7 (all_goals try(rename _∨_=>ho;rcases ho with ho|ho))
  all_goals(repeat (rename ¬ (_∨_)=>ho;rw[not_or] at ho;obtain⟨_,_⟩:=ho))
  all_goals(try have e51:((Res.ok s).kind == 51)=false:=by simp [*])
  all_goals go_enter Tryz.func140,Tryz.ntmps140
  all_goals exact zac
theorem zrd:∀ (C:Kc) (w:World) (b:Nat) (d0 d1 d2:Int),Hid (CAt C w b (.fail d0 d1 d2))→Calls Tryz.prog 140 #[.pointer (some ⟨b,0,none⟩)] w (CPost C b (.fail d0 d1 d2)):=by
 intro C w b d0 d1 d2 hat
 have hk0:(Res.fail d0 d1 d2).kind=0:=rfl
 go_enter Tryz.func140,Tryz.ntmps140
 exact zab
theorem zmd {n:Nat} (hn:n≤1099511627776) (hT:∀ k,k≤n→P0 140 k .term):PUni 119 n:=by
 intro C w b x z y hat h1 h2
 have HJ:=Lib.hid (zmv (p:=.unionL) (n:=n) (g:=fun k=>run k .term) (A:=#[.pointer (some ⟨b,0,none⟩)]) (B:=#[]) (by':=26) hn zqh (fun k hk w x y h hy=>by rw[Array.append_empty];exact hT k hk _ _ _ _ _ h hy) zdD (fun k s=>by rw[run]) hat h1 h2)
 go_enter Tryz.func119,Tryz.ntmps119
 go_wp2_with (go_at_call 84;refine HJ.out.mono ?_;rintro e w' ⟨c,rfl,hat,hc⟩)
 go_ret
 exact⟨_,rfl,hat,hc⟩
theorem zro:P0 140 0 .term:=by
 intro C w b x y hat hy
 cases x with
 |ok s=>exact(run_zero hy).elim
 |fail d0 d1 d2=>obtain rfl:=ziu hy;exact zrd _ _ _ _ _ _ hat
theorem ziv {n:Nat} (hn:n≤1099511627776) (ih:∀ k,k≤n→AllC k):PUni 119 n:=zmd hn (fun k hk=>(ih k hk).term)
theorem zlJ:∀ (C:Kc) (w:World) (b:Nat) (d0 d1 d2:Int),Hid (CAt C w b (.fail d0 d1 d2))→Calls Tryz.prog 119 #[.pointer (some ⟨b,0,none⟩)] w fun e w'=>∃ c:Int,e=.returned (.int .i64 c)∧Hid (CAt C w' b (.fail d0 d1 d2)):=by
 intro C w b d0 d1 d2 hat
 refine(zmd (n:=0) zdC (fun k hk=>by have e:k=0:=Nat.le_zero.1 hk;subst e;exact zro) _ _ _ _ _ _ hat (zgL _ _ _ _ _) (zgL _ _ _ _ _)).mono ?_
 rintro e w' ⟨c,rfl,h,_⟩
 exact⟨c,rfl,h⟩
open Go.RowKit
theorem zsc {n:Nat} (hn:n≤1099511627776) (ih:∀ k,k≤n→AllC k):P0 81 (n+1) .element:=by
 have _:=ih
 intro C w b x y hat hy
 have hy:=hy.out
 cases x with
 |fail d0 d1 d2=>
  rw[zfB] at hy
  obtain rfl:=Option.some.inj hy
  clear hy
  have hk0:(Res.fail d0 d1 d2).kind=0:=rfl
  all_goals go_enter Tryz.func81,Tryz.ntmps81
  all_goals exact zac
 |ok s=>
  have hlo:C.low≤s.R.length:=zgs hat
  rw[run] at hy
  try dsimp only at hy
  by_cases hE:(Res.ok s).kind=10∧(Res.ok s).ahead 1=57
  ·rw[if_pos hE] at hy
   obtain⟨h10,h57⟩:=hE
   iterate 16 (all_goals try(first|split at hy|(rw[zfu] at hy;obtain⟨z,hz,hy⟩:=hy;try(rw[zfF] at hz;subst hz))))
   all_goals(first|(obtain rfl:=Option.some.inj hy)|(replace hy:=Lib.hid hy))
   iterate 2 (all_goals try(rename _∧_=>ho;obtain⟨_,_⟩:=ho))
   iterate 7 (all_goals try(rename _∨_=>ho;rcases ho with ho|ho))
   all_goals(repeat (rename ¬ (_∨_)=>ho;rw[not_or] at ho;obtain⟨_,_⟩:=ho))
   all_goals go_enter Tryz.func81,Tryz.ntmps81
   all_goals exact zaa
  ·rw[if_neg hE] at hy
   rw[zfu] at hy
   obtain⟨z1,hz1,hy⟩:=hy
   replace hy:=Lib.hid hy
   cases n with
   |zero=>exact absurd hz1.out zeC
   |succ n=>
    have hz:=hz1.out
    rw[run] at hz
    try dsimp only at hz
    rw[zfu] at hz
    obtain⟨z2,hz2,hz3⟩:=hz
    replace hz3:=Lib.hid hz3
    clear hz1
    by_cases h10:(Res.ok s).kind=10
    ·have h57:¬ (Res.ok s).ahead 1=57:=fun h=>hE ⟨h10,h⟩
     have a57:((Res.ok s).ahead 1 == 57)=false:=beq_eq_false_iff_ne.2 h57
     clear hE h57
     all_goals go_enter Tryz.func81,Tryz.ntmps81
     all_goals exact zaa
    ·have e10:((Res.ok s).kind == 10)=false:=beq_eq_false_iff_ne.2 h10
     clear hE
     all_goals go_enter Tryz.func81,Tryz.ntmps81
     all_goals exact zaa
open Go.RowKit
theorem zwm {n:Nat} (ih:∀ k,k≤n→AllC k):P0 23 (n+1) .type:=by
 have _:=ih
 intro C w b x y hat hy
 have hy:=hy.out
 cases x with
 |fail d0 d1 d2=>
  rw[zfB] at hy
  obtain rfl:=Option.some.inj hy
  exact zij _ _ _ _ _ _ hat
 |ok s=>
  have hlo:C.low≤s.R.length:=zgs hat
  rw[run] at hy
  try dsimp only at hy
  rw[zfu] at hy
  obtain⟨z,hz,hy⟩:=hy
  cases z with
  |fail a0 a1 a2=>
   rw[if_pos (zfv a0 a1 a2)] at hy
   obtain rfl:=Option.some.inj hy
   clear hy
   go_enter Tryz.func23,Tryz.ntmps23
   go_wp2_with fail
   obtain⟨C1,hat1,HBX,HBK⟩:=CAt.boxed1 hat (.pointer (some ⟨b,0,none⟩)) 25
   have hc:=HBX.out _ _ hat1
   exact zaP
  |ok t=>
   rw[if_neg zeA] at hy
   simp only[show(Res.ok t).len=t.R.length from rfl] at hy
   by_cases h10:(Res.ok t).kind=10
   ·rw[if_pos h10] at hy
    rw[zfu] at hy
    obtain⟨z1,hz1,hy⟩:=hy
    have hcase:∃ u,Hid ((if z1.kind=58 then(rTake z1 >>= fun u=>run n .type u >>= fun v=>run n .tyL v >>= fun v2=>rExpect 63 v2 >>= fun v3=>rClose t.R.length 208 v3) else some z1)=some u)∧Hid (rUp u=some y):=by
     split at hy
     ·rename_i h58
      rw[zfu] at hy
      obtain⟨a1,ha1,hy⟩:=hy
      rw[zfu] at hy
      obtain⟨a2,ha2,hy⟩:=hy
      rw[zfu] at hy
      obtain⟨a3,ha3,hy⟩:=hy
      rw[zfu] at hy
      obtain⟨a4,ha4,hy⟩:=hy
      rw[zfu] at hy
      obtain⟨a5,ha5,hy⟩:=hy
      refine⟨a5,Lib.hid ?_,Lib.hid hy⟩
      rw[if_pos h58,ha1.out]
      show(run n .type a1 >>= _)=_
      rw[ha2.out]
      show(run n .tyL a2 >>= _)=_
      rw[ha3.out]
      show(rExpect 63 a3 >>= _)=_
      rw[ha4.out]
      exact ha5.out
     ·rename_i h58
      exact⟨z1,Lib.hid (by rw[if_neg h58]),Lib.hid hy⟩
    clear hy
    obtain⟨u,hu,hy⟩:=hcase
    go_enter Tryz.func23,Tryz.ntmps23
    go_wp2_with fail
    obtain⟨C1,hat1,HBX,HBK⟩:=CAt.boxed1 hat (.pointer (some ⟨b,0,none⟩)) 25
    have hc:=HBX.out _ _ hat1
    exact zaP
   ·rw[if_neg h10] at hy
    have e10:((Res.ok t).kind == 10)=false:=by simp [*]
    by_cases h57:(Res.ok t).kind=57
    ·rw[if_pos h57] at hy
     rw[zfu] at hy
     obtain⟨z1,hz1,hy⟩:=hy
     rw[zfu] at hy
     obtain⟨z2,hz2,hy⟩:=hy
     rw[zfu] at hy
     obtain⟨z3,hz3,hy⟩:=hy
     rw[zfu] at hy
     obtain⟨z4,hz4,hy⟩:=hy
     replace hy:=Lib.hid hy
     have h62:(run n .type z1 >>= fun u=>rExpect 62 u)=some z3:=by rw[hz2.out];exact hz3.out
     go_enter Tryz.func23,Tryz.ntmps23
     go_wp2_with fail
     obtain⟨C1,hat1,HBX,HBK⟩:=CAt.boxed1 hat (.pointer (some ⟨b,0,none⟩)) 25
     have hc:=HBX.out _ _ hat1
     have HF1:Hid (CFun C1 b 74 (#[] ++ #[.pointer (some ⟨w.heap.size,0,none⟩)]) (fun r=>run n .type r >>= fun u=>rExpect 62 u)):=Lib.hid (zuO (fun j hj=>ih j zdC) HBX)
     exact zaP
    ·rw[if_neg h57] at hy
     have e57:((Res.ok t).kind == 57)=false:=by simp [*]
     by_cases h83:(Res.ok t).kind=83
     ·rw[if_neg (by rw[h83];decide),if_neg (by rw[h83];decide),if_neg (by rw[h83];decide),if_pos h83] at hy
      rw[zfu] at hy
      obtain⟨z1,hz1,hy⟩:=hy
      rw[zfu] at hy
      obtain⟨z2,hz2,hy⟩:=hy
      rw[zfu] at hy
      obtain⟨z3,hz3,hy⟩:=hy
      rw[zfu] at hy
      obtain⟨z4,hz4,hy⟩:=hy
      rw[zfu] at hy
      obtain⟨z5,hz5,hy⟩:=hy
      rw[zfu] at hy
      obtain⟨z6,hz6,hy⟩:=hy
      replace hy:=Lib.hid hy
      have hmap:(rExpect 58 z1 >>= fun u=>run n .type u >>= fun v=>rExpect 63 v >>= fun v2=>run n .type v2)=some z5:=by
       rw[hz2.out]
       show(run n .type z2 >>= _)=_
       rw[hz3.out]
       show(rExpect 63 z3 >>= _)=_
       rw[hz4.out]
       exact hz5.out
      go_enter Tryz.func23,Tryz.ntmps23
      go_wp2_with fail
      obtain⟨C1,hat1,HBX,HBK⟩:=CAt.boxed1 hat (.pointer (some ⟨b,0,none⟩)) 25
      have hc:=HBX.out _ _ hat1
      have HF4:Hid (CFun C1 b 76 (#[.pointer (some ⟨b,0,none⟩)] ++ #[]) (fun r=>rExpect 58 r >>= fun u=>run n .type u >>= fun v=>rExpect 63 v >>= fun v2=>run n .type v2)):=Lib.hid (fun w x y h hy=>by rw[Array.append_empty];exact zrq h hy (fun j hj=>ih j zdC))
      go_wp2_with (first|(go_at_call 41;refine(zim ‹_› ‹_›).mono ?_;rintro e w' ⟨rfl,hat⟩;have hc:=HBX.out _ _ hat)|((go_at_call 57;first|(refine(zfI ‹_› ‹_›).mono ?_;rintro e w' ⟨rfl,hat⟩)|(refine(zfH ‹_›).mono ?_;rintro e w' ⟨rfl,hat⟩));have hc:=HBX.out _ _ hat)|((go_at_call 45;refine(zgu ‹_› _ zeu).mono ?_;rintro e w' ⟨v,rfl,hat⟩);have hc:=HBX.out _ _ hat)|((go_at_call 43;refine(zmx ‹_› zeu).mono ?_;rintro e w' ⟨v,rfl,hat⟩);have hc:=HBX.out _ _ hat)|((go_at_call 73;(with_reducible refine(zgF (C:=C1) (A:=#[.pointer (some ⟨b,0,none⟩)]) (B:=#[]) (g:=fun r=>rExpect 58 r >>= fun u=>run n .type u >>= fun v=>rExpect 63 v >>= fun v2=>run n .type v2) zmC HF4.out ‹_› ‹_› (Lib.hid hmap) ‹_›).mono ?_);rintro e w' ⟨v,rfl,hat⟩);have hc:=HBX.out _ _ hat))
      all_goals(first|go_end0|go_ret)
      all_goals exact⟨_,rfl,HBK.out _ _ ‹_›⟩
     ·iterate 16 (all_goals try(first|split at hy|(rw[zfu] at hy;obtain⟨z,hz,hy⟩:=hy;try(rw[zfF] at hz;subst hz))))
      all_goals(first|(obtain rfl:=Option.some.inj hy)|(replace hy:=Lib.hid hy))
      iterate 2 (all_goals try(rename _∧_=>ho;obtain⟨_,_⟩:=ho))
      iterate 7 (all_goals try(rename _∨_=>ho;rcases ho with ho|ho))
      all_goals(repeat (rename ¬ (_∨_)=>ho;rw[not_or] at ho;obtain⟨_,_⟩:=ho))
      all_goals(try(exact absurd ‹_› h83))
      all_goals(try have e22:((Res.ok t).kind == 22)=false:=by simp [*])
      all_goals(try have e79:((Res.ok t).kind == 79)=false:=by simp [*])
      all_goals(try have e58:((Res.ok t).kind == 58)=false:=by simp [*])
      all_goals(try have e83:((Res.ok t).kind == 83)=false:=by simp [*])
      all_goals(try have e87:((Res.ok t).kind == 87)=false:=by simp [*])
      all_goals(try have e82:((Res.ok t).kind == 82)=false:=by simp [*])
      all_goals(
       go_enter Tryz.func23,Tryz.ntmps23
       go_wp2_with fail
       obtain⟨C1,hat1,HBX,HBK⟩:=CAt.boxed1 hat (.pointer (some ⟨b,0,none⟩)) 25
       have hc:=HBX.out _ _ hat1
       have HF2:Hid (CFun C1 b 23 (#[.pointer (some ⟨b,0,none⟩)] ++ #[]) (run n .type)):=Lib.hid (fun w x y h hy=>by rw[Array.append_empty];exact(ih n zdC).type _ _ _ _ _ h hy)
       have HF3:Hid (CFun C1 b 24 (#[.pointer (some ⟨b,0,none⟩)] ++ #[]) (run n .sig)):=Lib.hid (fun w x y h hy=>by rw[Array.append_empty];exact(ih n zdC).sig _ _ _ _ _ h hy)
       have HF5:Hid (CFun C1 b 77 (#[] ++ #[.pointer (some ⟨w.heap.size,0,none⟩)]) (fun r=>run n (.items true) r)):=Lib.hid (zve (fun j hj=>ih j zdC) HBX)
       have HF6:Hid (CFun C1 b 80 (#[] ++ #[.pointer (some ⟨w.heap.size,0,none⟩)]) (fun r=>run n (.items false) r)):=Lib.hid (zug (fun j hj=>ih j zdC) HBX)
       go_wp2_with (first|(go_at_call 41;refine(zim ‹_› ‹_›).mono ?_;rintro e w' ⟨rfl,hat⟩;have hc:=HBX.out _ _ hat)|((go_at_call 57;first|(refine(zfI ‹_› ‹_›).mono ?_;rintro e w' ⟨rfl,hat⟩)|(refine(zfH ‹_›).mono ?_;rintro e w' ⟨rfl,hat⟩));have hc:=HBX.out _ _ hat)|((go_at_call 45;refine(zgu ‹_› _ zeu).mono ?_;rintro e w' ⟨v,rfl,hat⟩);have hc:=HBX.out _ _ hat)|((go_at_call 43;refine(zmx ‹_› zeu).mono ?_;rintro e w' ⟨v,rfl,hat⟩);have hc:=HBX.out _ _ hat)|((go_at_call 75;refine((ih _ ?hk).array _ _ _ _ _ ‹_› ‹_›).mono ?_;(case hk=>omega);rintro e w' ⟨v,rfl,hat⟩);have hc:=HBX.out _ _ hat)|((go_at_call 73;(with_reducible refine(zgF (C:=C1) (A:=#[.pointer (some ⟨b,0,none⟩)]) (B:=#[]) (g:=run n .type) zjK HF2.out ‹_› ‹_› ‹_› ‹_›).mono ?_);rintro e w' ⟨v,rfl,hat⟩);have hc:=HBX.out _ _ hat)|((go_at_call 73;(with_reducible refine(zgF (C:=C1) (A:=#[.pointer (some ⟨b,0,none⟩)]) (B:=#[]) (g:=run n .sig) zrl HF3.out ‹_› ‹_› ‹_› ‹_›).mono ?_);rintro e w' ⟨v,rfl,hat⟩);have hc:=HBX.out _ _ hat)|((go_at_call 73;(with_reducible refine(zgF (C:=C1) (A:=#[]) (B:=#[.pointer (some ⟨w.heap.size,0,none⟩)]) (g:=fun r=>run n (.items true) r) zpi HF5.out ‹_› ‹_› ‹_› ‹_›).mono ?_);rintro e w' ⟨v,rfl,hat⟩);have hc:=HBX.out _ _ hat)|((go_at_call 73;(with_reducible refine(zgF (C:=C1) (A:=#[]) (B:=#[.pointer (some ⟨w.heap.size,0,none⟩)]) (g:=fun r=>run n (.items false) r) zog HF6.out ‹_› ‹_› ‹_› ‹_›).mono ?_);rintro e w' ⟨v,rfl,hat⟩);have hc:=HBX.out _ _ hat))
       all_goals(first|go_end0|go_ret)
       all_goals exact⟨_,rfl,HBK.out _ _ ‹_›⟩)
open Go.RowKit
theorem zoA (hPF:∀ (C:Kc) (w:World) (b:Nat) (d0 d1 d2:Int),Hid (CAt C w b (.fail d0 d1 d2))→Calls Tryz.prog 53 #[.pointer (some ⟨b,0,none⟩)] w (CPost C b (.fail d0 d1 d2))):∀ (C:Kc) (w:World) (b:Nat) (d0 d1 d2:Int),Hid (CAt C w b (.fail d0 d1 d2))→Calls Tryz.prog 24 #[.pointer (some ⟨b,0,none⟩)] w (CPost C b (.fail d0 d1 d2)):=by
 intro C w b d0 d1 d2 hat
 have hk0:(Res.fail d0 d1 d2).kind=0:=rfl
 go_enter Tryz.func24,Tryz.ntmps24
 exact zab
theorem zxe {n:Nat} (hPF:∀ (C:Kc) (w:World) (b:Nat) (d0 d1 d2:Int),Hid (CAt C w b (.fail d0 d1 d2))→Calls Tryz.prog 53 #[.pointer (some ⟨b,0,none⟩)] w (CPost C b (.fail d0 d1 d2))) (ih:∀ k,k≤n→AllC k):P0 24 (n+1) .sig:=by
 have _:=ih
 intro C w b x y hat hy
 have hy:=hy.out
 cases x with
 |fail d0 d1 d2=>
  rw[zfB] at hy
  obtain rfl:=Option.some.inj hy
  exact zoA hPF _ _ _ _ _ _ hat
 |ok s=>
  have hlo:C.low≤s.R.length:=zgs hat
  rw[run] at hy
  try dsimp only at hy
  rw[zfu] at hy
  obtain⟨z1,hz1,hy⟩:=hy
  iterate 16 (all_goals try(first|split at hy|(rw[zfu] at hy;obtain⟨z,hz,hy⟩:=hy;try(rw[zfF] at hz;subst hz))))
  all_goals(first|(obtain rfl:=Option.some.inj hy)|(replace hy:=Lib.hid hy))
  iterate 2 (all_goals try(rename _∧_=>ho;obtain⟨_,_⟩:=ho))
  iterate 7 (all_goals try(rename _∨_=>ho;rcases ho with ho|ho))
  all_goals(repeat (rename ¬ (_∨_)=>ho;rw[not_or] at ho;obtain⟨_,_⟩:=ho))
  all_goals(try have e57:(z1.kind == 57)=false:=by simp [*])
  all_goals(try have e10:(z1.kind == 10)=false:=by simp [*])
  all_goals(try have e22:(z1.kind == 22)=false:=by simp [*])
  all_goals(try have e58:(z1.kind == 58)=false:=by simp [*])
  all_goals(try have e83:(z1.kind == 83)=false:=by simp [*])
  all_goals(try have e87:(z1.kind == 87)=false:=by simp [*])
  all_goals(try have e82:(z1.kind == 82)=false:=by simp [*])
  all_goals(try have e79:(z1.kind == 79)=false:=by simp [*])
  all_goals go_enter Tryz.func24,Tryz.ntmps24
  all_goals exact zaa
end Go.Proofs.YtcekbbkidipbnaaGreat.rd
