/-
  Texts put together: Hv, Hw, Hx, Ib, It, Kg, Kh, Km.
-/
import Derived.Test.YtcekbbkidipbnaaGreatP42
import Derived.Test.YtcekbbkidipbnaaGreatP41
import Derived.Test.YtcekbbkidipbnaaGreatP47
import Derived.Test.YtcekbbkidipbnaaGreatP39
import Derived.Test.YtcekbbkidipbnaaGreatP44
import Derived.Test.YtcekbbkidipbnaaGreatP43
import Derived.Test.YtcekbbkidipbnaaGreatP29
set_option maxRecDepth 100000
set_option maxHeartbeats 8000000
namespace Go.Proofs.YtcekbbkidipbnaaGreat.rd
open Go.RowKit
theorem zkv:∀ (C:Kc) (w:World) (b:Nat) (d0 d1 d2:Int),Hid (CAt C w b (.fail d0 d1 d2))→Calls Tryz.prog 120 #[.pointer (some ⟨b,0,none⟩)] w (CPost C b (.fail d0 d1 d2)):=by
 intro C w b d0 d1 d2 hat
 have hl:(Res.fail d0 d1 d2).last=0:=rfl
 go_enter Tryz.func120,Tryz.ntmps120
 exact zab
theorem znP {n:Nat} (hn:n≤1099511627776) {C:Kc} {w:World} {b:Nat} {x z u:Res} (hat:Hid (CAt C w b x)) (h1:Hid (run n .term x=some z)) (h2:Hid ((if z.kind=26 then(run n .unionL z >>= fun v=>rClose x.len 229 v) else if x.kind=51 then rClose x.len 229 z else some z)=some u)) (ih:∀ k,k≤n→AllC k):Calls Tryz.prog 120 #[.pointer (some ⟨b,0,none⟩)] w (CPost C b u):=by
 have h3:=h2.out
 clear h2
 cases x with
 |fail d0 d1 d2=>
  have e:=h1.out
  rw[zfB] at e
  obtain rfl:=Option.some.inj e
  rw[if_neg (by rw[Res.kind_fail];decide),if_neg (by rw[Res.kind_fail];decide)] at h3
  obtain rfl:=Option.some.inj h3
  exact zkv _ _ _ _ _ _ hat
 |ok s=>
  rw[show(Res.ok s).len=s.R.length from rfl] at h3
  cases z with
  |fail d0 d1 d2=>
   have hv:=zgL n .unionL d0 d1 d2
   have hu:u=.fail d0 d1 d2:=by
    rw[if_neg (by rw[Res.kind_fail];decide)] at h3
    split at h3
    ·exact(Option.some.inj h3).symm
    ·exact(Option.some.inj h3).symm
   subst hu
   clear h3
   have hl:(Res.fail d0 d1 d2).last=0:=rfl
   all_goals go_enter Tryz.func120,Tryz.ntmps120
   all_goals exact zaf
  |ok zs=>
   by_cases h26:(Res.ok zs).kind=26
   ·rw[if_pos h26,zfu] at h3
    obtain⟨v,hv,h3⟩:=h3
    have e26:((Res.ok zs).kind == 26)=true:=beq_iff_eq.2 h26
    cases v with
    |fail d0 d1 d2=>
     obtain rfl:=Option.some.inj h3
     clear h3
     have hl:(Res.fail d0 d1 d2).last=0:=rfl
     all_goals go_enter Tryz.func120,Tryz.ntmps120
     all_goals exact zaf
    |ok vs=>
     replace h3:=Lib.hid h3
     all_goals go_enter Tryz.func120,Tryz.ntmps120
     all_goals exact zak
   ·rw[if_neg h26] at h3
    have e26:((Res.ok zs).kind == 26)=false:=beq_eq_false_iff_ne.2 h26
    cases n with
    |zero=>exact absurd h1.out zeC
    |succ m=>
     have hv:Hid (run (m+1) .unionL (.ok zs)=some (.ok zs)):=Lib.hid (by rw[run];rw[if_neg h26])
     have hlt:=zth h1.out
     have hls:(Res.ok zs).last=zs.last:=rfl
     by_cases h51:(Res.ok s).kind=51
     ·rw[if_pos h51] at h3
      replace h3:=Lib.hid h3
      have e230:((Res.ok zs).last == 230)=true:=by rw[hls,hlt,h51];rfl
      clear hls hlt
      all_goals go_enter Tryz.func120,Tryz.ntmps120
      all_goals go_wp2_with (first|(go_at_call 62;first|(refine(zfE ‹_›).mono ?_;rintro e w' ⟨rfl,rfl⟩)|(refine(zfD ‹_›).mono ?_;rintro e w' ⟨⟨v,rfl⟩,rfl⟩))|(go_at_call 54;first|(refine((ih _ ?hk).params _ _ _ _ _ ‹_› ‹_›).mono ?_;(case hk=>omega);rintro e w' ⟨v,rfl,hat⟩)|(refine(ziz HCL _ _ _ _ _ _ ‹_›).mono ?_;rintro e w' ⟨v,rfl,hat⟩))|(go_at_call 38;refine(HCL _ _ _ _ _ _ _ _ ‹_› zev zeu).mono ?_;rintro e w' ⟨v,rfl,hat⟩)|(go_at_call 36;refine(zgU ‹_› zeu).mono ?_;rintro e w' ⟨v,rfl,hat⟩)|(go_at_call 51;first|(refine((ih _ ?hk).type _ _ _ _ _ ‹_› ‹_›).mono ?_;(case hk=>omega);rintro e w' ⟨v,rfl,hat⟩)|(refine(zgo HCL _ _ _ _ _ _ ‹_›).mono ?_;rintro e w' ⟨v,rfl,hat⟩))|(go_at_call 95;first|(with_reducible refine(zfC ‹_› ?hc).mono ?_;(case hc=>simp [Res.comes, *]);rintro e w' ⟨rfl,hat⟩)|(with_reducible refine(zfz ‹_› ?hc).mono ?_;(case hc=>simp [Res.comes, *]);rintro e w' ⟨rfl,hat⟩)|(with_reducible refine(zkl ‹_› ?hc).mono ?_;(case hc=>simp [Res.comes, *]);rintro e w' ⟨rfl,hat⟩)|(with_reducible refine(zjt ‹_› ?hc).mono ?_;(case hc=>simp [Res.comes, *]);rintro e w' ⟨rfl,hat⟩))|(go_at_call 61;first|(refine(zfS ‹_›).mono ?_;rintro e w' ⟨rfl,rfl⟩)|(refine(zfQ ‹_›).mono ?_;rintro e w' ⟨⟨v,_,rfl⟩,rfl⟩))|(go_at_call 63;refine(zhe ‹_›).mono ?_;rintro e w' ⟨rfl,hat⟩)|(go_at_call 37;refine(zfP _ _ _ _ _ _ _ _ ‹_› zev zez zeu).mono ?_;rintro e w' ⟨v,rfl,hat⟩)|(go_at_call 119;refine(ziv (n:=m+1) zdC (fun j hj=>ih j zdC) _ _ _ _ _ _ ‹_› h1 hv).mono ?_;rintro e w' ⟨c,rfl,hat,hct⟩;have hd:=hct rfl;rw[e26] at hd))
      all_goals exact zar
     ·rw[if_neg h51] at h3
      obtain rfl:=Option.some.inj h3
      have e230:((Res.ok zs).last == 230)=false:=by rw[hls,hlt];exact beq_eq_false_iff_ne.2 h51
      clear hls hlt h3
      all_goals go_enter Tryz.func120,Tryz.ntmps120
      all_goals go_wp2_with (first|(go_at_call 62;first|(refine(zfE ‹_›).mono ?_;rintro e w' ⟨rfl,rfl⟩)|(refine(zfD ‹_›).mono ?_;rintro e w' ⟨⟨v,rfl⟩,rfl⟩))|(go_at_call 54;first|(refine((ih _ ?hk).params _ _ _ _ _ ‹_› ‹_›).mono ?_;(case hk=>omega);rintro e w' ⟨v,rfl,hat⟩)|(refine(ziz HCL _ _ _ _ _ _ ‹_›).mono ?_;rintro e w' ⟨v,rfl,hat⟩))|(go_at_call 38;refine(HCL _ _ _ _ _ _ _ _ ‹_› zev zeu).mono ?_;rintro e w' ⟨v,rfl,hat⟩)|(go_at_call 36;refine(zgU ‹_› zeu).mono ?_;rintro e w' ⟨v,rfl,hat⟩)|(go_at_call 51;first|(refine((ih _ ?hk).type _ _ _ _ _ ‹_› ‹_›).mono ?_;(case hk=>omega);rintro e w' ⟨v,rfl,hat⟩)|(refine(zgo HCL _ _ _ _ _ _ ‹_›).mono ?_;rintro e w' ⟨v,rfl,hat⟩))|(go_at_call 95;first|(with_reducible refine(zfC ‹_› ?hc).mono ?_;(case hc=>simp [Res.comes, *]);rintro e w' ⟨rfl,hat⟩)|(with_reducible refine(zfz ‹_› ?hc).mono ?_;(case hc=>simp [Res.comes, *]);rintro e w' ⟨rfl,hat⟩)|(with_reducible refine(zkl ‹_› ?hc).mono ?_;(case hc=>simp [Res.comes, *]);rintro e w' ⟨rfl,hat⟩)|(with_reducible refine(zjt ‹_› ?hc).mono ?_;(case hc=>simp [Res.comes, *]);rintro e w' ⟨rfl,hat⟩))|(go_at_call 61;first|(refine(zfS ‹_›).mono ?_;rintro e w' ⟨rfl,rfl⟩)|(refine(zfQ ‹_›).mono ?_;rintro e w' ⟨⟨v,_,rfl⟩,rfl⟩))|(go_at_call 63;refine(zhe ‹_›).mono ?_;rintro e w' ⟨rfl,hat⟩)|(go_at_call 37;refine(zfP _ _ _ _ _ _ _ _ ‹_› zev zez zeu).mono ?_;rintro e w' ⟨v,rfl,hat⟩)|(go_at_call 119;refine(ziv (n:=m+1) zdC (fun j hj=>ih j zdC) _ _ _ _ _ _ ‹_› h1 hv).mono ?_;rintro e w' ⟨c,rfl,hat,hct⟩;have hd:=hct rfl;rw[e26] at hd))
      all_goals exact zar
theorem zkF:∀ (C:Kc) (w:World) (b:Nat) (d0 d1 d2:Int),Hid (CAt C w b (.fail d0 d1 d2))→Calls Tryz.prog 82 #[.pointer (some ⟨b,0,none⟩)] w (CPost C b (.fail d0 d1 d2)):=by
 intro C w b d0 d1 d2 hat
 go_enter Tryz.func82,Tryz.ntmps82
 exact zab
theorem zpr {n:Nat} (hn:n≤1099511627776) (ih:∀ k,k≤n→AllC k):P0 82 (n+1) .group:=by
 have _:=ih
 intro C w b x y hat hy
 have hy:=hy.out
 cases x with
 |fail d0 d1 d2=>
  rw[zfB] at hy
  obtain rfl:=Option.some.inj hy
  exact zkF _ _ _ _ _ _ hat
 |ok s=>
  have hlo:C.low≤s.R.length:=zgs hat
  rw[run] at hy
  try dsimp only at hy
  rw[zfu] at hy
  obtain⟨y0,hy0,hy⟩:=hy
  rw[zfu] at hy
  obtain⟨y1,hy1,hy⟩:=hy
  rw[zfu] at hy
  obtain⟨z,hz,hy⟩:=hy
  have hcase:∃ u,Hid ((if z.kind=26 then(run n .unionL z >>= fun v=>rClose y1.len 229 v) else if y1.kind=51 then rClose y1.len 229 z else some z)=some u)∧Hid (rClose s.R.length 233 u=some y):=by
   split at hy
   ·rename_i h26
    obtain⟨v,hv,hy⟩:=bind_some hy
    obtain⟨u,hu,hy⟩:=bind_some hy
    exact⟨u,Lib.hid (by rw[if_pos h26,hv.out];exact hu.out),Lib.hid hy⟩
   ·rename_i h26
    split at hy
    ·rename_i h51
     obtain⟨u,hu,hy⟩:=bind_some hy
     exact⟨u,Lib.hid (by rw[if_neg h26,if_pos h51];exact hu.out),Lib.hid hy⟩
    ·rename_i h51
     exact⟨z,Lib.hid (by rw[if_neg h26,if_neg h51]),Lib.hid hy⟩
  clear hy
  obtain⟨u,hu,hy⟩:=hcase
  all_goals go_enter Tryz.func82,Tryz.ntmps82
  all_goals exact zac
open Go.RowKit
def rTl (k:Nat) (x:Res):Option Res:=if x.kind=60 then(rTake x >>= fun z=>if z.kind=63 then some z else run k .tpL z) else some x
def Mt (C:Kc) (b:Nat) (y:Res) (w:World) (k:Nat):Prop:=∃ x,Hid (CAt C w b x)∧Hid (rTl k x=some y)
noncomputable def mtOf (C:Kc) (b:Nat) (y:Res) (w:World):Nat:=least (Mt C b y w)
theorem Mt.out {C:Kc} {b k:Nat} {y:Res} {w:World} (h:Mt C b y w k):Mt C b y w (mtOf C b y w)∧mtOf C b y w≤k:=zgc h
open Go.RowKit
open Go.RowKit
theorem zjJ {C:Kc} {w:World} {b:Nat} {s:St} {t:Tree} {hd r:Bool} (h:Hid (CAt C w b (.ok s))) (hl:Hid (s.R.getLast? = some t)) (hW:Hid (Wk t)) (hr:Hid (literalT t hd=r)):Calls Tryz.prog 157 #[.pointer (some ⟨b,0,none⟩),.bool hd] w fun e w'=>e=.returned (.bool r)∧Hid (CAt C w' b (.ok s)):=by
 rw[← hr.out];exact zsM h hl.out hW.out
def Mr (C:Kc) (b:Nat) (y:Res) (h:Bool) (m:Nat) (w:World) (k:Nat):Prop:=∃ x,Hid (CAt C w b x)∧Hid (run k (.primL h m) x=some y)∧Hid (∀ s,x=.ok s→Pr m s)
noncomputable def mrOf (C:Kc) (b:Nat) (y:Res) (h:Bool) (m:Nat) (w:World):Nat:=least (Mr C b y h m w)
theorem Mr.out {C:Kc} {b k m:Nat} {y:Res} {h:Bool} {w:World} (hr:Mr C b y h m w k):Mr C b y h m w (mrOf C b y h m w)∧mrOf C b y h m w≤k:=zgc hr
theorem Mr.less {C:Kc} {b k m:Nat} {x y:Res} {h:Bool} {w w0:World} (h1:Hid (CAt C w b x)) (h2:Hid (run k (.primL h m) x=some y)) (h3:Hid (∀ s,x=.ok s→Pr m s)) (hq:mrOf C b y h m w0=k+1):mrOf C b y h m w<mrOf C b y h m w0:=by
 have h4:=(Mr.out ⟨x,h1,h2,h3⟩).2
 omega
theorem zrn {n:Nat} (ih:∀ k,k≤n→AllC k):PB 137 (n+1) .primary:=by
 intro C w b x y h hat hy
 have hy:=hy.out
 cases x with
 |fail d0 d1 d2=>
  rw[zfB] at hy
  obtain rfl:=Option.some.inj hy
  exact ziN _ _ _ _ _ _ _ hat
 |ok s=>
  have hlo:C.low≤s.R.length:=zgs hat
  rw[run] at hy
  rw[zfu] at hy
  obtain⟨z1,hz1,hy⟩:=hy
  replace hy:=Lib.hid hy
  go_enter Tryz.func137,Tryz.ntmps137
  go_wp2_with (first|(go_at_call 61;first|(refine(zfS ‹_›).mono ?_;rintro e w' ⟨rfl,rfl⟩)|(refine(zfQ ‹_›).mono ?_;rintro e w' ⟨⟨v,_,rfl⟩,rfl⟩))|(go_at_call 153;first|(refine((ih _ ?hk).operand _ _ _ _ _ ‹_› ‹_›).mono ?_;(case hk=>omega);rintro e w' ⟨v,rfl,hat⟩)|(refine(zgm _ _ _ _ _ _ ‹_›).mono ?_;rintro e w' ⟨v,rfl,hat⟩))|(go_at_call 57;first|(refine(zfI ‹_› ‹_›).mono ?_;rintro e w' ⟨rfl,hat⟩)|(refine(zfH ‹_›).mono ?_;rintro e w' ⟨rfl,hat⟩)))
  go_step3
  go_wp2_with (first|(go_at_call 61;first|(refine(zfS ‹_›).mono ?_;rintro e w' ⟨rfl,rfl⟩)|(refine(zfQ ‹_›).mono ?_;rintro e w' ⟨⟨v,_,rfl⟩,rfl⟩))|(go_at_call 153;first|(refine((ih _ ?hk).operand _ _ _ _ _ ‹_› ‹_›).mono ?_;(case hk=>omega);rintro e w' ⟨v,rfl,hat⟩)|(refine(zgm _ _ _ _ _ _ ‹_›).mono ?_;rintro e w' ⟨v,rfl,hat⟩))|(go_at_call 57;first|(refine(zfI ‹_› ‹_›).mono ?_;rintro e w' ⟨rfl,hat⟩)|(refine(zfH ‹_›).mono ?_;rintro e w' ⟨rfl,hat⟩)))
  go_step3
  go_wp2_with (first|(go_at_call 61;first|(refine(zfS ‹_›).mono ?_;rintro e w' ⟨rfl,rfl⟩)|(refine(zfQ ‹_›).mono ?_;rintro e w' ⟨⟨v,_,rfl⟩,rfl⟩))|(go_at_call 153;first|(refine((ih _ ?hk).operand _ _ _ _ _ ‹_› ‹_›).mono ?_;(case hk=>omega);rintro e w' ⟨v,rfl,hat⟩)|(refine(zgm _ _ _ _ _ _ ‹_›).mono ?_;rintro e w' ⟨v,rfl,hat⟩))|(go_at_call 57;first|(refine(zfI ‹_› ‹_›).mono ?_;rintro e w' ⟨rfl,hat⟩)|(refine(zfH ‹_›).mono ?_;rintro e w' ⟨rfl,hat⟩)))
  go_loopw [] (fun wr=>∃ k,k≤n∧Mr C b y h s.R.length wr k) (fun wr=>mrOf C b y h s.R.length wr)
  case atStart=>exact⟨n,Nat.le_refl _,z1,by assumption,by assumption,Lib.hid (fun s2 e=>by subst e;exact zrV hz1.out)⟩
  case round=>
   clear hat hy hz1
   obtain⟨k0,hk0n,hmr⟩:=hrel
   obtain⟨⟨x',hat',hr,hpx⟩,hle⟩:=hmr.out
   obtain⟨q,hq⟩:∃ q,mrOf C b y h s.R.length wr=q:=⟨_,rfl⟩
   rw[hq] at hr hle
   clear hmr
   cases x' with
   |fail d0 d1 d2=>
    have hk0:(Res.fail d0 d1 d2).kind=0:=rfl
    have e:=hr.out
    rw[zfB] at e
    obtain rfl:=Option.some.inj e
    clear hr
    go_wp2_with (first|(go_at_call 61;first|(refine(zfS ‹_›).mono ?_;rintro e w' ⟨rfl,rfl⟩)|(refine(zfQ ‹_›).mono ?_;rintro e w' ⟨⟨v,_,rfl⟩,rfl⟩))|(go_at_call 153;first|(refine((ih _ ?hk).operand _ _ _ _ _ ‹_› ‹_›).mono ?_;(case hk=>omega);rintro e w' ⟨v,rfl,hat⟩)|(refine(zgm _ _ _ _ _ _ ‹_›).mono ?_;rintro e w' ⟨v,rfl,hat⟩))|(go_at_call 57;first|(refine(zfI ‹_› ‹_›).mono ?_;rintro e w' ⟨rfl,hat⟩)|(refine(zfH ‹_›).mono ?_;rintro e w' ⟨rfl,hat⟩))|(go_at_call 154;first|(refine((ih _ ?hk).period _ _ _ _ _ _ _ ‹_› zev zeY ‹_›).mono ?_;(case hk=>omega);rintro e w' ⟨v,rfl,hat⟩))|(go_at_call 155;first|(refine((ih _ ?hk).index _ _ _ _ _ _ _ ‹_› zev zeY ‹_›).mono ?_;(case hk=>omega);rintro e w' ⟨v,rfl,hat⟩))|(go_at_call 156;first|(refine((ih _ ?hk).call _ _ _ _ _ _ _ ‹_› zev zeY ‹_›).mono ?_;(case hk=>omega);rintro e w' ⟨v,rfl,hat⟩))|(go_at_call 158;refine((ih _ ?hk).values _ _ _ _ _ _ _ _ _ ‹_› zev zez ‹_› ‹_›).mono ?_;(case hk=>omega);rintro e w' ⟨v,rfl,hat⟩)|(go_at_call 157;refine(zjJ ‹_› hgl hgw hlit).mono ?_;rintro e w' ⟨rfl,hat⟩))
    all_goals(try rw[Exit.noGoto_ret])
    all_goals exact zar
   |ok s'=>
   have hpr:Hid (Pr s.R.length s'):=Lib.hid (hpx.out s' rfl)
   obtain⟨k,rfl⟩:=zhs hr.out
   have hy':=hr.out
   clear hr hpx
   rw[run] at hy'
   try dsimp only at hy'
   by_cases h61:(Res.ok s').kind=61
   ·rw[if_pos h61,zfu] at hy'
    obtain⟨z1,hz1,hy'⟩:=hy'
    have HP:Hid (∀ s2,z1=.ok s2→Pr s.R.length s2):=Lib.hid (fun s2 e=>by subst e;exact zsI hpr.out hz1.out)
    exact zaz
   rw[if_neg h61] at hy'
   have e61:((Res.ok s').kind == 61)=false:=beq_eq_false_iff_ne.2 h61
   by_cases h58:(Res.ok s').kind=58
   ·rw[if_pos h58,zfu] at hy'
    obtain⟨z1,hz1,hy'⟩:=hy'
    have HP:Hid (∀ s2,z1=.ok s2→Pr s.R.length s2):=Lib.hid (fun s2 e=>by subst e;exact zuD hpr.out hz1.out)
    exact zaz
   rw[if_neg h58] at hy'
   have e58:((Res.ok s').kind == 58)=false:=beq_eq_false_iff_ne.2 h58
   by_cases h57:(Res.ok s').kind=57
   ·rw[if_pos h57,zfu] at hy'
    obtain⟨z1,hz1,hy'⟩:=hy'
    have HP:Hid (∀ s2,z1=.ok s2→Pr s.R.length s2):=Lib.hid (fun s2 e=>by subst e;exact zwQ hpr.out hz1.out)
    exact zaz
   rw[if_neg h57] at hy'
   have e57:((Res.ok s').kind == 57)=false:=beq_eq_false_iff_ne.2 h57
   by_cases h59:(Res.ok s').kind=59
   ·have hgl:Hid (s'.R.getLast? = some (headT (s'.R.drop s.R.length))):=Lib.hid hpr.out.head.1
    have hgw:Hid (Wk (headT (s'.R.drop s.R.length))):=Lib.hid hpr.out.head.2
    have hlt:(Res.ok s').lit s.R.length h=literalT (headT (s'.R.drop s.R.length)) h:=rfl
    rw[hlt] at hy'
    obtain⟨lt,hl2⟩:∃ lt,literalT (headT (s'.R.drop s.R.length)) h=lt:=⟨_,rfl⟩
    rw[hl2] at hy'
    have hlit:=Lib.hid hl2
    clear hlt hl2
    cases lt with
    |true=>
     rw[if_pos ⟨h59,rfl⟩,zfu] at hy'
     obtain⟨z2,hz2,hy'⟩:=hy'
     rw[zfu] at hy'
     obtain⟨z3,hz3,hy'⟩:=hy'
     have HP:Hid (∀ s2,z3=.ok s2→Pr s.R.length s2):=Lib.hid (fun s2 e=>by subst e;exact zwF hpr.out hz2.out hz3.out)
     exact zaz
    |false=>
     rw[if_neg (fun h=>by cases h.2)] at hy'
     obtain rfl:=Option.some.inj hy'
     clear hy'
     go_wp2_with (first|(go_at_call 61;first|(refine(zfS ‹_›).mono ?_;rintro e w' ⟨rfl,rfl⟩)|(refine(zfQ ‹_›).mono ?_;rintro e w' ⟨⟨v,_,rfl⟩,rfl⟩))|(go_at_call 153;first|(refine((ih _ ?hk).operand _ _ _ _ _ ‹_› ‹_›).mono ?_;(case hk=>omega);rintro e w' ⟨v,rfl,hat⟩)|(refine(zgm _ _ _ _ _ _ ‹_›).mono ?_;rintro e w' ⟨v,rfl,hat⟩))|(go_at_call 57;first|(refine(zfI ‹_› ‹_›).mono ?_;rintro e w' ⟨rfl,hat⟩)|(refine(zfH ‹_›).mono ?_;rintro e w' ⟨rfl,hat⟩))|(go_at_call 154;first|(refine((ih _ ?hk).period _ _ _ _ _ _ _ ‹_› zev zeY ‹_›).mono ?_;(case hk=>omega);rintro e w' ⟨v,rfl,hat⟩))|(go_at_call 155;first|(refine((ih _ ?hk).index _ _ _ _ _ _ _ ‹_› zev zeY ‹_›).mono ?_;(case hk=>omega);rintro e w' ⟨v,rfl,hat⟩))|(go_at_call 156;first|(refine((ih _ ?hk).call _ _ _ _ _ _ _ ‹_› zev zeY ‹_›).mono ?_;(case hk=>omega);rintro e w' ⟨v,rfl,hat⟩))|(go_at_call 158;refine((ih _ ?hk).values _ _ _ _ _ _ _ _ _ ‹_› zev zez ‹_› ‹_›).mono ?_;(case hk=>omega);rintro e w' ⟨v,rfl,hat⟩)|(go_at_call 157;refine(zjJ ‹_› hgl hgw hlit).mono ?_;rintro e w' ⟨rfl,hat⟩))
     all_goals(try rw[Exit.noGoto_ret])
     all_goals exact zar
   ·rw[if_neg (fun h=>h59 h.1)] at hy'
    have e59:((Res.ok s').kind == 59)=false:=beq_eq_false_iff_ne.2 h59
    obtain rfl:=Option.some.inj hy'
    clear hy'
    go_wp2_with (first|(go_at_call 61;first|(refine(zfS ‹_›).mono ?_;rintro e w' ⟨rfl,rfl⟩)|(refine(zfQ ‹_›).mono ?_;rintro e w' ⟨⟨v,_,rfl⟩,rfl⟩))|(go_at_call 153;first|(refine((ih _ ?hk).operand _ _ _ _ _ ‹_› ‹_›).mono ?_;(case hk=>omega);rintro e w' ⟨v,rfl,hat⟩)|(refine(zgm _ _ _ _ _ _ ‹_›).mono ?_;rintro e w' ⟨v,rfl,hat⟩))|(go_at_call 57;first|(refine(zfI ‹_› ‹_›).mono ?_;rintro e w' ⟨rfl,hat⟩)|(refine(zfH ‹_›).mono ?_;rintro e w' ⟨rfl,hat⟩))|(go_at_call 154;first|(refine((ih _ ?hk).period _ _ _ _ _ _ _ ‹_› zev zeY ‹_›).mono ?_;(case hk=>omega);rintro e w' ⟨v,rfl,hat⟩))|(go_at_call 155;first|(refine((ih _ ?hk).index _ _ _ _ _ _ _ ‹_› zev zeY ‹_›).mono ?_;(case hk=>omega);rintro e w' ⟨v,rfl,hat⟩))|(go_at_call 156;first|(refine((ih _ ?hk).call _ _ _ _ _ _ _ ‹_› zev zeY ‹_›).mono ?_;(case hk=>omega);rintro e w' ⟨v,rfl,hat⟩))|(go_at_call 158;refine((ih _ ?hk).values _ _ _ _ _ _ _ _ _ ‹_› zev zez ‹_› ‹_›).mono ?_;(case hk=>omega);rintro e w' ⟨v,rfl,hat⟩)|(go_at_call 157;refine(zjJ ‹_› hgl hgw hlit).mono ?_;rintro e w' ⟨rfl,hat⟩))
    all_goals(try rw[Exit.noGoto_ret])
    all_goals exact zar
open Go.RowKit
theorem ziF {p:Pc} {s:St} {y:Res} (h:Hid (run 0 p (.ok s)=some y)):False:=by
 have:=h.out
 unfold run at this
 simp at this
theorem zka {n:Nat} {p:Pc} {a b c:Int} {y:Res} (h:Hid (run n p (.fail a b c)=some y)):y=.fail a b c:=by
 have:=h.out
 rw[zfB] at this
 exact(Option.some.inj this).symm
theorem zhv {f:Nat} {p:Pc} (h:∀ (C:Kc) (w:World) (b:Nat) (d0 d1 d2:Int),Hid (CAt C w b (.fail d0 d1 d2))→Calls Tryz.prog f #[.pointer (some ⟨b,0,none⟩)] w (CPost C b (.fail d0 d1 d2))):P0 f 0 p:=by
 intro C w b x y hat hy
 cases x with
 |ok s=>exact(ziF hy).elim
 |fail d0 d1 d2=>obtain rfl:=zka hy;exact h _ _ _ _ _ _ hat
theorem zmN {f:Nat} {p:Bool→Pc} (h:∀ (C:Kc) (w:World) (b:Nat) (d0 d1 d2:Int) (hd:Bool),Hid (CAt C w b (.fail d0 d1 d2))→Calls Tryz.prog f #[.pointer (some ⟨b,0,none⟩),.bool hd] w (CPost C b (.fail d0 d1 d2))):PB f 0 p:=by
 intro C w b x y hd hat hy
 exact zdi
theorem zlb {f:Nat} {p:Nat→Pc} (h:∀ (C:Kc) (w:World) (b:Nat) (d0 d1 d2:Int) (m:Int),Hid (CAt C w b (.fail d0 d1 d2))→Calls Tryz.prog f #[.pointer (some ⟨b,0,none⟩),.int .i64 m] w (CPost C b (.fail d0 d1 d2))):PM f 0 p:=by
 intro C w b x y m m' hat hm hlw hy
 exact zdi
theorem ztr:AllC 0 where
 X:=zmN cX_f
 unary:=zmN zhk
 primary:=zmN ziN
 binary:=by
  intro C w b x y p h hat hy
  cases x with
  |ok s=>exact(ziF hy).elim
  |fail d0 d1 d2=>obtain rfl:=zka hy;exact zhD _ _ _ _ _ _ _ _ hat
 period:=zlb zpC
 index:=zlb zur
 cut:=zlb zwV
 call:=zlb zwk
 value:=zhv zki
 operand:=zhv zgm
 flat:=zhv zwq
 type:=zhv zij
 field:=zhv zuM
 element:=zhv zrM
 term:=zhv zrd
 sig:=zhv (zoA zjD)
 params:=zhv zjD
 group:=zhv zkF
 values:=by
  intro C w b x z y m m' k hat hm hlw hz hy
  cases x with
  |ok s=>exact(ziF hz).elim
  |fail d0 d1 d2=>
   obtain rfl:=zka hz
   obtain rfl:=Option.some.inj (show some (Res.fail d0 d1 d2)=some y from hy.out)
   exact zuc _ _ _ _ _ _ _ _ hat
 array:=by
  intro C w b s y hat hy
  exact(ziF hy).elim
theorem zud (n:Nat) (hn:n≤1099511627776) (ih:∀ k,k≤n→AllC k):AllC (n+1) where
 X:=cX_s ih
 unary:=zvd ih
 primary:=zrn ih
 binary:=ztP ih
 period:=zoM ih
 index:=zvJ ih
 cut:=zwW ih
 call:=zwd ih
 value:=zum ih
 operand:=zrK ih
 flat:=zwI ih hn
 type:=zwm ih
 field:=zvf hn ih
 element:=zsc hn ih
 term:=zvZ ih
 sig:=zxe zjD ih
 params:=ztq hn ih
 group:=zpr hn ih
 values:=ztw ih
 array:=zpU ih
theorem zvK:∀ n,n≤1099511627776→AllC n:=by
 intro n
 induction n using Nat.strongRecOn with
 |_ n ih=>
  intro hn
  cases n with
  |zero=>exact ztr
  |succ n=>exact zud n zdC (fun k hk=>ih k zdC zdC)
open Go.RowKit
theorem zgM {w:World} {X:Nat} {x0 x1 x2 x3:Value} {e:TypeId} (h:w.heap[X]? = some (.cells #[x0,x1,x2,x3] e (0,0))):(w.cell? ⟨X,0,none⟩=some x0∧w.cell? ⟨X,1,none⟩=some x1∧w.cell? ⟨X,2,none⟩=some x2∧w.cell? ⟨X,3,none⟩=some x3)∧∀ j,w.frozen? ⟨X,j,none⟩=false:=
 ⟨⟨by rw[cell_of_row w X 0 _ _ _ h];rfl,by rw[cell_of_row w X 1 _ _ _ h];rfl,by rw[cell_of_row w X 2 _ _ _ h];rfl,by rw[cell_of_row w X 3 _ _ _ h];rfl⟩,fun j=>frozen_of_row w X j _ _ h⟩
def CopT (t:Tree):Prop:=∀ (w:World) (D:Nat→Prop) (n:Rn),Tie w D t n→OfNodes w D→Calls Tryz.prog 66 #[n.v] w fun e w'=>∃ (n':Rn) (D':Nat→Prop),e=.returned n'.v∧Below w.heap.size w w'∧Tie w' D' t n'∧∀ g,D' g→w.heap.size≤g∧∃ cur fz,w'.heap[g]? = some (.cells cur nd.e fz)
theorem OfNodes.lt {w:World} {D:Nat→Prop} (h:OfNodes w D) (g:Nat) (hg:D g):g<w.heap.size:=by
 obtain⟨cur,fz,h1⟩:=h g hg
 exact(Array.getElem?_eq_some_iff.1 h1).1
theorem OfNodes.below {w w':World} {D:Nat→Prop} (h:OfNodes w D) (hb:Below w.heap.size w w'):OfNodes w' D:=fun g hg=>by
 obtain⟨cur,fz,h1⟩:=h g hg
 exact⟨cur,fz,(hb.block g (h.lt g hg)).trans h1⟩
theorem Ties.below {w w':World} {D:Nat→Prop} {l:List Tree} {R:List Rn} (h:Ties w D l R) (hD:OfNodes w D) (hb:Below w.heap.size w w'):Ties w' D l R:=Ties.keep (fun g hg=>hb.block g (hD.lt g hg)) (fun _ h=>h) l R h
theorem Tie.below {w w':World} {D:Nat→Prop} {t:Tree} {n:Rn} (h:Tie w D t n) (hD:OfNodes w D) (hb:Below w.heap.size w w'):Tie w' D t n:=Tie.keep (fun g hg=>hb.block g (hD.lt g hg)) (fun _ h=>h) t n h
structure Cp (w wr:World) (X g cap:Nat) (k i j:Int) (l:List Tree) (R:List Rn) (q:Nat) (R':List Rn) (D':Nat→Prop):Prop where
 base:w.heap.size=X
 below:Below w.heap.size w wr
 x0:wr.heap[X]? = some (.cells #[.int .i64 k,.int .i64 i,.int .i64 j,.slice (some ⟨g,0,none⟩) R.length cap] 43 (0,0))
 x1:wr.heap[X+1]? = some (.cells #[.int .i64 0,.int .i64 0,.int .i64 0,.slice none 0 0] 43 (0,0))
 row:Mine nd wr (X+2) (.slice (some ⟨g,0,none⟩) R.length cap) (R' ++ R.drop q)
 len:R'.length=q
 ties:Ties wr D' (l.take q) R'
 dead:∀ h,D' h→X+2≤h∧h≠g∧∃ cur fz,wr.heap[h]? = some (.cells cur nd.e fz)
theorem Cp.more {w wr wr':World} {X g cap q:Nat} {k i j:Int} {l:List Tree} {R R':List Rn} {D':Nat→Prop} (h:Cp w wr X g cap k i j l R q R' D') (hb:Below wr.heap.size wr wr'):Cp w wr' X g cap k i j l R q R' D':=by
 have hlt:∀ k o,wr.heap[k]? = some o→wr'.heap[k]? = some o:=fun k o hk=>(hb.block k (Array.getElem?_eq_some_iff.1 hk).1).trans hk
 refine⟨h.base,h.below.trans (hb.mono h.below.size),hlt _ _ h.x0,hlt _ _ h.x1,h.row.below hb,h.len,Ties.keep (fun g hg=>?_) (fun _ h=>h) _ _ h.ties,fun g hg=>?_⟩
 ·obtain⟨_,_,cur,fz,hc⟩:=h.dead g hg
  exact hb.block g (Array.getElem?_eq_some_iff.1 hc).1
 ·obtain⟨a,b,cur,fz,hc⟩:=h.dead g hg
  exact⟨a,b,cur,fz,hlt _ _ hc⟩
theorem Cp.put {w wr w2:World} {X g cap q:Nat} {k i j:Int} {l:List Tree} {R R':List Rn} {D' D2:Nat→Prop} {n:Rn} (h:Cp w wr X g cap k i j l R q R' D') (hb:Below wr.heap.size wr w2) (hq:q<R.length) (hl:q<l.length) (hT:Tie w2 D2 l[q] n) (hD2:∀ g,D2 g→wr.heap.size≤g∧∃ cur fz,w2.heap[g]? = some (.cells cur nd.e fz)) :
  Cp w ((((w2.setCell ⟨g,q*4,none⟩ (.int .i64 n.k)).setCell ⟨g,q*4+1,none⟩ (.int .i64 n.i)).setCell ⟨g,q*4+2,none⟩ (.int .i64 n.j)).setCell ⟨g,q*4+3,none⟩ (.slice n.o n.n n.c)) X g cap k i j l R (q+1) (R' ++ [n]) (fun h=>D' h∨D2 h):=by
 have h2:=h.more hb
 have hgw:X+2≤g∧g<wr.heap.size:=World.ownsRow.lt h.row g rfl
 have hX1:=(Array.getElem?_eq_some_iff.1 h.x1).1
 have hs:∀ k,k≠g→((((w2.setCell ⟨g,q*4,none⟩ (.int .i64 n.k)).setCell ⟨g,q*4+1,none⟩ (.int .i64 n.i)).setCell ⟨g,q*4+2,none⟩ (.int .i64 n.j)).setCell ⟨g,q*4+3,none⟩ (.slice n.o n.n n.c)).heap[k]? = w2.heap[k]?:=fun k hk=>by
  exact zct
 have hb2:=h2.below
 have hlen:(R' ++ R.drop q).length=R.length:=by rw[List.length_append,h.len,List.length_drop];omega
 have hbase:=h.base
 have hle:=h.len
 refine⟨hbase,⟨hb2.os,hb2.tape,hb2.output,by rw[zfA,zfA,zfA,zfA];exact hb2.size,fun k hk=>(hs k ?_).trans (hb2.block k hk)⟩,(hs X zdC).trans h2.x0,(hs (X+1) zdC).trans h2.x1,?_,by rw[List.length_append,h.len];rfl,?_,fun h' hd=>?_⟩
 ·omega
 ·have:=h2.row.put_nd hlen q (by rw[hlen];exact hq) n
  have e:(R' ++ R.drop q).set q n=(R' ++ [n]) ++ R.drop (q+1):=by
   rw[List.drop_eq_getElem_cons hq,List.set_append_right _ _ zdC,hle,Nat.sub_self,List.set_cons_zero,List.append_assoc]
   rfl
  rw[e] at this
  exact this
 ·rw[List.take_add_one,List.getElem?_eq_getElem hl]
  refine Ties.append (Ties.keep (fun g' hg'=>hs g' (h.dead g' hg').2.1) (fun _ h=>.inl h) _ _ h2.ties) (Ties.cons (Tie.keep (fun g' hg'=>hs g' ?_) (fun _ h=>.inr h) _ _ hT) Ties.nil)
  have:=(hD2 g' hg').1
  omega
 ·rcases hd with hd|hd
  ·obtain⟨a,b,cur,fz,hc⟩:=h2.dead h' hd
   exact⟨a,b,cur,fz,(hs h' b).trans hc⟩
  ·obtain⟨a,cur,fz,hc⟩:=hD2 h' hd
   exact⟨by omega,by omega,cur,fz,(hs h' zdC).trans hc⟩
open Go.RowKit
theorem zsJ (w:World) (k i j:Int) (o:Option Addr) (nn c:Nat):∃ W2,(w.alloc (.cells #[.int .i64 k,.int .i64 i,.int .i64 j,.slice o nn c] 43)).alloc (.cells #[.int .i64 0,.int .i64 0,.int .i64 0,.slice none 0 0] 43)=W2∧W2.heap[w.heap.size]? = some (.cells #[.int .i64 k,.int .i64 i,.int .i64 j,.slice o nn c] 43 (0,0))∧W2.heap[w.heap.size+1]? = some (.cells #[.int .i64 0,.int .i64 0,.int .i64 0,.slice none 0 0] 43 (0,0))∧W2.heap.size=w.heap.size+2∧Below w.heap.size w W2:=by
 have z1:(w.alloc (.cells #[.int .i64 k,.int .i64 i,.int .i64 j,.slice o nn c] 43)).heap.size=w.heap.size+1:=World.size_alloc _ _
 have b1:Below w.heap.size w (w.alloc (.cells #[.int .i64 k,.int .i64 i,.int .i64 j,.slice o nn c] 43)):=(Below.refl _ _).alloc (Nat.le_refl _) _
 have a1:=heap_alloc_last w (.cells #[.int .i64 k,.int .i64 i,.int .i64 j,.slice o nn c] 43)
 generalize w.alloc (.cells #[.int .i64 k,.int .i64 i,.int .i64 j,.slice o nn c] 43)=W1 at *
 have a2:=heap_alloc_last W1 (.cells #[.int .i64 0,.int .i64 0,.int .i64 0,.slice none 0 0] 43)
 rw[z1] at a2
 exact⟨_,rfl,(heap_alloc_old W1 _ zdC).trans a1,a2,by rw[World.size_alloc,z1],b1.alloc b1.size _⟩
theorem zid {w:World} {D:Nat→Prop} {l:List Tree} {R:List Rn} (h:Ties w D l R) {i:Nat} (hi:i<l.length) (hi2:i<R.length):Tie w D l[i] R[i]:=by
 induction l generalizing R i with
 |nil=>simp at hi
 |cons t l ih=>
  exact zcP
theorem zqj (k i j:Int) (l:List Tree) (ih:∀ t∈l,CopT t):CopT (.mk k i j l):=by
 intro w D n hT hD
 obtain⟨k',i',j',o,nn,c⟩:=n
 have hT0:=hT
 rw[Tie] at hT0
 obtain⟨rfl,rfl,rfl,hnn,g0,off0,R,⟨hc,hl⟩,ho,hcell,hties⟩:=hT0
 simp only[] at hnn hc ho
 have hlR:R.length=l.length:=hties.length
 rw[← hlR] at hnn
 subst hnn
 have hrow:Row nd w (.slice o R.length c) R:=⟨g0,off0,o,c,hc,rfl,fun hne=>(ho (fun e=>hne (List.eq_nil_of_length_eq_zero (by rw[hlR,e];rfl)))).1,hcell⟩
 obtain⟨W2,hW2,hx0,hx1,hz2,hB2⟩:=zsJ w k' i' j' o R.length c
 have HCL:=Lib.hid (zsg (hrow.below hB2) zdC)
 have HTI:=Lib.hid (And.intro hties hD)
 have HLR:=Lib.hid hlR
 have HIH:=Lib.hid ih
 have HB2:=Lib.hid hB2
 have HX:=Lib.hid (And.intro hx0 (And.intro hx1 hz2))
 have HW2:=Lib.hid hW2
 have hlen:R.length≤1099511627776:=by omega
 obtain⟨len,hle⟩:∃ len,R.length=len:=⟨_,rfl⟩
 have HLE:=Lib.hid hle
 rw[hle] at HCL hlen HX HW2
 show Calls Tryz.prog 66 #[.agg #[.int .i64 k',.int .i64 i',.int .i64 j',.slice o R.length c]] w _
 rw[hle]
 clear hT hties hD hrow hx0 hx1 hz2 hB2 hW2 ih hcell ho hlR hle
 go_enter Tryz.func66,Tryz.ntmps66
 go_wp2_with fail
 rw[HW2.out]
 go_at_call 109
 refine HCL.out.mono ?_
 rintro e w3 ⟨v3,rfl,hm3,hb3⟩
 obtain⟨g3,o3,c3,rfl,ho3,_⟩:=hm3.shape
 have h30:=(hb3.block w.heap.size (by rw[HX.out.2.2];omega)).trans HX.out.1
 have h31:=(hb3.block (w.heap.size+1) (by rw[HX.out.2.2];omega)).trans HX.out.2.1
 obtain⟨X,hX⟩:∃ X,w.heap.size=X:=⟨_,rfl⟩
 rw[hX] at h30 h31
 obtain⟨⟨p0,p1,p2,p3⟩,fp⟩:=zgM h30
 have fp3:=fp 3
 have q0:X<w3.heap.size:=(Array.getElem?_eq_some_iff.1 h30).1
 have HM3:=Lib.hid (And.intro hm3 (And.intro hb3 ho3))
 have H3:=Lib.hid (And.intro h30 h31)
 have HXX:=Lib.hid hX
 clear hm3 hb3 ho3 h30 h31 fp
 rcases Classical.em (R=[]) with hR|hR
 ·subst hR
  have hl0:l=[]:=List.eq_nil_of_length_eq_zero HLR.out.symm
  subst hl0
  obtain⟨hm3,hb3,_⟩:=HM3.out
  have hb:=HB2.out.trans (hb3.mono HB2.out.size)
  obtain⟨W4,hW4⟩:∃ W4,w3.setCell ⟨X,3,none⟩ (.slice o3 0 c3)=W4:=⟨_,rfl⟩
  have h40:W4.heap[X]? = some (.cells #[.int .i64 k',.int .i64 i',.int .i64 j',.slice o3 0 c3] 43 (0,0)):=by rw[← hW4];exact heap_setCell_same _ X 3 _ _ _ H3.out.1
  have h41:W4.heap[X+1]? = some (.cells #[.int .i64 0,.int .i64 0,.int .i64 0,.slice none 0 0] 43 (0,0)):=by rw[← hW4];exact(zfy _ _ _ _ _ zdC).trans H3.out.2
  have hb4:Below w.heap.size w W4:=by
   have hx:=HXX.out
   rw[← hW4]
   exact⟨hb.os,hb.tape,hb.output,by rw[zfA];exact hb.size,fun k hk=>(zfy _ _ _ _ _ zdC).trans (hb.block k hk)⟩
  have HW4:=Lib.hid hW4
  have H4:=Lib.hid (And.intro h40 (And.intro h41 hb4))
  clear hm3 hb3 hb hW4 h40 h41 hb4
  go_wp2_with fail
  rw[HW4.out]
  clear p0 p1 p2 p3 fp3 q0
  go_loopw [11] (fun pv wr=>pv=.int .i64 0∧wr=W4) (fun _ _=>0)
  case atStart=>exact⟨rfl,rfl⟩
  case round=>
   obtain⟨rfl,rfl⟩:=hrel
   obtain⟨h40,h41,hb4⟩:=H4.out
   obtain⟨⟨n0,n1,n2,n3⟩,_⟩:=zgM h40
   obtain⟨⟨m0,m1,m2,m3⟩,fm⟩:=zgM h41
   have f0:=fm 0
   have f1:=fm 1
   have f2:=fm 2
   have f3:=fm 3
   have hbox:((((wr.setCell ⟨X+1,0,none⟩ (.int .i64 k')).setCell ⟨X+1,1,none⟩ (.int .i64 i')).setCell ⟨X+1,2,none⟩ (.int .i64 j')).setCell ⟨X+1,3,none⟩ (.slice o3 0 c3)).heap[X+1]? = some (.cells #[.int .i64 k',.int .i64 i',.int .i64 j',.slice o3 0 c3] 43 (0,0)):=heap_setCell_same _ _ 3 _ _ _ (heap_setCell_same _ _ 2 _ _ _ (heap_setCell_same _ _ 1 _ _ _ (heap_setCell_same _ _ 0 _ _ _ h41)))
   have hs:∀ k,k≠X+1→((((wr.setCell ⟨X+1,0,none⟩ (.int .i64 k')).setCell ⟨X+1,1,none⟩ (.int .i64 i')).setCell ⟨X+1,2,none⟩ (.int .i64 j')).setCell ⟨X+1,3,none⟩ (.slice o3 0 c3)).heap[k]? = wr.heap[k]?:=fun k hk=>by
    exact zct
   have hz:((((wr.setCell ⟨X+1,0,none⟩ (.int .i64 k')).setCell ⟨X+1,1,none⟩ (.int .i64 i')).setCell ⟨X+1,2,none⟩ (.int .i64 j')).setCell ⟨X+1,3,none⟩ (.slice o3 0 c3)).heap.size=wr.heap.size:=by rw[zfA,zfA,zfA,zfA]
   have HH:=Lib.hid (And.intro hbox (And.intro hs hz))
   clear h40 h41 hb4 hbox hs hz fm
   go_wp2_with fail
   obtain⟨hbox,hs,hz⟩:=HH.out
   obtain⟨_,_,hb4⟩:=H4.out
   have hx:=HXX.out
   refine bodyPost_ret (v:=.agg #[.int .i64 k',.int .i64 i',.int .i64 j',.slice o3 0 c3]) (results_cell_row rfl _ _ (X+1) 43 _ (0,0) _ rfl hbox Tryz.underlying43 rfl (by as_aux_lemma=>kernel_rfl)) rfl ?_
   refine⟨⟨k',i',j',o3,0,c3⟩,fun _=>False,rfl,⟨hb4.os,hb4.tape,hb4.output,by rw[hz];exact hb4.size,fun k hk=>(hs k zdC).trans (hb4.block k hk)⟩,?_,fun h hd'=>hd'.elim⟩
   rw[Tie]
   exact⟨rfl,rfl,rfl,rfl,0,0,[],⟨Nat.zero_le _,by simp⟩,fun e=>absurd rfl e,fun z u hu=>by simp [flat] at hu,Ties.nil⟩
 ·obtain rfl:=HM3.out.2.2 hR
  have hst:Cp w (w3.setCell ⟨X,3,none⟩ (.slice (some ⟨g3,0,none⟩) R.length c3)) X g3 c3 k' i' j' l R 0 [] (fun _=>False):=by
   obtain⟨hm3,hb3,_⟩:=HM3.out
   have hz:=HX.out.2.2
   have hb:=HB2.out.trans (hb3.mono HB2.out.size)
   have hx:=HXX.out
   have hg:=World.ownsRow.lt hm3 g3 rfl
   refine⟨hx,⟨hb.os,hb.tape,hb.output,by rw[zfA];exact hb.size,fun k hk=>(zfy _ _ _ _ _ zdC).trans (hb.block k hk)⟩,heap_setCell_same _ X 3 _ _ _ H3.out.1,(zfy _ _ _ _ _ zdC).trans H3.out.2,?_,rfl,Ties.nil,fun h hd=>hd.elim⟩
   refine(hm3.mono zdC).keep (fun k hk _=>zfy _ _ _ _ _ ?_)
   simp only[Value.ownBlock,Option.some.injEq] at hk
   omega
  have HST:=Lib.hid hst
  clear hst
  go_wp2_with fail
  clear p0 p1 p2 p3 fp3 q0
  go_loopw [11] (fun pv wr=>∃ (q:Nat) (R':List Rn) (D':Nat→Prop),q≤R.length∧pv=.int .i64 (q:Int)∧Cp w wr X g3 c3 k' i' j' l R q R' D') (fun pv _=>R.length - (intOf pv).toNat)
  case atStart=>exact⟨0,[],_,Nat.zero_le _,rfl,HST.out⟩
  case round=>
   obtain⟨q,R',D',hql,rfl,hcp⟩:=hrel
   by_cases hlt:q<R.length
   ·have hqT:q<l.length:=by rw[← HLR.out];exact hlt
    obtain⟨⟨_,_,_,y3⟩,_⟩:=zgM hcp.x0
    have hbase:=hcp.base
    have hgl:=World.ownsRow.lt hcp.row g3 rfl
    have hXz:X<wr.heap.size:=(Array.getElem?_eq_some_iff.1 hcp.x0).1
    have hle:=hcp.len
    have hrow:=zgi hcp.row.cells q (by rw[List.length_append,List.length_drop];omega)
    have hget:(R' ++ R.drop q)[q]'(by rw[List.length_append,List.length_drop];omega)=R[q]:=by
     rw[List.getElem_append_right zdC]
     simp [hle]
    rw[hget] at hrow
    obtain⟨a0,a1,a2,a3⟩:=hrow
    simp only[Nat.zero_add] at a0 a1 a2 a3
    have HCALL:Hid (∀ u,Below wr.heap.size wr u→Calls Tryz.prog 66 #[R[q].v] u fun e w'=>∃ (n':Rn) (D':Nat→Prop),e=.returned n'.v∧Below u.heap.size u w'∧Tie w' D' l[q] n'∧∀ g,D' g→u.heap.size≤g∧∃ cur fz,w'.heap[g]? = some (.cells cur nd.e fz)):=Lib.hid (fun u hu=>by
     have hbu:Below w.heap.size w u:=hcp.below.trans (hu.mono hcp.below.size)
     exact HIH.out l[q] (List.getElem_mem hqT) u D R[q] ((zid HTI.out.1 hqT hlt).below HTI.out.2 hbu) (HTI.out.2.below hbu))
    obtain⟨⟨mk,mi,mj,mo,mn,mc⟩,hnode⟩:∃ n,R[q]=n:=⟨_,rfl⟩
    rw[hnode] at a0 a1 a2 a3 HCALL
    simp only[] at a0 a1 a2 a3
    rw[show(Rn.mk mk mi mj mo mn mc).v=.agg #[.int .i64 mk,.int .i64 mi,.int .i64 mj,.slice mo mn mc] from rfl] at HCALL
    have HCP:=Lib.hid hcp
    have HTELL:Hid (∀ u,Below wr.heap.size wr u→u.cell? ⟨X,3,none⟩=some (.slice (some ⟨g3,0,none⟩) R.length c3)∧(u.cell? ⟨g3,q*4,none⟩=some (.int .i64 mk)∧u.cell? ⟨g3,q*4+1,none⟩=some (.int .i64 mi)∧u.cell? ⟨g3,q*4+2,none⟩=some (.int .i64 mj)∧u.cell? ⟨g3,q*4+3,none⟩=some (.slice mo mn mc))∧∀ j,u.frozen? ⟨g3,j,none⟩=false):=Lib.hid (fun u hu=>
     ⟨(hu.cell (p:=⟨X,3,none⟩) hXz).trans y3,⟨(hu.cell (p:=⟨g3,q*4,none⟩) hgl.2).trans a0,(hu.cell (p:=⟨g3,q*4+1,none⟩) hgl.2).trans a1,(hu.cell (p:=⟨g3,q*4+2,none⟩) hgl.2).trans a2,(hu.cell (p:=⟨g3,q*4+3,none⟩) hgl.2).trans a3⟩,fun j=>(hcp.row.below hu).free j⟩)
    have hq0:(0:Int)≤(q:Int):=by omega
    have hww:(q:Int)+1≤1099511627777:=by have:=HLE.out;omega
    have hd:decide ((q:Int)<(R.length:Int))=true:=decide_eq_true zdC
    have hd':decide (q<R.length)=true:=decide_eq_true hlt
    clear hnode hget hcp hbase hle
    go_wp2_with fail
    go_region_law (first|(go_simp;go_at_call 66;refine(HCALL.out _ ?_).mono ?_;(first|exact(Below.refl _ _).drew|exact Below.refl _ _);rintro e w9 ⟨⟨nk,ni,nj,no,nn,nc⟩,D2,rfl,hb9,hT9,hD9⟩;have hbb:Below wr.heap.size wr w9:=(by first|exact(Below.refl _ _).drew.trans hb9|exact hb9);have HPUT:=Lib.hid (HCP.out.put hbb hlt hqT hT9 hD9);obtain⟨t3,⟨t4,t5,t6,t7⟩,tf⟩:=HTELL.out _ hbb;have u0:=tf (q*4);have u1:=tf (q*4+1);have u2:=tf (q*4+2);have u3:=tf (q*4+3);clear tf hT9 hD9 hb9;dsimp only [Rn.v]))
    all_goals(try go_wp2_with fail)
    all_goals first|exact⟨⟨q+1,_,_,by omega,by go_num,HPUT.out⟩,by simp [intOf];omega⟩|exact⟨⟨q+1,_,_,by omega,by go_num,HPUT.out.more (Below.refl _ _).drew⟩,by simp [intOf];omega⟩
   ·obtain rfl:q=R.length:=by omega
    have hd:decide ((R.length:Int)<(R.length:Int))=false:=decide_eq_false zdC
    have hrow:=hcp.row
    rw[List.drop_length,List.append_nil] at hrow
    have hties:=hcp.ties
    rw[HLR.out,List.take_length] at hties
    obtain⟨⟨n0,n1,n2,n3⟩,_⟩:=zgM hcp.x0
    obtain⟨⟨m0,m1,m2,m3⟩,fm⟩:=zgM hcp.x1
    have f0:=fm 0
    have f1:=fm 1
    have f2:=fm 2
    have f3:=fm 3
    have hbox:((((wr.setCell ⟨X+1,0,none⟩ (.int .i64 k')).setCell ⟨X+1,1,none⟩ (.int .i64 i')).setCell ⟨X+1,2,none⟩ (.int .i64 j')).setCell ⟨X+1,3,none⟩ (.slice (some ⟨g3,0,none⟩) R.length c3)).heap[X+1]? = some (.cells #[.int .i64 k',.int .i64 i',.int .i64 j',.slice (some ⟨g3,0,none⟩) R.length c3] 43 (0,0)):=heap_setCell_same _ _ 3 _ _ _ (heap_setCell_same _ _ 2 _ _ _ (heap_setCell_same _ _ 1 _ _ _ (heap_setCell_same _ _ 0 _ _ _ hcp.x1)))
    have hs:∀ k,k≠X+1→((((wr.setCell ⟨X+1,0,none⟩ (.int .i64 k')).setCell ⟨X+1,1,none⟩ (.int .i64 i')).setCell ⟨X+1,2,none⟩ (.int .i64 j')).setCell ⟨X+1,3,none⟩ (.slice (some ⟨g3,0,none⟩) R.length c3)).heap[k]? = wr.heap[k]?:=fun k hk=>by
     exact zct
    have hz:((((wr.setCell ⟨X+1,0,none⟩ (.int .i64 k')).setCell ⟨X+1,1,none⟩ (.int .i64 i')).setCell ⟨X+1,2,none⟩ (.int .i64 j')).setCell ⟨X+1,3,none⟩ (.slice (some ⟨g3,0,none⟩) R.length c3)).heap.size=wr.heap.size:=by rw[zfA,zfA,zfA,zfA]
    have HH:=Lib.hid (And.intro hrow (And.intro hties (And.intro hcp (And.intro hbox (And.intro hs hz)))))
    clear hrow hties hcp hbox hs hz fm
    go_wp2_with fail
    obtain⟨hrow,hties,hcp,hbox,hs,hz⟩:=HH.out
    have hbase:=hcp.base
    have hgl:=World.ownsRow.lt hrow g3 rfl
    have hc3:R.length≤c3:=by
     rcases hrow.2 with⟨hv,_⟩|⟨g,cp,cur,hv,_,_,h3,_⟩
     ·cases hv
     ·simp only[Value.slice.injEq] at hv
      obtain⟨_,_,rfl⟩:=hv
      rw[← hcp.len]
      exact h3
    refine bodyPost_ret (v:=.agg #[.int .i64 k',.int .i64 i',.int .i64 j',.slice (some ⟨g3,0,none⟩) R.length c3]) (results_cell_row rfl _ _ (X+1) 43 _ (0,0) _ rfl hbox Tryz.underlying43 rfl (by as_aux_lemma=>kernel_rfl)) rfl ?_
    refine⟨⟨k',i',j',some ⟨g3,0,none⟩,R.length,c3⟩,fun h=>D' h∨h=g3,rfl,⟨hcp.below.os,hcp.below.tape,hcp.below.output,by rw[hz];exact hcp.below.size,fun k hk=>(hs k zdC).trans (hcp.below.block k hk)⟩,?_,fun h hd'=>?_⟩
    ·rw[Tie]
     refine⟨rfl,rfl,rfl,HLR.out,g3,0,R',⟨hc3,hl⟩,fun _=>⟨rfl,.inr rfl⟩,fun z u hu=>(zjA (hs g3 zdC) _).trans (hrow.cells z u hu),Ties.keep (fun h hh=>hs h (by have:=(hcp.dead h hh).1;omega)) (fun _ h=>.inl h) _ _ hties⟩
    ·rcases hd' with hd'|rfl
     ·obtain⟨a,_,cur,fz,hc'⟩:=hcp.dead h hd'
      exact⟨by omega,cur,fz,(hs h zdC).trans hc'⟩
     ·rcases hrow.2 with⟨hv,_⟩|⟨g,cp,cur,hv,_,hh,_⟩
      ·cases hv
      ·simp only[Value.slice.injEq,Option.some.injEq,Addr.mk.injEq] at hv
       obtain⟨⟨rfl,_⟩,_⟩:=hv
       exact⟨by omega,cur,(0,0),(hs _ zdC).trans hh⟩
mutual
theorem zpl:∀ t:Tree,CopT t
 |.mk k i j l=>zqj k i j l (zpG l)
theorem zpG:∀ (l:List Tree),∀ t∈l,CopT t
 |[],t,h=>by cases h
 |u::l,t,h=>by
  rcases List.mem_cons.1 h with h|h
  ·rw[h];exact zpl u
  ·exact zpG l t h
end
open Go.RowKit
def SameT (t:Tree):Prop:=∀ (w:World) (D D2:Nat→Prop) (n n2:Rn),Tie w D t n→OfNodes w D→Tie w D2 t n2→OfNodes w D2→Calls Tryz.prog 20 #[n.v,n2.v] w fun e w'=>e=.returned (.bool true)∧Below w.heap.size w w'
theorem ztp (k i j:Int) (l:List Tree) (ih:∀ t∈l,SameT t):SameT (.mk k i j l):=by
 intro w D D2 n n2 hT hD hT2 hD2
 obtain⟨k',i',j',o,nn,c⟩:=n
 obtain⟨k2,i2,j2,o2,nn2,c2⟩:=n2
 rw[Tie] at hT hT2
 obtain⟨rfl,rfl,rfl,hnn,g0,off0,R,⟨hc,hl⟩,ho,hcell,hties⟩:=hT
 obtain⟨hk2,hi2,hj2,hnn2,g2,off2,R2,⟨hc2,_⟩,ho2,hcell2,hties2⟩:=hT2
 simp only[] at hnn hc ho hnn2 hc2 ho2 hk2 hi2 hj2
 subst hnn hnn2 hk2 hi2 hj2
 show Calls Tryz.prog 20 #[.agg #[.int .i64 k2,.int .i64 i2,.int .i64 j2,.slice o l.length c],.agg #[.int .i64 k2,.int .i64 i2,.int .i64 j2,.slice o2 l.length c2]] w _
 go_enter Tryz.func20,Tryz.ntmps20
 go_wp2_with fail
 have hlR:=hties.length
 have hlR2:=hties2.length
 obtain⟨len,hlen⟩:∃ len,l.length=len:=⟨_,rfl⟩
 have z1:(w.alloc (.cells #[.int .i64 k2,.int .i64 i2,.int .i64 j2,.slice o l.length c] 43)).heap.size=w.heap.size+1:=World.size_alloc _ _
 have b1:Below w.heap.size w (w.alloc (.cells #[.int .i64 k2,.int .i64 i2,.int .i64 j2,.slice o l.length c] 43)):=(Below.refl _ _).alloc (Nat.le_refl _) _
 have a1:=heap_alloc_last w (.cells #[.int .i64 k2,.int .i64 i2,.int .i64 j2,.slice o l.length c] 43)
 obtain⟨W1,hW1⟩:∃ W1,w.alloc (.cells #[.int .i64 k2,.int .i64 i2,.int .i64 j2,.slice o l.length c] 43)=W1:=⟨_,rfl⟩
 rw[hW1] at z1 b1 a1 ⊢
 have a2:=heap_alloc_last W1 (.cells #[.int .i64 k2,.int .i64 i2,.int .i64 j2,.slice o2 l.length c2] 43)
 have a1':=(heap_alloc_old W1 (.cells #[.int .i64 k2,.int .i64 i2,.int .i64 j2,.slice o2 l.length c2] 43) (show w.heap.size<W1.heap.size by omega)).trans a1
 have b2:=b1.alloc b1.size (.cells #[.int .i64 k2,.int .i64 i2,.int .i64 j2,.slice o2 l.length c2] 43)
 obtain⟨W2,hW2⟩:∃ W2,W1.alloc (.cells #[.int .i64 k2,.int .i64 i2,.int .i64 j2,.slice o2 l.length c2] 43)=W2:=⟨_,rfl⟩
 rw[hW2] at a2 a1' b2 ⊢
 rw[z1] at a2
 obtain⟨X,hX⟩:∃ X,w.heap.size=X:=⟨_,rfl⟩
 have HXB:=Lib.hid (And.intro hX b2)
 rw[hX] at a2 a1' ⊢
 rw[hlen] at a2 a1' hl hlR hlR2 ⊢
 have HA:=Lib.hid (And.intro a1' a2)
 have HT:=Lib.hid (And.intro hties (And.intro hD (And.intro hties2 hD2)))
 have HC:=Lib.hid (And.intro hcell hcell2)
 have HOO:=Lib.hid (And.intro ho ho2)
 have HIH:=Lib.hid ih
 have HLN:=Lib.hid (And.intro hlen (And.intro hlR hlR2))
 have hB2:=b2
 clear hlR hlR2 hlen z1 b1 a1 hW1 a2 a1' b2 hW2 hX hties hties2 hD hD2 hcell hcell2 ho ho2 ih hc hc2 hB2
 go_loopw [5] (fun p wr=>∃ i:Nat,i≤len∧p=.int .i64 (i:Int)∧Below W2.heap.size W2 wr) (fun p _=>len - (intOf p).toNat)
 case atStart=>exact⟨0,Nat.zero_le _,rfl,Below.refl _ _⟩
 case round=>
  obtain⟨i,hil,rfl,hb⟩:=hrel
  obtain⟨x1,x2⟩:=HA.out
  have y1:=(hb.block X (Array.getElem?_eq_some_iff.1 x1).1).trans x1
  have y2:=(hb.block (X+1) (Array.getElem?_eq_some_iff.1 x2).1).trans x2
  have q1:X<wr.heap.size:=(Array.getElem?_eq_some_iff.1 y1).1
  have q2:X+1<wr.heap.size:=(Array.getElem?_eq_some_iff.1 y2).1
  obtain⟨⟨_,_,_,e1⟩,_⟩:=zgM y1
  obtain⟨⟨_,_,_,e2⟩,_⟩:=zgM y2
  have hbw:Below w.heap.size w wr:=HXB.out.2.trans (hb.mono HXB.out.2.size)
  have HB:=Lib.hid hb
  by_cases hlt:i<len
  ·have hlne:l≠[]:=by intro e;have:=HLN.out.1;rw[e] at this;simp at this;omega
   have hil2:i<l.length:=by rw[HLN.out.1];exact hlt
   have hiR:i<R.length:=by rw[HLN.out.2.1];exact hlt
   have hiR2:i<R2.length:=by rw[HLN.out.2.2];exact hlt
   obtain⟨ho,hd0⟩:=HOO.out.1 hlne
   obtain⟨ho2,hd2⟩:=HOO.out.2 hlne
   subst ho ho2
   have hg0:=HT.out.2.1.lt g0 hd0
   have hg2:=HT.out.2.2.2.lt g2 hd2
   obtain⟨a0,a1,a2,a3⟩:=zgi HC.out.1 i hiR
   obtain⟨s0,s1,s2,s3⟩:=zgi HC.out.2 i hiR2
   have t1:=(zid HT.out.1 hil2 hiR)
   have t2:=(zid HT.out.2.2.1 hil2 hiR2)
   obtain⟨⟨nk,ni,nj,no,nn,nc⟩,hn1⟩:∃ n,R[i]=n:=⟨_,rfl⟩
   obtain⟨⟨mk,mi,mj,mo,mn,mc⟩,hn2⟩:∃ n,R2[i]=n:=⟨_,rfl⟩
   rw[hn1] at a0 a1 a2 a3 t1
   rw[hn2] at s0 s1 s2 s3 t2
   have c0:=(hbw.cell (p:=⟨g0,off0+i*4,none⟩) hg0).trans a0
   have c1:=(hbw.cell (p:=⟨g0,off0+i*4+1,none⟩) hg0).trans a1
   have c2':=(hbw.cell (p:=⟨g0,off0+i*4+2,none⟩) hg0).trans a2
   have c3:=(hbw.cell (p:=⟨g0,off0+i*4+3,none⟩) hg0).trans a3
   have d0:=(hbw.cell (p:=⟨g2,off2+i*4,none⟩) hg2).trans s0
   have d1:=(hbw.cell (p:=⟨g2,off2+i*4+1,none⟩) hg2).trans s1
   have d2:=(hbw.cell (p:=⟨g2,off2+i*4+2,none⟩) hg2).trans s2
   have d3:=(hbw.cell (p:=⟨g2,off2+i*4+3,none⟩) hg2).trans s3
   have HCALL:Hid (∀ u,Below wr.heap.size wr u→Calls Tryz.prog 20 #[.agg #[.int .i64 nk,.int .i64 ni,.int .i64 nj,.slice no nn nc],.agg #[.int .i64 mk,.int .i64 mi,.int .i64 mj,.slice mo mn mc]] u fun e w'=>e=.returned (.bool true)∧Below u.heap.size u w'):=Lib.hid (fun u hu=>by
    have hbu:=hbw.trans (hu.mono hbw.size)
    exact HIH.out l[i] (List.getElem_mem hil2) u D D2 ⟨nk,ni,nj,no,nn,nc⟩ ⟨mk,mi,mj,mo,mn,mc⟩ (t1.below HT.out.2.1 hbu) (HT.out.2.1.below hbu) (t2.below HT.out.2.2.2 hbu) (HT.out.2.2.2.below hbu))
   have hq0:(0:Int)≤(i:Int):=by omega
   have hww:(i:Int)+1≤1099511627777:=by omega
   have hd:decide ((i:Int)<(len:Int))=true:=decide_eq_true zdC
   have hd':decide (i<len)=true:=decide_eq_true hlt
   simp only[] at c0 c1 c2' c3 d0 d1 d2 d3
   clear a0 a1 a2 a3 s0 s1 s2 s3 t1 t2 hn1 hn2 hbw x1 x2 y1 y2 hb
   go_wp2_with fail
   go_cut [52] (fun v wx=>v=.bool false∧Below wr.heap.size wr wx)
   case first=>
    go_region_law (first|(go_simp;go_at_call 20;refine(HCALL.out _ ?_).mono ?_;(first|exact(Below.refl _ _).drew|exact Below.refl _ _);rintro e w9 ⟨rfl,hb9⟩;have hbb:Below wr.heap.size wr w9:=(by first|exact(Below.refl _ _).drew.trans hb9|exact hb9);have HBB:=Lib.hid hbb;clear hb9 hbb;dsimp only))
    all_goals(go_simp;(try go_wp2_with fail);go_meet)
    all_goals exact⟨rfl,HBB.out⟩
   case rest=>
    obtain⟨rfl,hbc⟩:=hcut
    have HBB:=Lib.hid hbc
    clear hbc
    go_wp2_with fail
    all_goals first|exact⟨⟨i+1,by omega,by go_num,HB.out.trans (HBB.out.mono HB.out.size)⟩,by simp [intOf];omega⟩|(go_roundw;(case rel=>exact⟨i+1,by omega,by go_num,HB.out.trans (HBB.out.mono HB.out.size)⟩);(case measure=>simp [intOf];omega))
  ·have hd:decide ((i:Int)<(len:Int))=false:=decide_eq_false zdC
   have hd':decide (i<len)=false:=decide_eq_false hlt
   have HBW:=Lib.hid hbw
   clear x1 x2 y1 y2 hb hbw
   go_wp2_with fail
   go_ret
   exact⟨rfl,HBW.out⟩
mutual
theorem zsY:∀ t:Tree,SameT t
 |.mk k i j l=>ztp k i j l (zsB l)
theorem zsB:∀ (l:List Tree),∀ t∈l,SameT t
 |[],t,h=>by cases h
 |u::l,t,h=>by
  rcases List.mem_cons.1 h with h|h
  ·rw[h];exact zsY u
  ·exact zsB l t h
end
end Go.Proofs.YtcekbbkidipbnaaGreat.rd
