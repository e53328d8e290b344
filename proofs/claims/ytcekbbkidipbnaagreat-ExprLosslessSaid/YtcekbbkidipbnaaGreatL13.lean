/-
  Texts put together: Ie, If, Ih, Ii.
-/
import Derived.Test.YtcekbbkidipbnaaGreatL10
import Derived.Test.YtcekbbkidipbnaaGreatL12
import Derived.Test.YtcekbbkidipbnaaGreatL5
import Derived.Test.YtcekbbkidipbnaaGreatL9
set_option maxRecDepth 100000
set_option maxHeartbeats 8000000
namespace Go.Proofs.YtcekbbkidipbnaaGreat.rd
open Go.RowKit
theorem ext_now {C K1:Keep} {C':Kc} {w w':World} {B B1 b:Nat} {x:Res} (he:Ext C K1 B) (hat:CAt C' w b x) (hk:C'.k=K1) (hs:∀ k,k≠B1→w'.heap[k]? = w.heap[k]?) (hz:w'.heap.size=w.heap.size) (hne:∀ k,C.K k→k≠B1) (ho:w'.os=w.os) (ht:w'.tape=w.tape) (hp:w'.output=w.output):Ext C ⟨w',K1.K⟩ B:=by
 subst hk
 obtain⟨vL,vS,vR,σ,D,hr,ho',hi⟩:=hat
 refine⟨ho.trans (ho'.os.trans he.os),ht.trans (ho'.tape.trans he.tape),hp.trans (ho'.output.trans he.output),?_,⟨he.base.1,?_⟩,fun k hk=>?_⟩
 ·have:=he.size;have:=ho'.size;show C.W.heap.size≤w'.heap.size;omega
 ·have:=he.base.2;have:=ho'.size;show B≤w'.heap.size;omega
 ·obtain⟨a1,a2,a3⟩:=he.kept k hk
  exact⟨a1,a2,(hs k (hne k hk)).trans ((ho'.kept k a2).2.2.2.2.trans a3)⟩
theorem ents_match {n:Nat} {s t:St} {T:List En} {lp:List Ent} {v0 v1:Nat} {lk:Int} {nm:Bool} (hM:∀ s2,Res.ok s=.ok s2→T.map En.ent=lp∧∀ e∈T,e.is=false→Kof s2.R e) (h0:v0=s.R.length) (h1:v1=t.R.length) (hlk:(Res.ok t).last=lk) (hnm:(Res.ok s).named=nm) (hy:run n .entry (.ok s)=some (.ok t)) (hpre:Kp s.R.length s (.ok t)):∀ s2,Res.ok t.take=.ok s2→(T ++ [(⟨v0,v1,lk,nm⟩:En)]).map En.ent=lp ++ [(⟨(Res.ok s).len,(Res.ok t).len,(Res.ok s).named⟩:Ent)]∧∀ e∈T ++ [(⟨v0,v1,lk,nm⟩:En)],e.is=false→Kof s2.R e:=by
 intro s2 e2
 cases e2
 obtain⟨h2,h3⟩:=hM s rfl
 have hp:=hpre t rfl
 have hpt:t.take.R.take t.R.length=t.R:=by
  have:=(pre_take (u:=t) (Nat.le_refl t.R.length)).R
  rw[this,List.take_length]
 have hps:t.R.take s.R.length=s.R:=by rw[hp.R,List.take_length]
 refine⟨?_,fun e he hn=>?_⟩
 ·rw[List.map_append,h2,h0,h1,← hnm]
  rfl
 ·rcases List.mem_append.1 he with he|he
  ·exact((h3 e he hn).more hps).more hpt
  ·rw[List.mem_singleton] at he
   subst he
   have hn:nm=false:=hn
   rw[← hlk,h0]
   exact(kof_entry hy (hnm.trans hn) _).more hpt
theorem ents_end {n:Nat} {s:St} {yy:Res} {T:List En} {lp:List Ent} {v0 v1:Nat} {lk:Int} {nm:Bool} (hM:∀ s2,Res.ok s=.ok s2→T.map En.ent=lp∧∀ e∈T,e.is=false→Kof s2.R e) (h0:v0=s.R.length) (h1:∀ t,yy=.ok t→v1=t.R.length) (hlk:yy.last=lk) (hnm:(Res.ok s).named=nm) (hy:run n .entry (.ok s)=some yy) (hpre:Kp s.R.length s yy):∀ s2,yy=.ok s2→(T ++ [(⟨v0,v1,lk,nm⟩:En)]).map En.ent=lp ++ [(⟨(Res.ok s).len,yy.len,(Res.ok s).named⟩:Ent)]∧∀ e∈T ++ [(⟨v0,v1,lk,nm⟩:En)],e.is=false→Kof s2.R e:=by
 intro t e2
 subst e2
 obtain⟨h2,h3⟩:=hM s rfl
 have hp:=hpre t rfl
 have hps:t.R.take s.R.length=s.R:=by rw[hp.R,List.take_length]
 refine⟨?_,fun e he hn=>?_⟩
 ·rw[List.map_append,h2,h0,h1 t rfl,← hnm]
  rfl
 ·rcases List.mem_append.1 he with he|he
  ·exact(h3 e he hn).more hps
  ·rw[List.mem_singleton] at he
   subst he
   have hn:nm=false:=hn
   rw[← hlk,h0]
   exact kof_entry hy (hnm.trans hn) _
def Re (C0:Kc) (b B n:Nat) (y:Res) (lf:List Ent) (v:Value) (w:World) (k:Nat):Prop:=∃ (C1:Kc) (x:Res) (T:List En) (lp:List Ent),Hid (Ext C0.k C1.k B)∧Hid (Ch C0.low T C1.low)∧T.length+k≤n∧Hid (CAt C1 w b x)∧Hid (HeldC C1.k w B v en T)∧Hid (rEnts (run n .entry) k lp x=some (y,lf))∧Hid (∀ s,x=.ok s→T.map En.ent=lp∧∀ e∈T,e.is=false→Kof s.R e)
noncomputable def reOf (C0:Kc) (b B n:Nat) (y:Res) (lf:List Ent) (v:Value) (w:World):Nat:=least (Re C0 b B n y lf v w)
theorem Re.out {C0:Kc} {b B n k:Nat} {y:Res} {lf:List Ent} {v:Value} {w:World} (h:Re C0 b B n y lf v w k):Re C0 b B n y lf v w (reOf C0 b B n y lf v w)∧reOf C0 b B n y lf v w≤k:=least_spec h
def EntsPost (C0:Kc) (b B n:Nat) (y:Res) (lf:List Ent) (e:Ending) (w':World):Prop:=∃ v C1 T,e=.returned v∧Hid (Ext C0.k C1.k B)∧Hid (Ch C0.low T C1.low)∧T.length≤n∧Hid (CAt C1 w' b y)∧Hid (HeldC C1.k w' B v en T)∧Hid (∀ s,y=.ok s→T.map En.ent=lf∧∀ e∈T,e.is=false→Kof s.R e)
theorem ents_bad {one:Res→Option Res} {k:Nat} {lp lf:List Ent} {d0 d1 d2:Int} {y:Res} (h:rEnts one k lp (.fail d0 d1 d2)=some (y,lf)):y=.fail d0 d1 d2∧0<k:=by
 cases k with
 |zero=>unfold rEnts at h;cases h
 |succ k=>
  unfold rEnts at h
  rw[if_pos (.inl rfl)] at h
  cases h
  exact⟨rfl,by omega⟩
theorem centries_s {n:Nat} (hn:n≤1099511627776) (ih:∀ k,k≤n→AllC k) {C0:Kc} {w:World} {b:Nat} {x y:Res} {lf:List Ent} (hat:Hid (CAt C0 w b x)) (h1:Hid (rEnts (run n .entry) n [] x=some (y,lf))):Calls Tryz.prog 99 #[.pointer (some ⟨b,0,none⟩)] w (EntsPost C0 b w.heap.size n y lf):=by
 obtain⟨hEs,hats⟩:=Ext.startC hat.out (Below.refl w.heap.size w)
 obtain⟨B,hB⟩:∃ B,w.heap.size=B:=⟨_,rfl⟩
 have hst:Re C0 b B n y lf (.slice none 0 0) w n:=⟨⟨⟨w,fun k=>C0.k.K k∨(w.heap.size≤k∧k<w.heap.size)⟩,C0.low⟩,x,[],[],Lib.hid (by rw[← hB];exact hEs),Lib.hid (Nat.le_refl _),by simp,Lib.hid hats,Lib.hid ⟨Mine.nil _ _,fun k hk=>by simp [Value.ownBlock] at hk⟩,h1,Lib.hid (fun s _=>⟨rfl,fun e he=>by cases he⟩)⟩
 rw[hB]
 clear hEs hats h1 hat hB
 go_enter Tryz.func99,Tryz.ntmps99
 go_wp2_with fail
 go_loopw [3] (fun p wr=>∃ v k,v=p∧Re C0 b B n y lf v wr k) (fun v wr=>reOf C0 b B n y lf v wr)
 case atStart=>exact⟨_,n,rfl,hst⟩
 case round=>
  clear hst
  obtain⟨vl,k0,rfl,hre⟩:=hrel
  obtain⟨⟨C1,x',T,lp,hE,hCh,hTk,hat,hHe,hr,hM⟩,hle⟩:=hre.out
  obtain⟨q,hq⟩:∃ q,reOf C0 b B n y lf vl wr=q:=⟨_,rfl⟩
  rw[hq] at hr hTk hle
  clear hre
  have HRT:=Lib.hid (And.intro hr.out (And.intro hM.out hCh.out))
  clear hr hM hCh
  cases x' with
  |fail d0 d1 d2=>
   obtain⟨rfl,hq0⟩:=ents_bad HRT.out.1
   have hk0:(Res.fail d0 d1 d2).kind=0:=rfl
   have hnm:(Res.fail d0 d1 d2).named=false:=rfl
   go_wp2_with (go_at_call 57;first|(refine(ckind_is ‹_› ‹_›).mono ?_;rintro e w1 ⟨rfl,hat1⟩)|(refine(ckind_at ‹_›).mono ?_;rintro e w1 ⟨rfl,hat1⟩))
   obtain⟨v0,hv0,hv0f,HM0,hat0,hv0s'⟩:=cmark_raise hat1
   have hv0s:=Lib.hid hv0s'
   clear hv0s'
   have HN0:=Lib.hid (cnamed_at hat0)
   rw[hnm] at HN0
   go_wp2_with (first|(go_at_call 61;refine HM0.out.mono ?_;rintro e w2 ⟨rfl,rfl⟩)|(go_at_call 128;refine HN0.out.mono ?_;rintro e w3 ⟨rfl,hat3⟩))
   have hHe3:=HeldC.call (C':=⟨C1.k,v0⟩) hHe.out hat.out rfl hat3.out
   have hbl4:Below w3.heap.size w3 (w3.alloc (.cells #[.int .i64 (v0:Int),.int .i64 0,.int .i64 0,.bool false] 94)):=(Below.refl _ _).alloc (Nat.le_refl _) _
   obtain⟨hE4,hat4⟩:=Ext.startC hat3.out hbl4
   have hHe4:=Lib.hid (hHe3.start hbl4)
   have hbx:=heap_alloc_last w3 (.cells #[.int .i64 (v0:Int),.int .i64 0,.int .i64 0,.bool false] 94)
   have hz4:w3.heap.size<(w3.alloc (.cells #[.int .i64 (v0:Int),.int .i64 0,.int .i64 0,.bool false] 94)).heap.size:=by rw[World.size_alloc];omega
   obtain⟨C4,hC4⟩:∃ C4:Kc,(⟨⟨(w3.alloc (.cells #[.int .i64 (v0:Int),.int .i64 0,.int .i64 0,.bool false] 94)),fun k=>C1.k.K k∨(w3.heap.size≤k∧k<(w3.alloc (.cells #[.int .i64 (v0:Int),.int .i64 0,.int .i64 0,.bool false] 94)).heap.size)⟩,v0⟩:Kc)=C4:=⟨_,rfl⟩
   have hK4:C4.k.K w3.heap.size:=by rw[← hC4];exact .inr ⟨Nat.le_refl _,hz4⟩
   have hW4:C4.k.W=(w3.alloc (.cells #[.int .i64 (v0:Int),.int .i64 0,.int .i64 0,.bool false] 94)):=by rw[← hC4]
   have hL4:C4.low=v0:=by rw[← hC4]
   have hE5:Hid (Ext C0.k C4.k B):=Lib.hid (by rw[← hC4];exact hE.out.trans hE4)
   have hat4:Hid (CAt C4 (w3.alloc (.cells #[.int .i64 (v0:Int),.int .i64 0,.int .i64 0,.bool false] 94)) b (.fail d0 d1 d2)):=Lib.hid (by rw[← hC4];exact hat4)
   have hHe4:Hid (HeldC C4.k (w3.alloc (.cells #[.int .i64 (v0:Int),.int .i64 0,.int .i64 0,.bool false] 94)) B vl en T):=by rw[← hC4];exact hHe4
   have hBB:B≤w3.heap.size:=by
    have h1:=hE.out.base.2
    have h2:=hat3.out.size
    exact Nat.le_trans h1 h2
   clear hC4 hE4 hbl4 hHe3
   go_wp2_with (first|(go_at_call 47;refine(cname_at ‹_› hy0).mono ?_;rintro e w' ⟨v,rfl,hat5⟩)|(go_at_call 129;refine(cdotted_f _ _ _ _ _ _ ‹_›).mono ?_;rintro e w5 ⟨v,rfl,hat5⟩))
   obtain⟨v1,hv1,hv1f,HM1,hat6,hv1s'⟩:=cmark_raise hat5
   have hv1s:=Lib.hid hv1s'
   clear hv1s'
   go_wp2_with (go_at_call 61;refine HM1.out.mono ?_;rintro e w6 ⟨rfl,rfl⟩)
   go_at_call 63
   refine(clast_at hat6).mono ?_
   rintro e w7 ⟨rfl,hat7⟩
   have hb7:w7.heap[w3.heap.size]? = some (.cells #[.int .i64 (v0:Int),.int .i64 0,.int .i64 0,.bool false] 94 (0,0)):=by
    have h1:=(hat7.out.kept w3.heap.size hK4).1
    have h1:w7.heap[w3.heap.size]? = C4.k.W.heap[w3.heap.size]?:=h1
    rw[h1,hW4]
    exact hbx
   have hHe7:=Lib.hid (HeldC.call (C':=⟨C4.k,v1⟩) hHe4.out hat4.out rfl hat7.out)
   have hvne:vl.ownBlock≠some w3.heap.size:=fun e=>by have h8:=(hat.out.kept _ (hHe.out.held _ e)).2;have h9:C1.k.W.heap.size≤w3.heap.size:=hat3.out.size;omega
   obtain⟨lk,hlk⟩:∃ lk,(Res.fail d0 d1 d2).last=lk:=⟨_,rfl⟩
   rw[hlk]
   obtain⟨B1,hB1⟩:∃ B1,w3.heap.size=B1:=⟨_,rfl⟩
   rw[hB1] at hb7 hvne hK4 hBB
   have hs8:∀ k,k≠B1→((w7.setCell ⟨B1,1,none⟩ (.int .i64 (v1:Int))).setCell ⟨B1,2,none⟩ (.int .i64 lk)).heap[k]? = w7.heap[k]?:=fun k hk=>by rw[set_one _ _ _ _ _ hk,set_one _ _ _ _ _ hk]
   have hat8:Hid (CAt ⟨⟨(w7.setCell ⟨B1,1,none⟩ (.int .i64 (v1:Int))).setCell ⟨B1,2,none⟩ (.int .i64 lk),C4.k.K⟩,v1⟩ ((w7.setCell ⟨B1,1,none⟩ (.int .i64 (v1:Int))).setCell ⟨B1,2,none⟩ (.int .i64 lk)) b (Res.fail d0 d1 d2)):=CAt.wrote hat7 hK4 ⟨_,_,_,hb7,by decide,by decide,by decide⟩ hs8 (by rw[size_set,size_set])
   have hHe8:HeldC ⟨(w7.setCell ⟨B1,1,none⟩ (.int .i64 (v1:Int))).setCell ⟨B1,2,none⟩ (.int .i64 lk),C4.k.K⟩ ((w7.setCell ⟨B1,1,none⟩ (.int .i64 (v1:Int))).setCell ⟨B1,2,none⟩ (.int .i64 lk)) B vl en T:=hHe7.out.same (fun k hk=>hs8 k (fun e=>hvne (by rw[← e];exact hk))) (fun k hk=>hk)
   have hE8:Ext C0.k ⟨(w7.setCell ⟨B1,1,none⟩ (.int .i64 (v1:Int))).setCell ⟨B1,2,none⟩ (.int .i64 lk),C4.k.K⟩ B:=ext_now hE5.out hat7.out (C':=⟨C4.k,v1⟩) rfl hs8 (by rw[size_set,size_set]) (fun k hk=>by rintro rfl;have:=(hE5.out.kept _ hk).1;omega) rfl rfl rfl
   obtain⟨va,wa,hra,C9,hE9,hL9,hat9,hHe9,_⟩:=HeldC.push (F:=en) (C:=C0) (C1:=⟨⟨(w7.setCell ⟨B1,1,none⟩ (.int .i64 (v1:Int))).setCell ⟨B1,2,none⟩ (.int .i64 lk),C4.k.K⟩,v1⟩) (by decide) hE8 hat8.out hHe8 (by omega) (by decide) ⟨v0,v1,lk,false⟩
   have hra':∀ ty,(Builtin.append_ #[90,90] ty #[vl,.slice (some ⟨w7.heap.size,0,none⟩) 1 1]).run Tryz.prog (((w7.setCell ⟨B1,1,none⟩ (.int .i64 (v1:Int))).setCell ⟨B1,2,none⟩ (.int .i64 lk)).alloc (.cells #[.int .i64 (v0:Int),.int .i64 (v1:Int),.int .i64 lk,.bool false] 94))=.ok va wa:=by
    have h9:=hra
    rw[size_set,size_set] at h9
    exact h9
   have HRA:=Lib.hid hra'
   clear hra'
   have f7:=frozen_of_row w7 B1 1 _ _ hb7
   have f8:=frozen_of_row w7 B1 2 _ _ hb7
   have y0:w7.cell? ⟨B1,0,none⟩=some (.int .i64 (v0:Int)):=by rw[cell_of_row w7 _ 0 _ _ _ hb7];rfl
   have y1':w7.cell? ⟨B1,1,none⟩=some (.int .i64 0):=by rw[cell_of_row w7 _ 1 _ _ _ hb7];rfl
   have y2:w7.cell? ⟨B1,2,none⟩=some (.int .i64 0):=by rw[cell_of_row w7 _ 2 _ _ _ hb7];rfl
   have y3:w7.cell? ⟨B1,3,none⟩=some (.bool false):=by rw[cell_of_row w7 _ 3 _ _ _ hb7];rfl
   have hat9h:=Lib.hid hat9
   have hHe9h:=Lib.hid hHe9
   have hE9h:=Lib.hid hE9
   have hF:=Lib.hid (And.intro hv0 (And.intro hv1 (And.intro hv0s.out (And.intro hv1s.out (And.intro hL4 hL9)))))
   clear hra hat9 hHe9 hE9 hE8 hHe8 hs8 hb7 hvne hv0 hv1 hv0s hv1s hL4 hL9 hW4 hbx hat0 hat6
   have hno60:((Res.fail d0 d1 d2).kind == 60)=false:=rfl
   go_wp2_with (first|(at_builtin;refine Lib.wpList_append_run _ rfl _ _ _ _ rfl _ _ rfl rfl _ _ (HRA.out _) ?_)|(go_at_call 83;(with_reducible refine(ccame_no hat9h hno60).mono ?_);rintro e w10 ⟨rfl,hat10⟩))
   go_ret
   have hFo:=hF.out
   exact⟨_,C9,_,rfl,hE9h,Lib.hid (by rw[hFo.2.2.2.2.2];exact Ch.snoc HRT.out.2.2 hFo.1 (by show v0≤v1;have:=hFo.2.1;omega) (Nat.le_refl _)),by rw[List.length_append];simp;omega,hat10,Lib.hid (hHe9h.out.call hat9h.out rfl hat10.out),Lib.hid (fun s e=>by cases e)⟩
  |ok s=>
   by_cases h62:(Res.ok s).kind=62
   ·have hrr:=HRT.out.1
    have hfin:y=.ok s∧lf=lp∧0<q:=by
     cases q with
     |zero=>unfold rEnts at hrr;cases hrr
     |succ q=>
      unfold rEnts at hrr
      rw[if_pos (.inr h62)] at hrr
      cases hrr
      exact⟨rfl,rfl,by omega⟩
    obtain⟨rfl,rfl,hq0⟩:=hfin
    clear hrr
    go_wp2_with (go_at_call 57;first|(refine(ckind_is ‹_› ‹_›).mono ?_;rintro e w1 ⟨rfl,hat1⟩)|(refine(ckind_at ‹_›).mono ?_;rintro e w1 ⟨rfl,hat1⟩))
    go_ret
    exact⟨_,C1,_,rfl,hE,Lib.hid HRT.out.2.2,by omega,hat1,Lib.hid (hHe.out.call hat.out rfl hat1.out),Lib.hid HRT.out.2.1⟩
   ·have e62:((Res.ok s).kind == 62)=false:=beq_eq_false_iff_ne.2 h62
    have hrr:=HRT.out.1
    cases q with
    |zero=>unfold rEnts at hrr;cases hrr
    |succ q=>
    unfold rEnts at hrr
    rw[if_neg (by rintro(h|h);exact absurd h (by rw[bad_ok];simp);exact h62 h)] at hrr
    obtain⟨yy,hyy,hrr⟩:=bind_some hrr
    obtain⟨m,y0,hnm1,hy0,hy1⟩:=entry_parts hyy.out
    have HRR:=Lib.hid hrr
    have HYY:=Lib.hid hyy.out
    clear hrr hyy
    cases hnm:(Res.ok s).named with
    |true=>
     rw[hnm,if_pos rfl] at hy0
     go_wp2_with (go_at_call 57;first|(refine(ckind_is ‹_› ‹_›).mono ?_;rintro e w1 ⟨rfl,hat1⟩)|(refine(ckind_at ‹_›).mono ?_;rintro e w1 ⟨rfl,hat1⟩))
     obtain⟨v0,hv0,hv0f,HM0,hat0,hv0s'⟩:=cmark_raise hat1
     have hv0s:=Lib.hid hv0s'
     clear hv0s'
     have HN0:=Lib.hid (cnamed_at hat0)
     rw[hnm] at HN0
     go_wp2_with (first|(go_at_call 61;refine HM0.out.mono ?_;rintro e w2 ⟨rfl,rfl⟩)|(go_at_call 128;refine HN0.out.mono ?_;rintro e w3 ⟨rfl,hat3⟩))
     have hHe3:=HeldC.call (C':=⟨C1.k,v0⟩) hHe.out hat.out rfl hat3.out
     have hbl4:Below w3.heap.size w3 (w3.alloc (.cells #[.int .i64 (v0:Int),.int .i64 0,.int .i64 0,.bool true] 94)):=(Below.refl _ _).alloc (Nat.le_refl _) _
     obtain⟨hE4,hat4⟩:=Ext.startC hat3.out hbl4
     have hHe4:=Lib.hid (hHe3.start hbl4)
     have hbx:=heap_alloc_last w3 (.cells #[.int .i64 (v0:Int),.int .i64 0,.int .i64 0,.bool true] 94)
     have hz4:w3.heap.size<(w3.alloc (.cells #[.int .i64 (v0:Int),.int .i64 0,.int .i64 0,.bool true] 94)).heap.size:=by rw[World.size_alloc];omega
     obtain⟨C4,hC4⟩:∃ C4:Kc,(⟨⟨(w3.alloc (.cells #[.int .i64 (v0:Int),.int .i64 0,.int .i64 0,.bool true] 94)),fun k=>C1.k.K k∨(w3.heap.size≤k∧k<(w3.alloc (.cells #[.int .i64 (v0:Int),.int .i64 0,.int .i64 0,.bool true] 94)).heap.size)⟩,v0⟩:Kc)=C4:=⟨_,rfl⟩
     have hK4:C4.k.K w3.heap.size:=by rw[← hC4];exact .inr ⟨Nat.le_refl _,hz4⟩
     have hW4:C4.k.W=(w3.alloc (.cells #[.int .i64 (v0:Int),.int .i64 0,.int .i64 0,.bool true] 94)):=by rw[← hC4]
     have hL4:C4.low=v0:=by rw[← hC4]
     have hE5:Hid (Ext C0.k C4.k B):=Lib.hid (by rw[← hC4];exact hE.out.trans hE4)
     have hat4:Hid (CAt C4 (w3.alloc (.cells #[.int .i64 (v0:Int),.int .i64 0,.int .i64 0,.bool true] 94)) b (.ok s)):=Lib.hid (by rw[← hC4];exact hat4)
     have hHe4:Hid (HeldC C4.k (w3.alloc (.cells #[.int .i64 (v0:Int),.int .i64 0,.int .i64 0,.bool true] 94)) B vl en T):=by rw[← hC4];exact hHe4
     have hBB:B≤w3.heap.size:=by
      have h1:=hE.out.base.2
      have h2:=hat3.out.size
      exact Nat.le_trans h1 h2
     clear hC4 hE4 hbl4 hHe3
     go_wp2_with (first|(go_at_call 47;refine(cname_at ‹_› hy0).mono ?_;rintro e w' ⟨v,rfl,hat5⟩)|(go_at_call 129;refine(cdotted_s ‹_› hy1 (fun j hj=>ih j (by omega))).mono ?_;rintro e w5 ⟨v,rfl,hat5⟩))
     obtain⟨v1,hv1,hv1f,HM1,hat6,hv1s'⟩:=cmark_raise hat5
     have hv1s:=Lib.hid hv1s'
     clear hv1s'
     go_wp2_with (go_at_call 61;refine HM1.out.mono ?_;rintro e w6 ⟨rfl,rfl⟩)
     go_at_call 63
     refine(clast_at hat6).mono ?_
     rintro e w7 ⟨rfl,hat7⟩
     have hb7:w7.heap[w3.heap.size]? = some (.cells #[.int .i64 (v0:Int),.int .i64 0,.int .i64 0,.bool true] 94 (0,0)):=by
      have h1:=(hat7.out.kept w3.heap.size hK4).1
      have h1:w7.heap[w3.heap.size]? = C4.k.W.heap[w3.heap.size]?:=h1
      rw[h1,hW4]
      exact hbx
     have hHe7:=Lib.hid (HeldC.call (C':=⟨C4.k,v1⟩) hHe4.out hat4.out rfl hat7.out)
     have hvne:vl.ownBlock≠some w3.heap.size:=fun e=>by have h8:=(hat.out.kept _ (hHe.out.held _ e)).2;have h9:C1.k.W.heap.size≤w3.heap.size:=hat3.out.size;omega
     obtain⟨lk,hlk⟩:∃ lk,yy.last=lk:=⟨_,rfl⟩
     rw[hlk]
     obtain⟨B1,hB1⟩:∃ B1,w3.heap.size=B1:=⟨_,rfl⟩
     rw[hB1] at hb7 hvne hK4 hBB
     have hs8:∀ k,k≠B1→((w7.setCell ⟨B1,1,none⟩ (.int .i64 (v1:Int))).setCell ⟨B1,2,none⟩ (.int .i64 lk)).heap[k]? = w7.heap[k]?:=fun k hk=>by rw[set_one _ _ _ _ _ hk,set_one _ _ _ _ _ hk]
     have hat8:Hid (CAt ⟨⟨(w7.setCell ⟨B1,1,none⟩ (.int .i64 (v1:Int))).setCell ⟨B1,2,none⟩ (.int .i64 lk),C4.k.K⟩,v1⟩ ((w7.setCell ⟨B1,1,none⟩ (.int .i64 (v1:Int))).setCell ⟨B1,2,none⟩ (.int .i64 lk)) b yy):=CAt.wrote hat7 hK4 ⟨_,_,_,hb7,by decide,by decide,by decide⟩ hs8 (by rw[size_set,size_set])
     have hHe8:HeldC ⟨(w7.setCell ⟨B1,1,none⟩ (.int .i64 (v1:Int))).setCell ⟨B1,2,none⟩ (.int .i64 lk),C4.k.K⟩ ((w7.setCell ⟨B1,1,none⟩ (.int .i64 (v1:Int))).setCell ⟨B1,2,none⟩ (.int .i64 lk)) B vl en T:=hHe7.out.same (fun k hk=>hs8 k (fun e=>hvne (by rw[← e];exact hk))) (fun k hk=>hk)
     have hE8:Ext C0.k ⟨(w7.setCell ⟨B1,1,none⟩ (.int .i64 (v1:Int))).setCell ⟨B1,2,none⟩ (.int .i64 lk),C4.k.K⟩ B:=ext_now hE5.out hat7.out (C':=⟨C4.k,v1⟩) rfl hs8 (by rw[size_set,size_set]) (fun k hk=>by rintro rfl;have:=(hE5.out.kept _ hk).1;omega) rfl rfl rfl
     obtain⟨va,wa,hra,C9,hE9,hL9,hat9,hHe9,_⟩:=HeldC.push (F:=en) (C:=C0) (C1:=⟨⟨(w7.setCell ⟨B1,1,none⟩ (.int .i64 (v1:Int))).setCell ⟨B1,2,none⟩ (.int .i64 lk),C4.k.K⟩,v1⟩) (by decide) hE8 hat8.out hHe8 (by omega) (by decide) ⟨v0,v1,lk,true⟩
     have hra':∀ ty,(Builtin.append_ #[90,90] ty #[vl,.slice (some ⟨w7.heap.size,0,none⟩) 1 1]).run Tryz.prog (((w7.setCell ⟨B1,1,none⟩ (.int .i64 (v1:Int))).setCell ⟨B1,2,none⟩ (.int .i64 lk)).alloc (.cells #[.int .i64 (v0:Int),.int .i64 (v1:Int),.int .i64 lk,.bool true] 94))=.ok va wa:=by
      have h9:=hra
      rw[size_set,size_set] at h9
      exact h9
     have HRA:=Lib.hid hra'
     clear hra'
     have f7:=frozen_of_row w7 B1 1 _ _ hb7
     have f8:=frozen_of_row w7 B1 2 _ _ hb7
     have y0:w7.cell? ⟨B1,0,none⟩=some (.int .i64 (v0:Int)):=by rw[cell_of_row w7 _ 0 _ _ _ hb7];rfl
     have y1':w7.cell? ⟨B1,1,none⟩=some (.int .i64 0):=by rw[cell_of_row w7 _ 1 _ _ _ hb7];rfl
     have y2:w7.cell? ⟨B1,2,none⟩=some (.int .i64 0):=by rw[cell_of_row w7 _ 2 _ _ _ hb7];rfl
     have y3:w7.cell? ⟨B1,3,none⟩=some (.bool true):=by rw[cell_of_row w7 _ 3 _ _ _ hb7];rfl
     have hat9h:=Lib.hid hat9
     have hHe9h:=Lib.hid hHe9
     have hE9h:=Lib.hid hE9
     have hF:=Lib.hid (And.intro hv0 (And.intro hv1 (And.intro hv0s.out (And.intro hv1s.out (And.intro hL4 hL9)))))
     clear hra hat9 hHe9 hE9 hE8 hHe8 hs8 hb7 hvne hv0 hv1 hv0s hv1s hL4 hL9 hW4 hbx hat0 hat6
     have hpre:=run_kp n .entry s yy s.R.length (Nat.le_refl _) (by intro m0 hm0;cases hm0) HYY.out
     by_cases hk60:yy.kind=60
     ·have hrr:=HRR.out
      rw[if_pos hk60] at hrr
      obtain⟨z60,hz60,hrr⟩:=bind_some hrr
      have HRR2:=Lib.hid hrr
      clear hrr
      obtain⟨t,rfl⟩:=ok_of_kind hk60 (by decide)
      have hz60':=hz60.out
      obtain⟨rfl,_⟩:=chk_ok hz60'
      go_wp2_with (first|(at_builtin;refine Lib.wpList_append_run _ rfl _ _ _ _ rfl _ _ rfl rfl _ _ (HRA.out _) ?_)|(go_at_call 83;(with_reducible refine(ccame_yes hat9h hk60 hz60).mono ?_);rintro e w10 ⟨rfl,hat10⟩))
      have hFo:=hF.out
      have hRe:Re C0 b B n y lf va w10 q:=⟨C9,_,T ++ [⟨v0,v1,lk,true⟩],_,hE9h,Lib.hid (by rw[hFo.2.2.2.2.2];exact Ch.snoc HRT.out.2.2 hFo.1 (by show v0≤v1;have:=hFo.2.1;omega) (Nat.le_refl _)),by rw[List.length_append];simp;omega,hat10,Lib.hid (hHe9h.out.call hat9h.out rfl hat10.out),HRR2,Lib.hid (ents_match HRT.out.2.1 (hFo.2.2.1 s rfl) (hFo.2.2.2.1 t rfl) hlk hnm HYY.out hpre)⟩
      go_roundw
      case rel=>exact⟨_,q,rfl,hRe⟩
      case measure=>
       have h5:=(Re.out hRe).2
       rw[hq]
       exact Nat.lt_succ_of_le h5
     ·have hrr:=HRR.out
      rw[if_neg hk60] at hrr
      cases hrr
      have hno60:(y.kind == 60)=false:=beq_eq_false_iff_ne.2 hk60
      go_wp2_with (first|(at_builtin;refine Lib.wpList_append_run _ rfl _ _ _ _ rfl _ _ rfl rfl _ _ (HRA.out _) ?_)|(go_at_call 83;(with_reducible refine(ccame_no hat9h hno60).mono ?_);rintro e w10 ⟨rfl,hat10⟩))
      go_ret
      have hFo:=hF.out
      exact⟨_,C9,_,rfl,hE9h,Lib.hid (by rw[hFo.2.2.2.2.2];exact Ch.snoc HRT.out.2.2 hFo.1 (by show v0≤v1;have:=hFo.2.1;omega) (Nat.le_refl _)),by rw[List.length_append];simp;omega,hat10,Lib.hid (hHe9h.out.call hat9h.out rfl hat10.out),Lib.hid (ents_end HRT.out.2.1 (hFo.2.2.1 s rfl) hFo.2.2.2.1 hlk hnm HYY.out hpre)⟩
    |false=>
     rw[hnm,if_neg (by simp)] at hy0
     obtain rfl:=Option.some.inj hy0.out
     go_wp2_with (go_at_call 57;first|(refine(ckind_is ‹_› ‹_›).mono ?_;rintro e w1 ⟨rfl,hat1⟩)|(refine(ckind_at ‹_›).mono ?_;rintro e w1 ⟨rfl,hat1⟩))
     obtain⟨v0,hv0,hv0f,HM0,hat0,hv0s'⟩:=cmark_raise hat1
     have hv0s:=Lib.hid hv0s'
     clear hv0s'
     have HN0:=Lib.hid (cnamed_at hat0)
     rw[hnm] at HN0
     go_wp2_with (first|(go_at_call 61;refine HM0.out.mono ?_;rintro e w2 ⟨rfl,rfl⟩)|(go_at_call 128;refine HN0.out.mono ?_;rintro e w3 ⟨rfl,hat3⟩))
     have hHe3:=HeldC.call (C':=⟨C1.k,v0⟩) hHe.out hat.out rfl hat3.out
     have hbl4:Below w3.heap.size w3 (w3.alloc (.cells #[.int .i64 (v0:Int),.int .i64 0,.int .i64 0,.bool false] 94)):=(Below.refl _ _).alloc (Nat.le_refl _) _
     obtain⟨hE4,hat4⟩:=Ext.startC hat3.out hbl4
     have hHe4:=Lib.hid (hHe3.start hbl4)
     have hbx:=heap_alloc_last w3 (.cells #[.int .i64 (v0:Int),.int .i64 0,.int .i64 0,.bool false] 94)
     have hz4:w3.heap.size<(w3.alloc (.cells #[.int .i64 (v0:Int),.int .i64 0,.int .i64 0,.bool false] 94)).heap.size:=by rw[World.size_alloc];omega
     obtain⟨C4,hC4⟩:∃ C4:Kc,(⟨⟨(w3.alloc (.cells #[.int .i64 (v0:Int),.int .i64 0,.int .i64 0,.bool false] 94)),fun k=>C1.k.K k∨(w3.heap.size≤k∧k<(w3.alloc (.cells #[.int .i64 (v0:Int),.int .i64 0,.int .i64 0,.bool false] 94)).heap.size)⟩,v0⟩:Kc)=C4:=⟨_,rfl⟩
     have hK4:C4.k.K w3.heap.size:=by rw[← hC4];exact .inr ⟨Nat.le_refl _,hz4⟩
     have hW4:C4.k.W=(w3.alloc (.cells #[.int .i64 (v0:Int),.int .i64 0,.int .i64 0,.bool false] 94)):=by rw[← hC4]
     have hL4:C4.low=v0:=by rw[← hC4]
     have hE5:Hid (Ext C0.k C4.k B):=Lib.hid (by rw[← hC4];exact hE.out.trans hE4)
     have hat4:Hid (CAt C4 (w3.alloc (.cells #[.int .i64 (v0:Int),.int .i64 0,.int .i64 0,.bool false] 94)) b (.ok s)):=Lib.hid (by rw[← hC4];exact hat4)
     have hHe4:Hid (HeldC C4.k (w3.alloc (.cells #[.int .i64 (v0:Int),.int .i64 0,.int .i64 0,.bool false] 94)) B vl en T):=by rw[← hC4];exact hHe4
     have hBB:B≤w3.heap.size:=by
      have h1:=hE.out.base.2
      have h2:=hat3.out.size
      exact Nat.le_trans h1 h2
     clear hC4 hE4 hbl4 hHe3
     go_wp2_with (first|(go_at_call 47;refine(cname_at ‹_› hy0).mono ?_;rintro e w' ⟨v,rfl,hat5⟩)|(go_at_call 129;refine(cdotted_s ‹_› hy1 (fun j hj=>ih j (by omega))).mono ?_;rintro e w5 ⟨v,rfl,hat5⟩))
     obtain⟨v1,hv1,hv1f,HM1,hat6,hv1s'⟩:=cmark_raise hat5
     have hv1s:=Lib.hid hv1s'
     clear hv1s'
     go_wp2_with (go_at_call 61;refine HM1.out.mono ?_;rintro e w6 ⟨rfl,rfl⟩)
     go_at_call 63
     refine(clast_at hat6).mono ?_
     rintro e w7 ⟨rfl,hat7⟩
     have hb7:w7.heap[w3.heap.size]? = some (.cells #[.int .i64 (v0:Int),.int .i64 0,.int .i64 0,.bool false] 94 (0,0)):=by
      have h1:=(hat7.out.kept w3.heap.size hK4).1
      have h1:w7.heap[w3.heap.size]? = C4.k.W.heap[w3.heap.size]?:=h1
      rw[h1,hW4]
      exact hbx
     have hHe7:=Lib.hid (HeldC.call (C':=⟨C4.k,v1⟩) hHe4.out hat4.out rfl hat7.out)
     have hvne:vl.ownBlock≠some w3.heap.size:=fun e=>by have h8:=(hat.out.kept _ (hHe.out.held _ e)).2;have h9:C1.k.W.heap.size≤w3.heap.size:=hat3.out.size;omega
     obtain⟨lk,hlk⟩:∃ lk,yy.last=lk:=⟨_,rfl⟩
     rw[hlk]
     obtain⟨B1,hB1⟩:∃ B1,w3.heap.size=B1:=⟨_,rfl⟩
     rw[hB1] at hb7 hvne hK4 hBB
     have hs8:∀ k,k≠B1→((w7.setCell ⟨B1,1,none⟩ (.int .i64 (v1:Int))).setCell ⟨B1,2,none⟩ (.int .i64 lk)).heap[k]? = w7.heap[k]?:=fun k hk=>by rw[set_one _ _ _ _ _ hk,set_one _ _ _ _ _ hk]
     have hat8:Hid (CAt ⟨⟨(w7.setCell ⟨B1,1,none⟩ (.int .i64 (v1:Int))).setCell ⟨B1,2,none⟩ (.int .i64 lk),C4.k.K⟩,v1⟩ ((w7.setCell ⟨B1,1,none⟩ (.int .i64 (v1:Int))).setCell ⟨B1,2,none⟩ (.int .i64 lk)) b yy):=CAt.wrote hat7 hK4 ⟨_,_,_,hb7,by decide,by decide,by decide⟩ hs8 (by rw[size_set,size_set])
     have hHe8:HeldC ⟨(w7.setCell ⟨B1,1,none⟩ (.int .i64 (v1:Int))).setCell ⟨B1,2,none⟩ (.int .i64 lk),C4.k.K⟩ ((w7.setCell ⟨B1,1,none⟩ (.int .i64 (v1:Int))).setCell ⟨B1,2,none⟩ (.int .i64 lk)) B vl en T:=hHe7.out.same (fun k hk=>hs8 k (fun e=>hvne (by rw[← e];exact hk))) (fun k hk=>hk)
     have hE8:Ext C0.k ⟨(w7.setCell ⟨B1,1,none⟩ (.int .i64 (v1:Int))).setCell ⟨B1,2,none⟩ (.int .i64 lk),C4.k.K⟩ B:=ext_now hE5.out hat7.out (C':=⟨C4.k,v1⟩) rfl hs8 (by rw[size_set,size_set]) (fun k hk=>by rintro rfl;have:=(hE5.out.kept _ hk).1;omega) rfl rfl rfl
     obtain⟨va,wa,hra,C9,hE9,hL9,hat9,hHe9,_⟩:=HeldC.push (F:=en) (C:=C0) (C1:=⟨⟨(w7.setCell ⟨B1,1,none⟩ (.int .i64 (v1:Int))).setCell ⟨B1,2,none⟩ (.int .i64 lk),C4.k.K⟩,v1⟩) (by decide) hE8 hat8.out hHe8 (by omega) (by decide) ⟨v0,v1,lk,false⟩
     have hra':∀ ty,(Builtin.append_ #[90,90] ty #[vl,.slice (some ⟨w7.heap.size,0,none⟩) 1 1]).run Tryz.prog (((w7.setCell ⟨B1,1,none⟩ (.int .i64 (v1:Int))).setCell ⟨B1,2,none⟩ (.int .i64 lk)).alloc (.cells #[.int .i64 (v0:Int),.int .i64 (v1:Int),.int .i64 lk,.bool false] 94))=.ok va wa:=by
      have h9:=hra
      rw[size_set,size_set] at h9
      exact h9
     have HRA:=Lib.hid hra'
     clear hra'
     have f7:=frozen_of_row w7 B1 1 _ _ hb7
     have f8:=frozen_of_row w7 B1 2 _ _ hb7
     have y0:w7.cell? ⟨B1,0,none⟩=some (.int .i64 (v0:Int)):=by rw[cell_of_row w7 _ 0 _ _ _ hb7];rfl
     have y1':w7.cell? ⟨B1,1,none⟩=some (.int .i64 0):=by rw[cell_of_row w7 _ 1 _ _ _ hb7];rfl
     have y2:w7.cell? ⟨B1,2,none⟩=some (.int .i64 0):=by rw[cell_of_row w7 _ 2 _ _ _ hb7];rfl
     have y3:w7.cell? ⟨B1,3,none⟩=some (.bool false):=by rw[cell_of_row w7 _ 3 _ _ _ hb7];rfl
     have hat9h:=Lib.hid hat9
     have hHe9h:=Lib.hid hHe9
     have hE9h:=Lib.hid hE9
     have hF:=Lib.hid (And.intro hv0 (And.intro hv1 (And.intro hv0s.out (And.intro hv1s.out (And.intro hL4 hL9)))))
     clear hra hat9 hHe9 hE9 hE8 hHe8 hs8 hb7 hvne hv0 hv1 hv0s hv1s hL4 hL9 hW4 hbx hat0 hat6
     have hpre:=run_kp n .entry s yy s.R.length (Nat.le_refl _) (by intro m0 hm0;cases hm0) HYY.out
     by_cases hk60:yy.kind=60
     ·have hrr:=HRR.out
      rw[if_pos hk60] at hrr
      obtain⟨z60,hz60,hrr⟩:=bind_some hrr
      have HRR2:=Lib.hid hrr
      clear hrr
      obtain⟨t,rfl⟩:=ok_of_kind hk60 (by decide)
      have hz60':=hz60.out
      obtain⟨rfl,_⟩:=chk_ok hz60'
      go_wp2_with (first|(at_builtin;refine Lib.wpList_append_run _ rfl _ _ _ _ rfl _ _ rfl rfl _ _ (HRA.out _) ?_)|(go_at_call 83;(with_reducible refine(ccame_yes hat9h hk60 hz60).mono ?_);rintro e w10 ⟨rfl,hat10⟩))
      have hFo:=hF.out
      have hRe:Re C0 b B n y lf va w10 q:=⟨C9,_,T ++ [⟨v0,v1,lk,false⟩],_,hE9h,Lib.hid (by rw[hFo.2.2.2.2.2];exact Ch.snoc HRT.out.2.2 hFo.1 (by show v0≤v1;have:=hFo.2.1;omega) (Nat.le_refl _)),by rw[List.length_append];simp;omega,hat10,Lib.hid (hHe9h.out.call hat9h.out rfl hat10.out),HRR2,Lib.hid (ents_match HRT.out.2.1 (hFo.2.2.1 s rfl) (hFo.2.2.2.1 t rfl) hlk hnm HYY.out hpre)⟩
      go_roundw
      case rel=>exact⟨_,q,rfl,hRe⟩
      case measure=>
       have h5:=(Re.out hRe).2
       rw[hq]
       exact Nat.lt_succ_of_le h5
     ·have hrr:=HRR.out
      rw[if_neg hk60] at hrr
      cases hrr
      have hno60:(y.kind == 60)=false:=beq_eq_false_iff_ne.2 hk60
      go_wp2_with (first|(at_builtin;refine Lib.wpList_append_run _ rfl _ _ _ _ rfl _ _ rfl rfl _ _ (HRA.out _) ?_)|(go_at_call 83;(with_reducible refine(ccame_no hat9h hno60).mono ?_);rintro e w10 ⟨rfl,hat10⟩))
      go_ret
      have hFo:=hF.out
      exact⟨_,C9,_,rfl,hE9h,Lib.hid (by rw[hFo.2.2.2.2.2];exact Ch.snoc HRT.out.2.2 hFo.1 (by show v0≤v1;have:=hFo.2.1;omega) (Nat.le_refl _)),by rw[List.length_append];simp;omega,hat10,Lib.hid (hHe9h.out.call hat9h.out rfl hat10.out),Lib.hid (ents_end HRT.out.2.1 (hFo.2.2.1 s rfl) hFo.2.2.2.1 hlk hnm HYY.out hpre)⟩
open Go.RowKit
theorem params1_any (f t k:Int) (is:Bool) (w:World):Calls Tryz.prog 101 #[.agg #[.int .i64 f,.int .i64 t,.int .i64 k,.bool is]] w fun e w'=>e=.returned (.bool is)∧Below w.heap.size w w':=by
 go_enter Tryz.func101,Tryz.ntmps101
 go_wp2_with fail
 go_ret
 exact⟨rfl,(Below.refl _ _).alloc (Nat.le_refl _) _⟩
theorem any_drop {T:List En} {i:Nat} (hi:i<T.length):(T.drop i).any En.is=(T[i].is || (T.drop (i+1)).any En.is):=by
 rw[List.drop_eq_getElem_cons hi,List.any_cons]
theorem cindexFunc_any {w:World} {v:Value} {T:List En} (h:Row en w v T) (hl:T.length≤1099511627776):Calls Tryz.prog 130 #[v,.func (.func 101) #[] #[]] w fun e w'=>∃ r:Int,e=.returned (.int .i64 r)∧decide (0≤r)=T.any En.is∧Below w.heap.size w w':=by
 obtain⟨g,off,o,cap,hc,hv,ho,hcell⟩:=h.lt
 subst hv
 have HO:=Lib.hid ho
 have HC:=Lib.hid hcell
 clear h ho hcell
 obtain⟨len,hlen⟩:∃ len,T.length=len:=⟨_,rfl⟩
 have HLN:=Lib.hid hlen
 rw[hlen] at hc hl ⊢
 clear hlen
 go_enter Tryz.func130,Tryz.ntmps130
 go_wp2_with fail
 go_loopw [8] (fun p wr=>∃ i:Nat,i≤len∧p=.int .i64 (i:Int)∧(T.drop i).any En.is=T.any En.is∧Below w.heap.size w wr) (fun p _=>len - (intOf p).toNat)
 case atStart=>exact⟨0,Nat.zero_le _,rfl,rfl,Below.refl _ _⟩
 case round=>
  obtain⟨i,hil,rfl,hany,hb⟩:=hrel
  have HAN:=Lib.hid hany
  clear hany
  by_cases hlt:i<len
  ·have hltT:i<T.length:=by rw[HLN.out];exact hlt
   have hoo:=(HO.out (by intro e;rw[e] at hltT;simp at hltT)).1
   have HB:=Lib.hid hb
   obtain⟨c0,c1,c2,c3⟩:=cells_en HC.out i hltT
   have hgz:g<w.heap.size:=World.block_lt_of_cell? _ _ c0
   have d0:=(hb.cell (p:=⟨g,off+i*4,none⟩) hgz).trans c0
   have d1:=(hb.cell (p:=⟨g,off+i*4+1,none⟩) hgz).trans c1
   have d2:=(hb.cell (p:=⟨g,off+i*4+2,none⟩) hgz).trans c2
   have d3:=(hb.cell (p:=⟨g,off+i*4+3,none⟩) hgz).trans c3
   have hann:=any_drop hltT
   rw[hann] at HAN
   generalize T[i]=en0 at *
   obtain⟨ef,et,ek,eis⟩:=en0
   simp only[] at d0 d1 d2 d3 HAN
   subst hoo
   have hd:decide ((i:Int)<(len:Int))=true:=decide_eq_true (by omega)
   have hd':decide (i<len)=true:=decide_eq_true hlt
   have hq0:(0:Int)≤(i:Int):=by omega
   have hw1:(i:Int)+1≤1099511627777:=by omega
   clear c0 c1 c2 c3 hann hb
   cases eis with
   |true=>
    go_wp2_with (go_at_call 101;refine(params1_any _ _ _ _ _).mono ?_;rintro e w2 ⟨rfl,hb2⟩)
    go_ret
    exact⟨_,rfl,by rw[← HAN.out,Bool.true_or];exact decide_eq_true (by omega),HB.out.trans (hb2.mono HB.out.size)⟩
   |false=>
    go_wp2_with (go_at_call 101;refine(params1_any _ _ _ _ _).mono ?_;rintro e w2 ⟨rfl,hb2⟩)
    go_roundw
    case rel=>exact⟨i+1,by omega,by go_num,by rw[← HAN.out,Bool.false_or],HB.out.trans (hb2.mono HB.out.size)⟩
    case measure=>simp [intOf];omega
  ·have hd:decide ((i:Int)<(len:Int))=false:=decide_eq_false (by omega)
   have hd':decide (i<len)=false:=decide_eq_false hlt
   have hT:T.drop i=[]:=List.drop_of_length_le (by rw[HLN.out];omega)
   rw[hT] at HAN
   clear hT
   go_wp2_with fail
   go_ret
   exact⟨_,rfl,by rw[← HAN.out];rfl,hb⟩
theorem ccontainsFunc_any {w:World} {v:Value} {T:List En} (h:Row en w v T) (hl:T.length≤1099511627776):Calls Tryz.prog 100 #[v,.func (.func 101) #[] #[]] w fun e w'=>e=.returned (.bool (T.any En.is))∧Below w.heap.size w w':=by
 have HX:=Lib.hid (cindexFunc_any h hl)
 clear h
 generalize T.any En.is=a at *
 go_enter Tryz.func100,Tryz.ntmps100
 go_wp2_with (go_at_call 130;refine HX.out.mono ?_;rintro e w2 ⟨r,rfl,hr,hb2⟩)
 go_ret
 exact⟨by rw[← hr];rfl,hb2⟩
def fitE (T:List En):Bool:=T.all (fun e=>e.is || e.k == 201) && (match T.getLast? with|some e=>e.is|none=>false)
theorem all_drop {T:List En} {i:Nat} (hi:i<T.length):(T.drop i).all (fun e=>e.is || e.k == 201)=((T[i].is || T[i].k == 201) && (T.drop (i+1)).all (fun e=>e.is || e.k == 201)):=by
 rw[List.drop_eq_getElem_cons hi,List.all_cons]
theorem cfit_any {w:World} {v:Value} {T:List En} (h:Row en w v T) (hl:T.length≤1099511627776) (h0:0<T.length):Calls Tryz.prog 102 #[v] w fun e w'=>e=.returned (.bool (fitE T))∧Below w.heap.size w w':=by
 obtain⟨g,off,o,cap,hc,hv,ho,hcell⟩:=h.lt
 subst hv
 have HO:=Lib.hid ho
 have HC:=Lib.hid hcell
 clear h ho hcell
 obtain⟨len,hlen⟩:∃ len,T.length=len:=⟨_,rfl⟩
 have HLN:=Lib.hid hlen
 rw[hlen] at hc hl ⊢
 clear hlen
 have h0':0<T.length:=h0
 rw[HLN.out] at h0
 have hq1:len - 1<T.length:=by rw[HLN.out];omega
 obtain⟨le,hle⟩:∃ le,T[len - 1]'hq1=le:=⟨_,rfl⟩
 have hlast:T.getLast? = some le:=by rw[List.getLast?_eq_getElem?,show T.length - 1=len - 1 by rw[HLN.out],List.getElem?_eq_getElem hq1,hle]
 have hoo:=(HO.out (by intro e;rw[e] at h0';simp at h0')).1
 subst hoo
 have c0:=(cells_en HC.out (len - 1) hq1).1
 have c3:=(cells_en HC.out (len - 1) hq1).2.2.2
 rw[hle] at c3
 have hgz:g<w.heap.size:=World.block_lt_of_cell? _ _ c0
 have hfe:fitE T=(T.all (fun e=>e.is || e.k == 201) && le.is):=by unfold fitE;rw[hlast]
 rw[hfe]
 obtain⟨lis,hlis⟩:∃ lis,le.is=lis:=⟨_,rfl⟩
 rw[hlis] at c3 ⊢
 obtain⟨q,hq⟩:∃ q,len - 1=q:=⟨_,rfl⟩
 rw[hq] at c3
 have HQ:Hid (q+1=len):=Lib.hid (by omega)
 have HL3:=Lib.hid c3
 clear c3 c0 hlast h0' hfe hle hlis hq1 hq
 go_enter Tryz.func102,Tryz.ntmps102
 go_wp2_with fail
 go_loopw [7] (fun p wr=>∃ i:Nat,i≤len∧p=.int .i64 (i:Int)∧(T.drop i).all (fun e=>e.is || e.k == 201)=T.all (fun e=>e.is || e.k == 201)∧Below w.heap.size w wr) (fun p _=>len - (intOf p).toNat)
 case atStart=>exact⟨0,Nat.zero_le _,rfl,rfl,Below.refl _ _⟩
 case round=>
  obtain⟨i,hil,rfl,hall,hb⟩:=hrel
  have HAN:=Lib.hid hall
  clear hall
  by_cases hlt:i<len
  ·have hltT:i<T.length:=by rw[HLN.out];exact hlt
   have HB:=Lib.hid hb
   obtain⟨c0,c1,c2,c3⟩:=cells_en HC.out i hltT
   have d0:=(hb.cell (p:=⟨g,off+i*4,none⟩) hgz).trans c0
   have d1:=(hb.cell (p:=⟨g,off+i*4+1,none⟩) hgz).trans c1
   have d2:=(hb.cell (p:=⟨g,off+i*4+2,none⟩) hgz).trans c2
   have d3:=(hb.cell (p:=⟨g,off+i*4+3,none⟩) hgz).trans c3
   have hann:=all_drop hltT
   rw[hann] at HAN
   generalize T[i]=en0 at *
   obtain⟨ef,et,ek,eis⟩:=en0
   simp only[] at d0 d1 d2 d3 HAN
   have hd:decide ((i:Int)<(len:Int))=true:=decide_eq_true (by omega)
   have hd':decide (i<len)=true:=decide_eq_true hlt
   have hq0:(0:Int)≤(i:Int):=by omega
   have hw1:(i:Int)+1≤1099511627777:=by omega
   clear c0 c1 c2 c3 hann hb
   cases eis with
   |true=>
    go_wp2_with fail
    go_roundw
    case rel=>exact⟨i+1,by omega,by go_num,by rw[← HAN.out];simp,HB.out.alloc HB.out.size _⟩
    case measure=>simp [intOf];omega
   |false=>
    by_cases hk:ek=201
    ·subst hk
     go_wp2_with fail
     go_roundw
     case rel=>exact⟨i+1,by omega,by go_num,by rw[← HAN.out];simp,HB.out.alloc HB.out.size _⟩
     case measure=>simp [intOf];omega
    ·have EK:=Lib.hid (beq_eq_false_iff_ne.2 hk)
     have ek3:(ek != 201)=true:=bne_iff_ne.2 hk
     clear hk
     go_wp2_with fail
     go_ret
     exact⟨by rw[← HAN.out,EK.out];rfl,HB.out.alloc HB.out.size _⟩
  ·have hd:decide ((i:Int)<(len:Int))=false:=decide_eq_false (by omega)
   have hd':decide (i<len)=false:=decide_eq_false hlt
   have hT:T.drop i=[]:=List.drop_of_length_le (by rw[HLN.out];omega)
   rw[hT] at HAN
   have d3:=(hb.cell (p:=⟨g,off+q*4+3,none⟩) hgz).trans HL3.out
   have hq0:(0:Int)≤(q:Int):=by omega
   have hq1:(q:Int)<(len:Int):=by have:=HQ.out;omega
   have hw:IntKind.i64.wrap ((len:Int) - 1)=(q:Int):=by have:=HQ.out;rw[IntWalk.i64_in _ (by omega)];omega
   clear hT
   go_wp2_with fail
   go_ret
   exact⟨by rw[← HAN.out];rfl,hb⟩
def nxF (m:Nat):List En→Nat
 |[]=>m
 |f::_=>f.f
def grp:Nat→List En→List En
 |_,[]=>[]
 |m,e::r=>if e.is then⟨m,e.t,0,false⟩::grp (nxF m r) r else grp m r
theorem grp_drop {T:List En} {i m:Nat} (hi:i<T.length):grp m (T.drop i)=if T[i].is then⟨m,T[i].t,0,false⟩::grp (nxF m (T.drop (i+1))) (T.drop (i+1)) else grp m (T.drop (i+1)):=by
 rw[List.drop_eq_getElem_cons hi,grp]
theorem grp_len:∀ (T:List En) (m:Nat),(grp m T).length≤T.length
 |[],_=>Nat.le_refl _
 |e::r,m=>by
  rw[grp]
  split
  ·have:=grp_len r (nxF m r)
   rw[List.length_cons,List.length_cons];omega
  ·have:=grp_len r m
   rw[List.length_cons];omega
theorem cgrouped_any {w:World} {v:Value} {T:List En} (h:Row en w v T) (hl:T.length≤1099511627776) (h0:0<T.length):Calls Tryz.prog 103 #[v] w fun e w'=>∃ v',e=.returned v'∧Mine en w' w.heap.size v' (grp (T[0]).f T)∧Below w.heap.size w w':=by
 obtain⟨m0,hm0⟩:∃ m0,(T[0]).f=m0:=⟨_,rfl⟩
 rw[hm0]
 obtain⟨G,hG⟩:∃ G,grp m0 T=G:=⟨_,rfl⟩
 rw[hG]
 have HG:=Lib.hid hG
 have hgl:G.length≤T.length:=by rw[← hG];exact grp_len _ _
 clear hG
 obtain⟨g,off,o,cap,hc,hv,ho,hcell⟩:=h.lt
 subst hv
 have HO:=Lib.hid ho
 have HC:=Lib.hid hcell
 clear h ho hcell
 obtain⟨len,hlen⟩:∃ len,T.length=len:=⟨_,rfl⟩
 have HLN:=Lib.hid hlen
 rw[hlen] at hc hl ⊢
 clear hlen
 rw[HLN.out] at hgl
 have h0':0<T.length:=h0
 rw[HLN.out] at h0
 have hoo:=(HO.out (by intro e;rw[e] at h0';simp at h0')).1
 subst hoo
 obtain⟨c0,_⟩:=cells_en HC.out 0 h0'
 rw[hm0] at c0
 simp only[Nat.zero_mul,Nat.add_zero] at c0
 have hgz:g<w.heap.size:=World.block_lt_of_cell? _ _ c0
 clear hm0
 go_enter Tryz.func103,Tryz.ntmps103
 go_wp2_with fail
 go_loopw [3,4,13] (fun pg pf p wr=>∃ (i m:Nat) (vg:Value) (acc:List En),vg=pg∧i≤len∧p=.int .i64 (i:Int)∧pf=.int .i64 (m:Int)∧acc ++ grp m (T.drop i)=G∧Mine en wr w.heap.size vg acc∧Below w.heap.size w wr) (fun _ _ p _=>len - (intOf p).toNat)
 case atStart=>exact⟨0,m0,_,[],rfl,Nat.zero_le _,rfl,rfl,by rw[List.drop_zero];exact HG.out,Mine.nil _ _,Below.refl _ _⟩
 case round=>
  obtain⟨i,m,vg,acc,rfl,hil,rfl,rfl,hacc,hM,hb⟩:=hrel
  have hal:acc.length≤len:=by
   have:=congrArg List.length hacc
   rw[List.length_append] at this
   omega
  have HAC:=Lib.hid hacc
  have HM:=Lib.hid hM
  have HB:=Lib.hid hb
  clear hacc
  by_cases hlt:i<len
  ·have hltT:i<T.length:=by rw[HLN.out];exact hlt
   obtain⟨c0,c1,c2,c3⟩:=cells_en HC.out i hltT
   have d0:=(hb.cell (p:=⟨g,off+i*4,none⟩) hgz).trans c0
   have d1:=(hb.cell (p:=⟨g,off+i*4+1,none⟩) hgz).trans c1
   have d2:=(hb.cell (p:=⟨g,off+i*4+2,none⟩) hgz).trans c2
   have d3:=(hb.cell (p:=⟨g,off+i*4+3,none⟩) hgz).trans c3
   have hdr:=grp_drop (m:=m) hltT
   rw[hdr] at HAC
   have hnx:∀ (h1:i+1<len),∃ f1:Nat,(nxF m (T.drop (i+1)))=f1∧w.cell? ⟨g,off+(i+1)*4,none⟩=some (.int .i64 (f1:Int)):=fun h1=>by
    have h2:i+1<T.length:=by rw[HLN.out];exact h1
    exact⟨T[i+1].f,by rw[List.drop_eq_getElem_cons h2];rfl,(cells_en HC.out (i+1) h2).1⟩
   have hny:¬ (i+1<len)→T.drop (i+1)=[]:=fun h1=>List.drop_of_length_le (by rw[HLN.out];omega)
   generalize T[i]=en0 at *
   obtain⟨ef,et,ek,eis⟩:=en0
   simp only[] at d0 d1 d2 d3 HAC
   have HNX:=Lib.hid hnx
   have HNY:=Lib.hid hny
   have hd:decide ((i:Int)<(len:Int))=true:=decide_eq_true (by omega)
   have hd':decide (i<len)=true:=decide_eq_true hlt
   have hq0:(0:Int)≤(i:Int):=by omega
   have hw1:(i:Int)+1≤1099511627777:=by omega
   clear c0 c1 c2 c3 hdr hb hM hnx hny
   cases eis with
   |false=>
    rw[if_neg (by simp)] at HAC
    go_wp2_with fail
    go_roundw
    case rel=>exact⟨i+1,m,_,acc,rfl,by omega,by go_num,rfl,HAC.out,HM.out.below ((Below.refl _ _).alloc (Nat.le_refl _) _),HB.out.alloc HB.out.size _⟩
    case measure=>simp [intOf];omega
   |true=>
    rw[if_pos rfl] at HAC
    have hb1:Below wr.heap.size wr (wr.alloc (.cells #[.int .i64 (ef:Int),.int .i64 (et:Int),.int .i64 ek,.bool true] 94)):=(Below.refl _ _).alloc (Nat.le_refl _) _
    have hb2:=hb1.alloc hb1.size (.cells #[.int .i64 (m:Int),.int .i64 (et:Int),.int .i64 0,.bool false] 94)
    have hz1:(wr.alloc (.cells #[.int .i64 (ef:Int),.int .i64 (et:Int),.int .i64 ek,.bool true] 94)).heap.size=wr.heap.size+1:=World.size_alloc _ _
    obtain⟨gA,capA,wA,hA1,hA2,hA3,hA4⟩:=app_lies (F:=en) (x:=⟨m,et,0,false⟩) (HM.out.below hb2) (heap_alloc_last (wr.alloc (.cells #[.int .i64 (ef:Int),.int .i64 (et:Int),.int .i64 ek,.bool true] 94)) _) (Nat.le_trans HB.out.size hb2.size) (by simp [maxLen];omega) (by show(acc.length+1)*32≤_;omega)
    rw[hz1] at hA1
    have HA1:=Lib.hid hA1
    have hBA:Below w.heap.size w wA:=by
     have h1:Below w.heap.size w _:=HB.out.trans (hb2.mono HB.out.size)
     refine⟨hA3.os.trans h1.os,hA3.tape.trans h1.tape,hA3.output.trans h1.output,Nat.le_trans h1.size hA3.size,fun k hk=>?_⟩
     refine(hA3.block k (Nat.lt_of_lt_of_le hk h1.size) (fun e=>?_)).trans (h1.block k hk)
     have:=(World.ownsRow.lt HM.out k e.symm).1
     omega
    have hfA:=hBA
    clear hA1 hz1 hb1 hb2
    by_cases h1:i+1<len
    ·obtain⟨f1,hf1,hcf⟩:=HNX.out h1
     rw[hf1] at HAC
     have k0:=(hfA.cell (p:=⟨g,off+(i+1)*4,none⟩) hgz).trans hcf
     have hd2:decide ((i:Int)+1<(len:Int))=true:=decide_eq_true (by omega)
     have hq2:(0:Int)≤(i:Int)+1:=by omega
     have hq3:(i:Int)+1<(len:Int):=by omega
     have hq4:((i:Int)+1).toNat=i+1:=by omega
     clear hcf hf1
     go_wp2_with (at_builtin;refine Lib.wpList_append_run _ rfl _ _ _ _ rfl _ _ rfl rfl _ _ (HA1.out _) ?_)
     go_roundw
     case rel=>exact⟨i+1,f1,_,_,rfl,by omega,by go_num,rfl,by rw[List.append_assoc];exact HAC.out,hA2,hBA⟩
     case measure=>simp [intOf];omega
    ·rw[HNY.out h1] at HAC
     have hd2:decide ((i:Int)+1<(len:Int))=false:=decide_eq_false (by omega)
     go_wp2_with (at_builtin;refine Lib.wpList_append_run _ rfl _ _ _ _ rfl _ _ rfl rfl _ _ (HA1.out _) ?_)
     go_roundw
     case rel=>exact⟨i+1,m,_,_,rfl,by omega,by go_num,rfl,by rw[HNY.out h1,List.append_assoc];exact HAC.out,hA2,hBA⟩
     case measure=>simp [intOf];omega
  ·have hd:decide ((i:Int)<(len:Int))=false:=decide_eq_false (by omega)
   have hd':decide (i<len)=false:=decide_eq_false hlt
   have hT:T.drop i=[]:=List.drop_of_length_le (by rw[HLN.out];omega)
   rw[hT,grp,List.append_nil] at HAC
   clear hT
   go_wp2_with fail
   go_ret
   exact⟨_,rfl,by rw[← HAC.out];exact hM,hb⟩
open Go.RowKit
def RowG (w:World) (g:Nat) (v:Value) (T:List Bn):Prop:=∃ (off:Nat) (o:Option Addr) (cap:Nat),T.length≤cap∧v=.slice o T.length cap∧(T≠[]→o=some ⟨g,off,none⟩)∧Cells bt w g off T
theorem RowG.row {w:World} {g:Nat} {v:Value} {T:List Bn} (h:RowG w g v T):Row bt w v T:=by
 obtain⟨off,o,cap,h1,h2,h3,h4⟩:=h
 exact⟨g,off,o,cap,h1,h2,h3,h4⟩
theorem RowG.keep {w w':World} {g:Nat} {v:Value} {T:List Bn} (h:RowG w g v T) (hs:w'.heap[g]? = w.heap[g]?):RowG w' g v T:=by
 obtain⟨off,o,cap,h1,h2,h3,h4⟩:=h
 exact⟨off,o,cap,h1,h2,h3,fun j u hu=>(cell_same hs _).trans (h4 j u hu)⟩
theorem RowG.parts {w:World} {g:Nat} {v:Value} {T:List Bn} (h:RowG w g v T) (n:Nat) (hn:n≤T.length):∃ va vb,(∀ u,(Instr.slice 59 v none (some (.int .i64 (n:Int))) none).run Tryz.prog u=.ok va u)∧(∀ u,(Instr.slice 59 v (some (.int .i64 (n:Int))) none none).run Tryz.prog u=.ok vb u)∧RowG w g va (T.take n)∧RowG w g vb (T.drop n):=by
 obtain⟨off,o,cap,hc,hv,ho,hcell⟩:=h
 subst hv
 have hl1:(T.take n).length=n:=by rw[List.length_take];omega
 have hl2:(T.drop n).length=T.length - n:=List.length_drop ..
 refine⟨.slice (if cap=0 then o else o.map (·.add (0*bt.k))) n cap,.slice (if cap=n then o else o.map (·.add (n*bt.k))) (T.length - n) (cap - n),fun u=>?_,fun u=>?_,⟨off,_,cap,by rw[hl1];omega,by rw[hl1],fun hne=>?_,hcell.take n⟩,⟨off+n*bt.k,_,cap - n,by rw[hl2];omega,by rw[hl2],fun hne=>?_,hcell.drop n⟩⟩
 ·show(Instr.slice bt.t (.slice o T.length cap) none (some (.int .i64 (n:Int))) none).run Tryz.prog u=_
  rw[run_slice_h (P:=Tryz.prog) (w:=u) (t:=bt.t) (a:=o) (len:=T.length) (cap:=cap) (ht:=bt.ht') .i64 (n:Int) (by omega) (by omega)]
  rw[bt.hs]
  rfl
 ·show(Instr.slice bt.t (.slice o T.length cap) (some (.int .i64 (n:Int))) none none).run Tryz.prog u=_
  rw[run_slice_l (P:=Tryz.prog) (w:=u) (t:=bt.t) (a:=o) (len:=T.length) (cap:=cap) (ht:=bt.ht') .i64 (n:Int) (by omega) (by omega)]
  rw[bt.hs]
  simp [sliced]
  try omega
 ·rw[ho (fun e=>by subst e;simp at hne)]
  split <;> simp [Addr.add]
 ·have h1:n<T.length:=by
   rcases Nat.lt_or_ge n T.length with h|h
   ·exact h
   ·exact absurd (List.drop_of_length_le h) hne
  rw[if_neg (by omega),ho (fun e=>by rw[e] at h1;simp at h1)]
  simp [Addr.add]
open Go.RowKit
theorem one_at {w:World} {b:Nat} {x:Value} {e:TypeId} (h:w.heap[b]? = some (.cells #[x] e (0,0))):w.cell? ⟨b,0,none⟩=some x∧w.frozen? ⟨b,0,none⟩=false:=
 ⟨by rw[cell_of_row w b 0 _ _ _ h];rfl,frozen_of_row w b 0 _ _ h⟩
theorem again_go {w:World} {b B0 Br Ba len cap cr n k na ca nb cb:Nat} {oR o oa ob:Option Addr} {p q:Int} {Q:Value→World→Prop} (h0:w.cell? ⟨B0,0,none⟩=some (.pointer (some ⟨b,0,none⟩))) (h1:w.cell? ⟨Br,0,none⟩=some (.slice o n cr)) (h2:w.cell? ⟨Ba,0,none⟩=some (.int .i64 p)) (h4:w.cell? ⟨b,4,none⟩=some (.slice oR len cap))
  (hw:IntKind.i64.wrap (q - p)=(k:Int)) (hsl1:∀ u,(Instr.slice 59 (.slice o n cr) none (some (.int .i64 (k:Int))) none).run Tryz.prog u=.ok (.slice oa na ca) u) (hsl2:∀ u,(Instr.slice 59 (.slice o n cr) (some (.int .i64 (k:Int))) none none).run Tryz.prog u=.ok (.slice ob nb cb) u)
  (hap:Hid (∀ u,Below w.heap.size w u→∃ v' w',(∀ ty,(Builtin.append_ #[59,59] ty #[.slice oR len cap,.slice oa na ca]).run Tryz.prog u=.ok v' w')∧(∃ o' l' c',v'=.slice o' l' c')∧w'.cell? ⟨B0,0,none⟩=some (.pointer (some ⟨b,0,none⟩))∧w'.cell? ⟨Br,0,none⟩=some (.slice o n cr)∧w'.cell? ⟨Ba,0,none⟩=some (.int .i64 p)∧w'.cell? ⟨b,4,none⟩=some (.slice oR len cap)∧w'.frozen? ⟨b,4,none⟩=false∧Q v' (w'.setCell ⟨b,4,none⟩ v')))
  (hq:Hid (∀ v' u,Q v' u→u.heap[Br]? = some (.cells #[.slice o n cr] 59 (0,0))∧u.heap[Ba]? = some (.cells #[.int .i64 p] 3 (0,0)))) (hne:Br≠Ba) :
  Calls Tryz.prog 132 #[.int .i64 q,.pointer (some ⟨B0,0,none⟩),.pointer (some ⟨Br,0,none⟩),.pointer (some ⟨Ba,0,none⟩)] w fun e w'=>∃ v v' u,e=.returned v∧Q v' u∧w'=(u.setCell ⟨Br,0,none⟩ (.slice ob nb cb)).setCell ⟨Ba,0,none⟩ (.int .i64 q):=by
 go_enter Tryz.func132,Tryz.ntmps132
 go_upto_region 0 with fail
 go_cut [] from 4 to 17 (fun wx=>∃ v',Q v' wx)
 case first=>
  go_region_law (first|((first|refine step_append_ex rfl _ _ _ _ rfl _ _ rfl rfl (hap.out _ ?_) ?_|refine step_append_wp _ _ _ _ rfl _ _ rfl rfl (hap.out _ ?_) ?_);(first|exact(Below.refl _ _).drew|exact Below.refl _ _);rintro v' w' ⟨⟨o',l',c',rfl⟩,d0,d1,d2,d4,f4,hqq⟩;have HQQ:=Lib.hid hqq;clear hqq))
  all_goals(go_wp2_with fail;go_meet;exact⟨_,HQQ.out⟩)
 case rest=>
  obtain⟨v',hqv⟩:=hcut
  obtain⟨g1,g2⟩:=hq.out _ _ hqv
  have g2':=(set_one wc Br 0 (.slice ob nb cb) Ba (fun h=>hne h.symm)).trans g2
  obtain⟨e1,f1⟩:=one_at g1
  obtain⟨e2,f2⟩:=one_at g2
  obtain⟨e2',f2'⟩:=one_at g2'
  clear g1 g2 g2'
  have HQV:=Lib.hid hqv
  clear h0 h1 h2 h4 hqv hap hq
  have hn1:(Br == Ba)=false:=beq_eq_false_iff_ne.2 hne
  have hn2:(Ba == Br)=false:=beq_eq_false_iff_ne.2 (fun h=>hne h.symm)
  clear hne
  go_wp2_with fail
  all_goals go_end0
  all_goals exact⟨_,_,_,rfl,HQV.out,rfl⟩
end Go.Proofs.YtcekbbkidipbnaaGreat.rd
