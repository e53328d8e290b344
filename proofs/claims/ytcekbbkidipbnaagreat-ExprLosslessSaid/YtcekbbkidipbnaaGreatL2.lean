/-
  Texts put together: Fg, Ja, Jb, Jk, Jl, Kf, Ka, Kb, Kc, Fh, Fi, Fj, Fk, Fl, Fm, Fn, Fo, Fq, Fu, Fs, Fv, Fr, Fw, Ft, En, Fp, Fx, Fy, Fz, Ga.
-/
import Derived.Test.YtcekbbkidipbnaaGreatL1
import Derived.Deep.RegionHeld3
set_option maxRecDepth 100000
set_option maxHeartbeats 8000000
namespace Go.Proofs.YtcekbbkidipbnaaGreat.rd
open Go.RowKit
theorem precOf_le (z:Int):0≤precOf z∧precOf z≤5:=by
 unfold precOf
 repeat' split
 all_goals omega
theorem exists_least {P:Nat→Prop} (h:∃ k,P k):∃ k,P k∧∀ j,P j→k≤j:=by
 obtain⟨k,hk⟩:=h
 induction k using Nat.strongRecOn with
 |ind k ih=>
  by_cases hj:∃ j,j<k∧P j
  ·obtain⟨j,hjk,hj⟩:=hj
   exact ih j hjk hj
  ·exact⟨k,hk,fun j hj'=>by
    rcases Nat.lt_or_ge j k with h|h
    ·exact absurd ⟨j,h,hj'⟩ hj
    ·exact h⟩
open Classical in
noncomputable def least (P:Nat→Prop):Nat:=if h:∃ k,P k then Classical.choose (exists_least h) else 0
theorem least_spec {P:Nat→Prop} {k:Nat} (h:P k):P (least P)∧least P≤k:=by
 have hx:∃ k,P k:=⟨k,h⟩
 unfold least
 rw[dif_pos hx]
 exact⟨(Classical.choose_spec (exists_least hx)).1,(Classical.choose_spec (exists_least hx)).2 k h⟩
def Lp (C:Keep) (b:Nat) (y:Res) (p:Pc) (w:World) (k:Nat):Prop:=∃ x,Hid (At C w b x)∧Hid (run k p x=some y)
noncomputable def lpOf (C:Keep) (b:Nat) (y:Res) (p:Pc) (w:World):Nat:=least (Lp C b y p w)
def Lq (C:Keep) (b:Nat) (y:Res) (p:Pc) (n:Nat) (w:World):Prop:=∃ k,k≤n∧Lp C b y p w k
section
variable {C:Keep} {w:World} {b n:Nat} {x y:Res} {p:Pc}
theorem Lq.at (hat:Hid (At C w b x)) (h:Hid (run n p x=some y)):Lq C b y p n w:=⟨n,Nat.le_refl _,x,hat,h⟩
theorem Lq.out (h:Lq C b y p n w):(∃ d0 d1 d2,y=.fail d0 d1 d2∧Hid (At C w b (.fail d0 d1 d2)))∨∃ k s,k<n∧lpOf C b y p w=k+1∧Hid (At C w b (.ok s))∧run (k+1) p (.ok s)=some y:=by
 obtain⟨k,hk,hp⟩:=h
 obtain⟨⟨x,hat,hr⟩,hle⟩:=least_spec hp
 have he:least (Lp C b y p w)=lpOf C b y p w:=rfl
 rw[he] at hr hle
 generalize lpOf C b y p w=q at *
 cases x with
 |fail d0 d1 d2=>
  have:=hr.out
  rw[run_fail] at this
  exact .inl ⟨d0,d1,d2,(Option.some.inj this).symm,hat⟩
 |ok s=>
  cases q with
  |zero=>exact absurd hr.out (by unfold run;simp)
  |succ q=>exact .inr ⟨q,s,by omega,rfl,hat,hr.out⟩
theorem Lq.less {k:Nat} {w0:World} (hk:k≤n) (hat:Hid (At C w b x)) (h:Hid (run k p x=some y)) (hq:lpOf C b y p w0=k+1):Lq C b y p n w∧lpOf C b y p w<lpOf C b y p w0:=
 ⟨⟨k,hk,x,hat,h⟩,by have h2:lpOf C b y p w≤k:=(least_spec (P:=Lp C b y p w) ⟨x,hat,h⟩).2;omega⟩
end
theorem bad_ok (s:St):(Res.ok s).bad=false:=rfl
theorem bad_fail (a b c:Int):(Res.fail a b c).bad=true:=rfl
theorem ok_of_kind {x:Res} {k:Int} (h:x.kind=k) (hk:k≠0):∃ t,x=.ok t:=by
 cases x with
 |fail=>exact absurd h.symm hk
 |ok t=>exact⟨t,rfl⟩
section
variable (a b c:Int)
theorem rFail_bad {x y:Res} {c:Int} (h:rFail c x=some y):∃ d0 d1 d2,y=.fail d0 d1 d2:=by
 cases x with
 |fail a b c=>exact⟨a,b,c,(Option.some.inj h).symm⟩
 |ok s=>exact⟨_,_,_,chk_fail h⟩
theorem rUp_f:rUp (.fail a b c)=some (.fail a b c):=rfl
theorem rClose_f (m k:Int):rClose m k (.fail a b c)=some (.fail a b c):=rfl
theorem rName_f:rName (.fail a b c)=some (.fail a b c):=rfl
theorem rQualified_f:rQualified (.fail a b c)=some (.fail a b c):=rfl
end
open Go.RowKit
structure Pre (q:Nat) (s t:St):Prop where
 L:t.L=s.L
 R:t.R.take q=s.R.take q
 le:q≤t.R.length
def Kp (q:Nat) (s:St) (y:Res):Prop:=∀ t,y=.ok t→Pre q s t
def mk:Pc→Option Nat
 |.binL _ _ m=>some m
 |.primL _ m=>some m
 |.period m=>some m
 |.index m=>some m
 |.cut m=>some m
 |.call m=>some m
 |.array m=>some m
 |_=>none
def RunKp (n:Nat):Prop:=∀ (p:Pc) (s:St) (y:Res) (q:Nat),q≤s.R.length→(∀ m,mk p=some m→q≤m)→run n p (.ok s)=some y→Kp q s y
section
variable {q:Nat} {s:St} {y z:Res}
theorem Pre.refl (h:q≤s.R.length):Pre q s s:=⟨rfl,rfl,h⟩
theorem Pre.trans {s t u:St} (h:Pre q s t) (h2:Pre q t u):Pre q s u:=⟨h2.L.trans h.L,h2.R.trans h.R,h2.le⟩
theorem Kp.refl (h:q≤s.R.length):Kp q s (.ok s):=fun t e=>by cases e;exact Pre.refl h
theorem Kp.fail (a b c:Int):Kp q s (.fail a b c):=fun t e=>by cases e
theorem kp_lift {f:St→Res} (h:Kp q s z) (hy:lift f z=some y) (hf:∀ u t,Pre q s u→f u=.ok t→Pre q u t):Kp q s y:=by
 cases z with
 |fail a b c=>cases hy;exact Kp.fail _ _ _
 |ok u=>
  intro t e
  subst e
  have hy:chk (f u)=some (.ok t):=hy
  cases hfu:f u with
  |fail a b c=>rw[hfu] at hy;cases hy
  |ok v=>
   rw[hfu] at hy
   obtain⟨e,_⟩:=chk_ok hy
   cases e
   exact(h u rfl).trans (hf u t (h u rfl) hfu)
theorem pre_more {u:St} (h:q≤u.R.length) (l:List Tree):(u.R ++ l).take q=u.R.take q:=by rw[List.take_append,show q - u.R.length=0 by omega,List.take_zero,List.append_nil]
theorem pre_run {u:St} (n:Nat) (h:q≤u.R.length):Pre q u (u.run n):=⟨rfl,pre_more h _,by show q≤(u.R ++ _).length;rw[List.length_append];omega⟩
theorem pre_take {u:St} (h:q≤u.R.length):Pre q u u.take:=by
 unfold St.take
 split
 ·exact Pre.refl h
 ·exact pre_run _ h
theorem kp_take (hy:Hid (rTake z=some y)) (h:Kp q s z):Kp q s y:=kp_lift h hy.out fun u t hu e=>by cases e;exact pre_take hu.le
theorem kp_none (hy:Hid (rNone z=some y)) (h:Kp q s z):Kp q s y:=kp_lift h hy.out fun u t hu e=>by
 cases e
 exact⟨rfl,pre_more hu.le _,by show q≤(u.R ++ _).length;have:=hu.le;rw[List.length_append];omega⟩
theorem kp_expect {k:Int} (hy:Hid (rExpect k z=some y)) (h:Kp q s z):Kp q s y:=kp_lift h hy.out fun u t hu e=>by
 unfold St.expect at e
 split at e
 ·cases e;exact pre_take hu.le
 ·cases e
theorem kp_down (hy:Hid (rDown z=some y)) (h:Kp q s z):Kp q s y:=kp_lift h hy.out fun u t hu e=>by
 unfold St.down at e
 split at e
 ·cases e
 ·cases e;exact⟨rfl,rfl,hu.le⟩
theorem kp_up (hy:Hid (rUp z=some y)) (h:Kp q s z):Kp q s y:=kp_lift h hy.out fun u t hu e=>by cases e;exact⟨rfl,rfl,hu.le⟩
theorem kp_fail {c:Int} (hy:Hid (rFail c z=some y)):Kp q s y:=by
 obtain⟨_,_,_,rfl⟩:=rFail_bad hy.out
 exact Kp.fail _ _ _
theorem mark_ge {u:St} {m:Int} (hm:(q:Int)≤m) (h:q≤u.R.length):q≤u.mark m:=by
 unfold St.mark
 have:q≤clamp m u.R.length:=by unfold clamp;omega
 omega
theorem leadT_le:∀ l:List Tree,leadT l≤l.length
 |[]=>Nat.le_refl _
 |t::r=>by
  rw[leadT,List.length_cons]
  have:=leadT_le r
  split <;> omega
theorem mark_le (u:St) (m:Int):u.mark m≤u.R.length:=by
 unfold St.mark
 have:=leadT_le (u.R.drop (clamp m u.R.length))
 rw[List.length_drop] at this
 have h0:clamp m u.R.length≤u.R.length:=by unfold clamp;omega
 omega
theorem kp_close {m k:Int} (hy:Hid (rClose m k z=some y)) (hm:(q:Int)≤m) (h:Kp q s z):Kp q s y:=kp_lift h hy.out fun u t hu e=>by
 unfold St.close at e
 split at e
 ·cases e
 ·cases e
  have hg:=mark_ge hm hu.le
  have hl:=mark_le u m
  refine⟨rfl,?_,?_⟩
  ·show(u.R.take (u.mark m) ++ _).take q=_
   rw[List.take_append,List.length_take,Nat.min_eq_left hl,show q - u.mark m=0 by omega,List.take_zero,List.append_nil,List.take_take,Nat.min_eq_left hg]
  ·show q≤(u.R.take (u.mark m) ++ _).length
   rw[List.length_append,List.length_take,Nat.min_eq_left hl]
   omega
theorem kp_run {n:Nat} {p:Pc} (ih:RunKp n) (hy:Hid (run n p z=some y)) (hm:∀ m,mk p=some m→q≤m) (h:Kp q s z):Kp q s y:=by
 have hy:=hy.out
 cases z with
 |fail a b c=>rw[run_fail] at hy;cases hy;exact Kp.fail _ _ _
 |ok u=>
  intro t e
  have hu:=h u rfl
  exact hu.trans (ih p u y q hu.le hm hy t e)
theorem kp_len (h:Kp q s z) (hz:z.bad=false):(q:Int)≤(z.len:Int):=by
 cases z with
 |fail a b c=>cases hz
 |ok u=>have:=(h u rfl).le;show(q:Int)≤(u.R.length:Int);omega
theorem kp_name (hy:Hid (rName z=some y)) (h:Kp q s z):Kp q s y:=by
 have hy:=hy.out
 cases z with
 |fail a b c=>rw[rName_f] at hy;cases hy;exact Kp.fail _ _ _
 |ok u=>
  unfold rName at hy
  obtain⟨v,hv,hy⟩:=bind_some hy
  exact kp_close (Lib.hid hy) (kp_len h rfl) (kp_expect hv h)
theorem kp_qualified (hy:Hid (rQualified z=some y)) (h:Kp q s z):Kp q s y:=by
 have hy:=hy.out
 cases z with
 |fail a b c=>rw[rQualified_f] at hy;cases hy;exact Kp.fail _ _ _
 |ok u=>
  unfold rQualified at hy
  obtain⟨v,hv,hy⟩:=bind_some hy
  have h1:=kp_name hv h
  split at hy
  ·obtain⟨v2,hv2,hy⟩:=bind_some hy
   obtain⟨v3,hv3,hy⟩:=bind_some hy
   exact kp_close (Lib.hid hy) (kp_len h rfl) (kp_name hv3 (kp_take hv2 h1))
  ·cases hy;exact h1
end
open Go.RowKit
section
variable {q:Nat} {s:St} {x y z:Res}
theorem bd_lift {f:St→Res} (hy:lift f z=some y) (h:z.bad=true):y.bad=true:=by
 cases z with
 |fail a b c=>cases hy;rfl
 |ok u=>cases h
theorem bd_take (hy:Hid (rTake z=some y)) (h:z.bad=true):y.bad=true:=bd_lift hy.out h
theorem bd_none (hy:Hid (rNone z=some y)) (h:z.bad=true):y.bad=true:=bd_lift hy.out h
theorem bd_close {m k:Int} (hy:Hid (rClose m k z=some y)) (h:z.bad=true):y.bad=true:=bd_lift hy.out h
theorem bd_name (hy:Hid (rName z=some y)) (h:z.bad=true):y.bad=true:=by
 have hy:=hy.out
 cases z with
 |fail a b c=>rw[rName_f] at hy;cases hy;rfl
 |ok u=>cases h
theorem bd_qualified (hy:Hid (rQualified z=some y)) (h:z.bad=true):y.bad=true:=by
 have hy:=hy.out
 cases z with
 |fail a b c=>rw[rQualified_f] at hy;cases hy;rfl
 |ok u=>cases h
theorem bd_expect {k:Int} (hy:Hid (rExpect k z=some y)) (h:z.bad=true):y.bad=true:=bd_lift hy.out h
theorem bd_run {n:Nat} {p:Pc} (hy:Hid (run n p z=some y)) (h:z.bad=true):y.bad=true:=by
 have hy:=hy.out
 cases z with
 |fail a b c=>rw[run_fail] at hy;cases hy;rfl
 |ok u=>cases h
theorem kp_closeL {k:Int} (hy:Hid (rClose (x.len:Int) k z=some y)) (hb:x.bad=true→z.bad=true) (h1:Kp q s x) (h:Kp q s z):Kp q s y:=by
 cases hx:x.bad with
 |false=>exact kp_close hy (kp_len h1 hx) h
 |true=>
  have:=bd_lift hy.out (hb hx)
  cases y with
  |fail a b c=>exact Kp.fail _ _ _
  |ok t=>cases this
theorem kp_array {n:Nat} (ih:RunKp n) (hy:Hid (run n (.array z.len) z=some y)) (h:Kp q s z):Kp q s y:=by
 cases z with
 |fail a b c=>
  have hy:=hy.out
  rw[run_fail] at hy
  cases hy
  exact Kp.fail _ _ _
 |ok u=>
  exact kp_run ih hy (by intro m hm;cases hm;exact(h u rfl).le) h
theorem kp_ents {one:Res→Option Res} (hone:∀ x y,Hid (one x=some y)→Kp q s x→Kp q s y):∀ (n:Nat) (l l':List Ent) (x y:Res),(∀ e∈l,q≤e.a)→Kp q s x→rEnts one n l x=some (y,l')→Kp q s y∧∀ e∈l',q≤e.a
 |0,l,l',x,y,hl,hx,h=>by unfold rEnts at h;cases h
 |n+1,l,l',x,y,hl,hx,h=>by
  unfold rEnts at h
  split at h
  ·cases h;exact⟨hx,hl⟩
  ·rename_i hnb
   rw[not_or] at hnb
   obtain⟨y1,hy1,h⟩:=bind_some h
   have k1:=hone _ _ hy1 hx
   have hl1:∀ e∈l ++ [⟨x.len,y1.len,x.named⟩],q≤e.a:=by
    intro e he
    rcases List.mem_append.1 he with he|he
    ·exact hl e he
    ·rw[List.mem_singleton.1 he]
     have:=kp_len hx (by cases hb:x.bad with|false=>rfl|true=>exact absurd hb hnb.1)
     show q≤x.len
     omega
   split at h
   ·obtain⟨y2,hy2,h⟩:=bind_some h
    exact kp_ents hone n _ _ _ _ hl1 (kp_take hy2 k1) h
   ·cases h;exact⟨k1,hl1⟩
theorem pre_back {u:St} (R:List Tree) (H:List Int) (a b:Nat) (h:q≤u.R.length):Pre q u (u.back R H a b):=⟨rfl,pre_more h _,by show q≤(u.R ++ _).length;rw[List.length_append];omega⟩
theorem kp_groups (R:List Tree) (H:List Int) (any:Bool):∀ (l:List Ent) (m a:Nat) (x y:Res),q≤m→Kp q s x→rGroups R H any l m a x=some y→Kp q s y
 |[],m,a,x,y,hm,hx,h=>by unfold rGroups at h;cases h;exact hx
 |e::r,m,a,x,y,hm,hx,h=>by
  unfold rGroups at h
  cases x with
  |fail d0 d1 d2=>cases h;exact Kp.fail _ _ _
  |ok u=>
   simp only[] at h
   have hu:=hx u rfl
   have hb:Kp q s (.ok (u.back R H a e.b)):=fun t ht=>by cases ht;exact hu.trans (pre_back R H _ _ hu.le)
   split at h
   ·obtain⟨y1,hy1,h⟩:=bind_some h
    have k1:=kp_close hy1 (by omega) hb
    cases y1 with
    |fail d0 d1 d2=>cases h;exact Kp.fail _ _ _
    |ok t=>
     simp only[] at h
     have ht:=k1 t rfl
     refine kp_groups R H any r _ _ _ _ ?_ ?_ h
     ·show q≤(t.R ++ _).length
      have:=ht.le
      rw[List.length_append];omega
     ·intro v hv
      cases hv
      exact ht.trans (pre_back R H _ _ ht.le)
   ·exact kp_groups R H any r m e.b _ _ hm hb h
theorem kp_finish {m:Nat} {l:List Ent} (hm:q≤m) (hl:∀ e∈l,q≤e.a) (hx:Kp q s x) (h:rFinish m l x=some y):Kp q s y:=by
 unfold rFinish at h
 cases x with
 |fail d0 d1 d2=>cases h;exact Kp.fail _ _ _
 |ok u=>
  simp only[] at h
  have hu:=hx u rfl
  split at h
  ·rename_i hwf
   split at h
   ·exact kp_fail (Lib.hid h)
   ·obtain⟨y1,hy1,h⟩:=bind_some h
    obtain⟨y2,hy2,h⟩:=bind_some h
    refine kp_close (Lib.hid h) (by omega) (kp_expect hy2 ?_)
    have hg:=hy1.out
    unfold rGroup at hg
    cases l with
    |nil=>cases hg;exact hx
    |cons e r=>
     simp only[] at hg
     have hea:=hl e (by simp)
     rw[Bool.and_eq_true] at hwf
     have hwl:e.a≤u.R.length:=by
      have h1:=hwf.1
      have key:∀ (l:List Ent) (lo n:Nat),wfE lo l n=true→lo≤n:=by
       intro l
       induction l with
       |nil=>intro lo n h;simpa [wfE] using h
       |cons e r ih=>
        intro lo n h
        simp only[wfE,Bool.and_eq_true,decide_eq_true_eq] at h
        have:=ih _ _ h.2
        omega
      simp only[wfE,Bool.and_eq_true,decide_eq_true_eq] at h1
      have:=key _ _ _ h1.2
      omega
     refine kp_groups _ _ _ _ _ _ _ _ hea ?_ hg
     intro v hv
     cases hv
     refine hu.trans ⟨rfl,?_,?_⟩
     ·show(u.R.take e.a).take q=u.R.take q
      rw[List.take_take,Nat.min_eq_left hea]
     ·show q≤(u.R.take e.a).length
      rw[List.length_take];omega
  ·cases h
end
theorem kp_most {n:Nat} {s:St} {y:Res} {q:Nat} (p:Pc) (hp:p≠.params) (ih:RunKp n) (hq:q≤s.R.length) (hm:∀ m,mk p=some m→q≤m) (hy:run (n+1) p (.ok s)=some y):Kp q s y:=by
 cases p
 all_goals first|(exact absurd rfl hp)|(as_aux_lemma=>
 clear hp
 first|(have hqm:=hm _ rfl)|skip
 clear hm
 have _:=ih
 rw[run] at hy
 try dsimp only at hy
 iterate 16 (all_goals try(first|split at hy|(rw[bind_iff] at hy;obtain⟨z,hz,hy⟩:=hy;try(rw[some_hid] at hz;subst hz))))
 all_goals(first|(obtain rfl:=Option.some.inj hy)|(replace hy:=Lib.hid hy))
 all_goals(repeat (first|exact Kp.refl hq|exact Kp.fail _ _ _|(with_reducible refine kp_array ih ‹_› ?_)|(with_reducible exact kp_fail ‹_›)|((with_reducible refine kp_close ‹_› ?_ ?_);focus omega)|(with_reducible refine kp_take ‹_› ?_)|(with_reducible refine kp_none ‹_› ?_)|(with_reducible refine kp_expect ‹_› ?_)|(with_reducible refine kp_down ‹_› ?_)|(with_reducible refine kp_up ‹_› ?_)|(with_reducible refine kp_name ‹_› ?_)|(with_reducible refine kp_qualified ‹_› ?_)|((with_reducible refine kp_run ih ‹_› ?_ ?_);focus (intro m0 hm0;cases hm0 <;> assumption))|((with_reducible refine kp_closeL ‹_› ?_ ?_ ?_);focus (intro hb;first|(exact absurd hb ‹_›)|skip;repeat (first|exact hb|(with_reducible refine bd_name ‹_› ?_)|(with_reducible refine bd_qualified ‹_› ?_)|(with_reducible refine bd_close ‹_› ?_)|(with_reducible refine bd_none ‹_› ?_)|(with_reducible refine bd_take ‹_› ?_)|(with_reducible refine bd_expect ‹_› ?_)|(with_reducible refine bd_run ‹_› ?_)))))))
theorem kp_params_s {n:Nat} {s:St} {y:Res} {q:Nat} (ih:RunKp n) (hq:q≤s.R.length) (hy:run (n+1) (.params) (.ok s)=some y):Kp q s y:=by
 have _:=ih
 rw[run] at hy
 try dsimp only at hy
 obtain⟨x1,hx1,hy⟩:=bind_some hy
 obtain⟨⟨y1,l⟩,hy1,hy⟩:=bind_some hy
 have k1:=kp_expect hx1 (Kp.refl hq)
 obtain⟨k2,k3⟩:=kp_ents (fun x y h hx=>kp_run ih h (by intro m0 hm0;cases hm0) hx) _ _ _ _ _ (fun e he=>by cases he) k1 hy1.out
 exact kp_finish hq k3 k2 hy
theorem run_kp:∀ n,RunKp n
 |0=>fun p s y q hq hm hy=>by unfold run at hy;cases hy
 |n+1=>fun p s y q hq hm hy=>by
  have ih:=run_kp n
  by_cases hp:p=.params
  ·subst hp
   exact kp_params_s ih hq hy
  ·exact kp_most p hp ih hq hm hy
open Go.RowKit
def Headed:List Tree→Prop
 |[]=>True
 |t::_=>sig t.k=true
mutual
def Neat:Tree→Prop
 |.mk _ _ _ l=>Headed l∧Neats l
def Neats:List Tree→Prop
 |[]=>True
 |t::r=>Neat t∧Neats r
end
theorem Neats.append:∀ {a b:List Tree},Neats a→Neats b→Neats (a ++ b)
 |[],_,_,hb=>hb
 |t::a,b,ha,hb=>by
  rw[Neats] at ha
  show Neats (t::(a ++ b))
  rw[Neats]
  exact⟨ha.1,ha.2.append hb⟩
theorem Neats.drop:∀ {l:List Tree} (n:Nat),Neats l→Neats (l.drop n)
 |_,0,h=>h
 |[],n+1,h=>h
 |t::l,n+1,h=>by
  rw[Neats] at h
  exact h.2.drop n
theorem Neats.take:∀ {l:List Tree} (n:Nat),Neats l→Neats (l.take n)
 |_,0,_=>by rw[List.take_zero,Neats];trivial
 |[],n+1,h=>h
 |t::l,n+1,h=>by
  rw[Neats] at h
  rw[List.take_succ_cons,Neats]
  exact⟨h.1,h.2.take n⟩
theorem headed_lead:∀ l:List Tree,Headed (l.drop (leadT l))
 |[]=>trivial
 |t::r=>by
  rw[leadT]
  split
  ·rename_i h
   exact h
  ·exact headed_lead r
def Nt (y:Res):Prop:=∀ t,y=.ok t→Neats t.R
section
variable {y z:Res}
theorem Nt.fail (a b c:Int):Nt (.fail a b c):=fun t e=>by cases e
theorem Nt.ok {s:St} (h:Neats s.R):Nt (.ok s):=fun t e=>by cases e;exact h
end
open Go.RowKit
open Go.RowKit
open Go.RowKit
def allOf (w:World):Keep:=⟨w,fun k=>k<w.heap.size⟩
open Go.RowKit
theorem results_mix {P:Program} {fn:Func} {t p u:Tmp} {ty:TypeId} (h:fn.results=#[.tmp t,.cell p ty,.tmp u]) (tmps:Array Value) (w:World) (g:Nat) (e:TypeId) (cs:Array Value) (fr:Nat × Nat) (d:TypeDesc)
  (hp:tmps.getD p undef=.pointer (some ⟨g,0,none⟩)) (hg:w.heap[g]? = some (.cells cs e fr)) (hu:P.underlying ty=some d) (hd:(match d with|.struct _|.array _ _=>true|_=>false)=true) (hi:(P.info? ty).map (·.size)=some cs.size) :
  (results fn tmps).run P w=.ok (.tuple #[tmps.getD t undef,.agg cs,tmps.getD u undef]) w:=by
 have hp':tmps[p]?.getD undef=.pointer (some ⟨g,0,none⟩):=by simpa using hp
 simp [results,h,hp',asAddr,run_loadVar_row w g e ty cs fr d hg hu hd hi]
theorem three_set (w:World) (X:Nat) (x0 x1 x2:Value):∀ k,k≠X→(((w.setCell ⟨X,0,none⟩ x0).setCell ⟨X,1,none⟩ x1).setCell ⟨X,2,none⟩ x2).heap[k]? = w.heap[k]?:=fun k hk=>by
 rw[set_one _ _ _ _ _ hk,set_one _ _ _ _ _ hk,set_one _ _ _ _ _ hk]
open Go.RowKit
def rDone:Res→Option Res:=lift fun s=>if s.ahead 0=0 then .ok (s.run (s.L.length - s.at')) else s.fail 201
def tells (v:Value) (n:Int × Int × Int) (ok:Bool):Value:=.tuple #[v,.agg #[.int .i64 n.1,.int .i64 n.2.1,.int .i64 n.2.2],.bool ok]
def Res.tree:Res→Tree
 |.ok s=>headT s.R
 |.fail _ _ _=>.mk 0 0 0 []
def OfNodes (w:World) (D:Nat→Prop):Prop:=∀ g,D g→∃ cur fz,w.heap[g]? = some (.cells cur nd.e fz)
open Go.RowKit
open Go.RowKit
open Go.RowKit
open Go.RowKit
open Go.RowKit
open Go.RowKit
open Go.RowKit
open Go.RowKit
def TieB (w:World) (t:Tree) (n:Rn):Prop:=∃ D,Tie w D t n∧∀ k,D k→k<w.heap.size
theorem TieB.below {w w':World} {t:Tree} {n:Rn} (h:Hid (TieB w t n)) (hb:Below w.heap.size w w'):Hid (TieB w' t n):=by
 obtain⟨D,h1,h2⟩:=h.out
 exact Lib.hid ⟨D,Tie.keep (fun g hg=>hb.block g (h2 g hg)) (fun _ h=>h) t n h1,fun k hk=>Nat.lt_of_lt_of_le (h2 k hk) hb.size⟩
section
variable {C:Keep} {w:World} {b:Nat} {x y:Res}
theorem At.below (h:Hid (At C w b x)) {w':World} (hb:Below w.heap.size w w'):Hid (At C w' b x):=by
 obtain⟨vL,vR,vH,σ,D,hr,ho,hi⟩:=h.out
 have hn:Nx w b vR vH w' vR vH:=Nx.below hb
 refine Lib.hid ⟨vL,vR,vH,σ,D,hr.below hb,ho.step hn,?_⟩
 cases x with
 |fail=>exact hi
 |ok s=>
  obtain⟨h1,h2,h3,h4,h5⟩:=hi
  exact⟨h1,h2,h3,ho.ties hn h4,h5⟩
end
theorem TieB.k {w:World} {t:Tree} {n:Rn} (h:Hid (TieB w t n)):n.k=t.k:=by obtain⟨D,h1,_⟩:=h.out;exact h1.k
open Go.RowKit
open Go.RowKit
open Go.RowKit
def Lu (C:Keep) (b:Nat) (y x0 z0:Res) (n:Nat) (p:Value) (w:World) (k:Nat):Prop:=∃ (c:Nat) (x z:Res),p=.int .i64 (c:Int)∧c+k≤n∧Hid (At C w b x)∧Hid (run k .term x=some z)∧Hid (run k .unionL z=some y)∧(c=0→(z.kind == 26)=(z0.kind == 26)∧(x.kind == 51)=(x0.kind == 51))∧(c≠0→(z0.kind == 26)=true)
noncomputable def luOf (C:Keep) (b:Nat) (y x0 z0:Res) (n:Nat) (p:Value) (w:World):Nat:=least (Lu C b y x0 z0 n p w)
theorem Lu.least {C:Keep} {b n k:Nat} {y x0 z0:Res} {p:Value} {w:World} (h:Lu C b y x0 z0 n p w k):Lu C b y x0 z0 n p w (luOf C b y x0 z0 n p w)∧luOf C b y x0 z0 n p w≤k:=least_spec h
open Go.RowKit
def Lt (C:Keep) (b:Nat) (z:Res) (p:Value) (w:World) (k:Nat):Prop:=∃ (f:Bool) (x:Res),p=.bool f∧Hid (At C w b x)∧((f=false∧x.kind=63∧x=z∧k=0)∨((f=false→x.kind≠63)∧Hid (run k .tpL x=some z)))
noncomputable def ltOf (C:Keep) (b:Nat) (z:Res) (p:Value) (w:World):Nat:=least (Lt C b z p w)
theorem Lt.least {C:Keep} {b k:Nat} {z:Res} {p:Value} {w:World} (h:Lt C b z p w k):Lt C b z p w (ltOf C b z p w)∧ltOf C b z p w≤k:=least_spec h
open Go.RowKit
def sigK (L:List Tk):List Int:=(L.filter fun t=>sig t.k).map Tk.k
theorem nxt_sigK (L:List Tk):∀ n,(match L[nxt n L]? with|some t=>t.k|none=>0)=(sigK L)[n]?.getD 0:=by
 induction L with
 |nil=>intro n;simp [nxt,sigK]
 |cons t r ih=>
  intro n
  rw[nxt]
  cases hs:sig t.k with
  |true=>
   have e:sigK (t::r)=t.k::sigK r:=by simp [sigK,hs]
   rw[e,if_pos rfl]
   cases n with
   |zero=>simp
   |succ n=>
    rw[if_neg (by omega),Nat.add_sub_cancel,Nat.add_comm 1,List.getElem?_cons_succ,List.getElem?_cons_succ]
    exact ih n
  |false=>
   have e:sigK (t::r)=sigK r:=by simp [sigK,hs]
   rw[e,if_neg (by simp),Nat.add_comm 1,List.getElem?_cons_succ]
   exact ih n
theorem ahead_sigs (x:Res) (n:Nat):x.ahead n=x.sigs[n]?.getD 0:=by
 cases x with
 |fail=>simp [Res.ahead,Res.sigs]
 |ok s=>
  have:=nxt_sigK (s.L.drop s.at') n
  simp only[List.getElem?_drop] at this
  exact this
theorem sigs_pos (x:Res):∀ z∈x.sigs,10≤z:=by
 cases x with
 |fail=>simp [Res.sigs]
 |ok s=>
  intro z hz
  simp only[Res.sigs,List.mem_map,List.mem_filter] at hz
  obtain⟨t,⟨_,h⟩,rfl⟩:=hz
  exact of_decide_eq_true h
theorem ahead_some {x:Res} {n:Nat} (h:n<x.sigs.length):x.sigs.drop n=x.ahead n::x.sigs.drop (n+1)∧x.ahead n≠0:=by
 have e:x.ahead n=x.sigs[n]:=by rw[ahead_sigs,List.getElem?_eq_getElem h];rfl
 refine⟨by rw[e];exact List.drop_eq_getElem_cons h,?_⟩
 have:=sigs_pos x x.sigs[n] (List.getElem_mem h)
 omega
theorem ahead_none {x:Res} {n:Nat} (h:x.sigs.length≤n):x.sigs.drop n=[]∧x.ahead n=0:=
 ⟨List.drop_of_length_le h,by rw[ahead_sigs,List.getElem?_eq_none h];rfl⟩
open Go.RowKit
def bl:Kd Bool where
 c t:=[.bool t]
 k:=1
 e:=4
 t:=99
 z:=.bool false
 bytes:=1
 len _:=rfl
 one x u hu:=by simp only[List.mem_cons,List.not_mem_nil,or_false] at hu;subst hu;rfl
 ht:=Tryz.underlying99
 hi:=by kernel_rfl
 hz:=rfl
 hk:=by decide
 ht':=by kernel_rfl
 hs _:=by kernel_rfl
theorem At.kept {C:Keep} {w:World} {b:Nat} {x:Res} (h:At C w b x) (k:Nat) (hk:C.K k):w.heap[k]? = C.W.heap[k]? ∧ k<C.W.heap.size:=by
 obtain⟨vL,vR,vH,σ,D,hr,ho,hi⟩:=h
 exact⟨(ho.kept k hk).2.2.2.2,(ho.kept k hk).1⟩
theorem At.size {C:Keep} {w:World} {b:Nat} {x:Res} (h:At C w b x):C.W.heap.size≤w.heap.size:=by
 obtain⟨vL,vR,vH,σ,D,hr,ho,hi⟩:=h
 exact ho.size
theorem At.at {C:Keep} {w:World} {b:Nat} {x:Res} (h:At C w b x):b<w.heap.size:=by
 obtain⟨vL,vR,vH,σ,D,hr,ho,hi⟩:=h
 exact(Array.getElem?_eq_some_iff.1 hr.cells).1
theorem At.rebase {C C':Keep} {w w':World} {b:Nat} {x:Res} (h:At C w b x) (hsize:w.heap.size≤w'.heap.size)
  (hsame:∀ k,k<w.heap.size→w'.heap[k]? = w.heap[k]? ∨ (C.K k∧∃ cur e fz,w.heap[k]? = some (.cells cur e fz)∧e≠tk.e∧e≠nd.e))
  (hW:C'.W=w') (hK:∀ k,C'.K k→k<w'.heap.size∧(C.K k∨w.heap.size≤k)):At C' w' b x:=by
 obtain⟨vL,vR,vH,σ,D,hr,ho,hi⟩:=h
 have hbz:b<w.heap.size:=(Array.getElem?_eq_some_iff.1 hr.cells).1
 have hof:∀ k,k<w.heap.size→¬ C.K k→w'.heap[k]? = w.heap[k]?:=fun k hk hn=>by
  rcases hsame k hk with h|h
  ·exact h
  ·exact absurd h.1 hn
 have hdd:∀ k,D k→w'.heap[k]? = w.heap[k]?:=fun k hk=>by
  obtain⟨a1,_,_,_,cur,fz,a5⟩:=ho.dead k hk
  rcases hsame k a1 with h|⟨_,cur',e,fz',h,_,hne⟩
  ·exact h
  ·rw[a5] at h
   simp only[Option.some.injEq,Obj.cells.injEq] at h
   exact absurd h.2.1.symm hne
 have hT:Mine tk w' 0 vL σ.L:=by
  refine hr.toks.keep (fun k hk hz=>?_)
  rcases hsame k hz with h|⟨_,cur,e,fz,h,hne,_⟩
  ·exact h
  ·exfalso
   rcases hr.toks.2 with⟨hv,_⟩|⟨q,cap,cur',hv,hq,hh,_⟩
   ·rw[hv] at hk;cases hk
   ·rw[hv] at hk
    simp only[Value.ownBlock,Option.some.injEq] at hk
    subst hk
    rw[hh] at h
    simp only[Option.some.injEq,Obj.cells.injEq] at h
    exact hne h.2.1.symm
 refine⟨vL,vR,vH,σ,D,⟨?_,hT,?_,?_,hr.read,hr.few⟩,?_,?_⟩
 ·rw[hof b hbz (fun hc=>(ho.kept b hc).2.1 rfl)];exact hr.cells
 ·exact hr.row.keep (fun k hk hz=>hof k hz (fun hc=>(ho.kept k hc).2.2.1 hk))
 ·exact hr.high.keep (fun k hk hz=>hof k hz (fun hc=>(ho.kept k hc).2.2.2.1 hk))
 ·refine⟨by rw[hW],by rw[hW],by rw[hW],by rw[hW];exact Nat.le_refl _,fun k hk=>?_,fun k hk=>?_⟩
  ·obtain⟨h1,h2⟩:=hK k hk
   rcases h2 with h2|h2
   ·obtain⟨_,a2,a3,a4,_⟩:=ho.kept k h2
    exact⟨by rw[hW];exact h1,a2,a3,a4,by rw[hW]⟩
   ·exact⟨by rw[hW];exact h1,by omega,fun e=>by have:=hr.row.lt k e;omega,fun e=>by have:=hr.high.lt k e;omega,by rw[hW]⟩
  ·obtain⟨a1,a2,a3,a4,a5⟩:=ho.dead k hk
   exact⟨by omega,a2,a3,a4,by rw[hdd k hk];exact a5⟩
 ·cases x with
  |fail a b c=>exact hi
  |ok s=>
   obtain⟨h1,h2,h3,h4,h5⟩:=hi
   exact⟨h1,h2,h3,Ties.keep (fun g hg=>hdd g hg) (fun _ h=>h) _ _ h4,h5⟩
structure Ext (C C1:Keep) (B:Nat):Prop where
 os:C1.W.os=C.W.os
 tape:C1.W.tape=C.W.tape
 output:C1.W.output=C.W.output
 size:C.W.heap.size≤C1.W.heap.size
 base:C.W.heap.size≤B∧B≤C1.W.heap.size
 kept:∀ k,C.K k→k<B∧C1.K k∧C1.W.heap[k]? = C.W.heap[k]?
theorem At.back {C C1:Keep} {B:Nat} {w:World} {b:Nat} {x:Res} (he:Ext C C1 B) (h:At C1 w b x) (hz:∀ k,C.K k→k<C.W.heap.size):At C w b x:=by
 obtain⟨vL,vR,vH,σ,D,hr,ho,hi⟩:=h
 refine⟨vL,vR,vH,σ,D,hr,⟨ho.os.trans he.os,ho.tape.trans he.tape,ho.output.trans he.output,Nat.le_trans he.size ho.size,fun k hk=>?_,ho.dead⟩,hi⟩
 obtain⟨h1,h2,h3⟩:=he.kept k hk
 obtain⟨a1,a2,a3,a4,a5⟩:=ho.kept k h2
 exact⟨hz k hk,a2,a3,a4,a5.trans h3⟩
theorem Ext.start {C:Keep} {w w':World} {b:Nat} {x:Res} (h:At C w b x) (hb:Below w.heap.size w w'):Ext C ⟨w',fun k=>C.K k∨(w.heap.size≤k∧k<w'.heap.size)⟩ w.heap.size∧At ⟨w',fun k=>C.K k∨(w.heap.size≤k∧k<w'.heap.size)⟩ w' b x:=by
 have h':=h
 obtain⟨vL,vR,vH,σ,D,hr,ho,hi⟩:=h'
 refine⟨⟨hb.os.trans ho.os,hb.tape.trans ho.tape,hb.output.trans ho.output,Nat.le_trans ho.size hb.size,⟨ho.size,hb.size⟩,fun k hk=>?_⟩,h.rebase hb.size (fun k hk=>.inl (hb.block k hk)) rfl (fun k hk=>?_)⟩
 ·obtain⟨a1,_,_,_,a5⟩:=ho.kept k hk
  have:=ho.size
  exact⟨by omega,.inl hk,(hb.block k (by omega)).trans a5⟩
 ·rcases hk with hk|hk
  ·have:=(ho.kept k hk).1
   have:=ho.size
   have:=hb.size
   exact⟨by omega,.inl hk⟩
  ·exact⟨hk.2,.inr hk.1⟩
def Apart (v v2:Value):Prop:=∀ k,v.ownBlock=some k→v2.ownBlock≠some k
structure Held {α:Type} (C:Keep) (w:World) (B:Nat) (v:Value) (F:Kd α) (T:List α):Prop where
 mine:Mine F w B v T
 held:∀ k,v.ownBlock=some k→C.K k
theorem Held.call {α:Type} {F:Kd α} {C:Keep} {w w':World} {B b:Nat} {x y:Res} {v:Value} {T:List α} (h:Held C w B v F T) (h1:At C w b x) (h2:At C w' b y):Held C w' B v F T:=
 ⟨h.mine.keep (fun k hk _=>(h2.kept k (h.held k hk)).1.trans (h1.kept k (h.held k hk)).1.symm),h.held⟩
theorem Held.push {α:Type} {F:Kd α} {C C1:Keep} {w:World} {B b:Nat} {x:Res} {v:Value} {T:List α} (hne:F.e≠tk.e∧F.e≠nd.e) (he:Ext C C1 B) (hat:At C1 w b x) (h:Held C1 w B v F T) (hl:T.length≤1099511627776) (hby:F.bytes≤64) (a:α) :
  ∃ v' w',(∀ ty,(Builtin.append_ #[F.t,F.t] ty #[v,.slice (some ⟨w.heap.size,0,none⟩) 1 1]).run Tryz.prog (w.alloc (.cells (F.c a).toArray F.e))=.ok v' w') ∧
   ∃ C2,Ext C C2 B∧At C2 w' b x∧Held C2 w' B v' F (T ++ [a])∧∀ (β:Type) (G:Kd β) (v2:Value) (T2:List β),Held C1 w B v2 G T2→Apart v v2→Held C2 w' B v2 G T2∧Apart v' v2:=by
 have hu:Below w.heap.size w (w.alloc (.cells (F.c a).toArray F.e)):=(Below.refl _ _).alloc (Nat.le_refl _) _
 have hBw:B≤w.heap.size:=Nat.le_trans he.base.2 hat.size
 obtain⟨g,cap',w',h1,h2,h3,h4⟩:=app_lies (h.mine.below hu) (heap_alloc_last w _) (Nat.le_trans hBw hu.size) (by simp [maxLen];omega) (by have:=Nat.mul_le_mul (show T.length+1≤1099511627777 by omega) hby;omega)
 have hsz:w.heap.size≤w'.heap.size:=Nat.le_trans hu.size h3.size
 have hz1:(w.alloc (.cells (F.c a).toArray F.e)).heap.size=w.heap.size+1:=World.size_alloc _ _
 have hsame:∀ k,k<w.heap.size→v.ownBlock≠some k→w'.heap[k]? = w.heap[k]?:=fun k hk hn=>(h3.block k (by omega) (fun e=>hn e.symm)).trans (hu.block k hk)
 have hB:∀ k,v.ownBlock=some k→B≤k:=fun k hk=>(World.ownsRow.lt h.mine k hk).1
 have hg:v.ownBlock=some g∨w.heap.size≤g:=by
  rcases h4 with h4|h4
  ·exact .inl h4
  ·exact .inr (by rw[h4,hz1];omega)
 refine⟨_,w',h1,⟨w',fun k=>C1.K k∨(w.heap.size≤k∧k<w'.heap.size)⟩,⟨?_,?_,?_,?_,?_,fun k hk=>?_⟩,hat.rebase hsz (fun k hk=>?_) rfl (fun k hk=>?_),⟨h2,fun k hk=>?_⟩,?_⟩
 ·obtain⟨vL,vR,vH,σ,D,hr,ho,hi⟩:=hat
  exact h3.os.trans (hu.os.trans (ho.os.trans he.os))
 ·obtain⟨vL,vR,vH,σ,D,hr,ho,hi⟩:=hat
  exact h3.tape.trans (hu.tape.trans (ho.tape.trans he.tape))
 ·obtain⟨vL,vR,vH,σ,D,hr,ho,hi⟩:=hat
  exact h3.output.trans (hu.output.trans (ho.output.trans he.output))
 ·exact Nat.le_trans he.size (Nat.le_trans hat.size hsz)
 ·exact⟨he.base.1,Nat.le_trans hBw hsz⟩
 ·obtain⟨a1,a2,a3⟩:=he.kept k hk
  obtain⟨b1,b2⟩:=hat.kept k a2
  exact⟨a1,.inl a2,(hsame k (by omega) (fun e=>by have:=hB k e;omega)).trans (b1.trans a3)⟩
 ·by_cases hk2:v.ownBlock=some k
  ·refine .inr ⟨h.held k hk2,?_⟩
   rcases h.mine.2 with⟨hv,_⟩|⟨q,cap,cur',hv,hq,hh,_⟩
   ·rw[hv] at hk2;cases hk2
   ·rw[hv] at hk2
    simp only[Value.ownBlock,Option.some.injEq] at hk2
    subst hk2
    exact⟨_,_,_,hh,hne.1,hne.2⟩
  ·exact .inl (hsame k hk hk2)
 ·rcases hk with hk|hk
  ·have:=(hat.kept k hk).2
   have:=hat.size
   exact⟨by omega,.inl hk⟩
  ·exact⟨hk.2,.inr hk.1⟩
 ·simp only[Value.ownBlock,Option.some.injEq] at hk
  subst hk
  rcases hg with hg|hg
  ·exact .inl (h.held _ hg)
  ·exact .inr ⟨hg,h2.lt _ rfl⟩
 ·intro β G v2 T2 h5 h6
  refine⟨⟨h5.mine.keep (fun k hk hz=>hsame k hz (fun e=>h6 k e hk)),fun k hk=>.inl (h5.held k hk)⟩,fun k hk e=>?_⟩
  simp only[Value.ownBlock,Option.some.injEq] at hk
  subst hk
  rcases hg with hg|hg
  ·exact h6 _ hg e
  ·have:=h5.mine.lt _ e;omega
open Go.RowKit
open Go.RowKit
def lead:List Rn→Nat
 |[]=>0
 |t::r=>if sig t.k then 0 else lead r+1
def hiFrom (a:Int) (l:List Int):Int:=l.foldl (fun a x=>max a (x+1)) a
theorem lead_le (R:List Rn):lead R≤R.length:=by
 induction R with
 |nil=>exact Nat.le_refl _
 |cons t r ih=>rw[lead,List.length_cons];split <;> omega
def clampR (m:Int) (n:Nat):Nat:=(max 0 (min m (n:Int))).toNat
def fromK (h:Int):List Rn→Int
 |[]=>h
 |t::_=>t.i
def toK (h:Int) (l:List Rn):Int:=match l.getLast? with|some t=>t.j|none=>h
theorem own_len (o:Option Addr) (n m c:Nat):(Value.slice o n c).ownBlock=(Value.slice o m c).ownBlock:=by cases o <;> rfl
theorem Mine.nx {α:Type} {F:Kd α} {W W':World} {B b:Nat} {v vR vH vR' vH':Value} {T:List α} (h:Mine F W B v T) (hn:Nx W b vR vH W' vR' vH') (hne:∀ k,v.ownBlock=some k→k≠b∧vR.ownBlock≠some k∧vH.ownBlock≠some k) :
  Mine F W' B v T∧∀ k,v.ownBlock=some k→k≠b∧vR'.ownBlock≠some k∧vH'.ownBlock≠some k:=by
 refine⟨h.keep (fun k hk hl=>hn.block k hl (hne k hk).1 (hne k hk).2.1 (hne k hk).2.2),fun k hk=>⟨(hne k hk).1,fun e=>?_,fun e=>?_⟩⟩
 ·rcases hn.newR k e with e|e
  ·exact(hne k hk).2.1 e
  ·have:=h.lt k hk;omega
 ·rcases hn.newH k e with e|e
  ·exact(hne k hk).2.2 e
  ·have:=h.lt k hk;omega
theorem Mine.upto {α:Type} {F:Kd α} {w:World} {B:Nat} {o:Option Addr} {n cap:Nat} {T:List α} (h:Mine F w B (.slice o n cap) T) (j:Nat) (hj:j≤T.length):(∀ u,(Instr.slice F.t (.slice o n cap) none (some (.int .i64 (j:Int))) none).run Tryz.prog u=.ok (.slice o j cap) u)∧Mine F w B (.slice o j cap) (T.take j):=by
 have hl:(T.take j).length=j:=by rw[List.length_take];omega
 rcases h.2 with⟨hv,h0⟩|⟨g,cap',cur,hv,hg,hh,hnc,hcm,hcs,hct⟩
 ·simp only[Value.slice.injEq] at hv
  obtain⟨rfl,rfl,rfl⟩:=hv
  obtain rfl:j=0:=by omega
  refine⟨fun u=>?_,by rw[List.take_zero];exact Mine.nil _ _⟩
  rw[run_slice_h (P:=Tryz.prog) (w:=u) (t:=F.t) (a:=none) (len:=0) (cap:=0) (ht:=F.ht') .i64 ((0:Nat):Int) (by omega) (by omega)]
  rw[F.hs]
  rfl
 ·simp only[Value.slice.injEq] at hv
  obtain⟨rfl,rfl,rfl⟩:=hv
  refine⟨fun u=>?_,?_,.inr ⟨g,cap,cur,by rw[hl],hg,hh,by omega,hcm,hcs,?_⟩⟩
  ·rw[run_slice_h (P:=Tryz.prog) (w:=u) (t:=F.t) (a:=some ⟨g,0,none⟩) (len:=T.length) (cap:=cap) (ht:=F.ht') .i64 (j:Int) (by omega) (by omega)]
   rw[F.hs]
   simp [Addr.add,sliced]
  ·rw[flat_length]
  ·have e:flat F T=flat F (T.take j) ++ flat F (T.drop j):=by rw[← flat_append,List.take_append_drop]
   have hf:(flat F (T.take j)).length=(T.take j).length*F.k:=flat_length _ _
   have h1:(T.take j).length*F.k≤T.length*F.k:=Nat.mul_le_mul_right _ (by omega)
   rw[show cur.toList.take ((T.take j).length*F.k)=(cur.toList.take (T.length*F.k)).take ((T.take j).length*F.k) by rw[List.take_take,Nat.min_eq_left h1],hct,e,← hf,List.take_left]
def Rd.closed (σ:Rd) (m:Nat) (N:Rn):Rd:={ σ with R:=σ.R.take m ++ [N],H:=σ.H.take m ++ [hiFrom 1 (σ.H.drop m)] }
def Rd.close (σ:Rd) (m:Nat) (N:Rn):Rd:=if 100<hiFrom 1 (σ.H.drop m) then(σ.closed m N).fail 202 else σ.closed m N
open Go.RowKit
theorem close_bad {W:World} {b:Nat} {vL vR vH:Value} {σ:Rd} (h:RdAt W b vL vR vH σ) (hf:σ.failed=true) (m k:Int) :
  Calls Tryz.prog 38 #[.pointer (some ⟨b,0,none⟩),.int .i64 m,.int .i64 k] W (Steps W b vL vR vH σ):=by
 have HRD:=Lib.hid h
 obtain⟨⟨_,_,_,_,_,_,_,_,b8⟩,_⟩:=nine_at h.cells
 rw[hf] at b8
 clear h hf
 go_enter Tryz.func38,Tryz.ntmps38
 go_wp2_with fail
 go_end0
 exact⟨_,vR,vH,rfl,HRD.out,Nx.refl _ _ _ _⟩
theorem ties_lead {w:World} {D:Nat→Prop}:∀ {l:List Tree} {R:List Rn},Ties w D l R→lead R=leadT l
 |[],R,h=>by rw[Ties] at h;subst h;rfl
 |t::l,R,h=>by
  rw[Ties] at h
  obtain⟨n,R',rfl,h3,h4⟩:=h
  rw[lead,leadT,h3.k,ties_lead h4]
theorem ties_from {w:World} {D:Nat→Prop} (a:Int) {l:List Tree} {R:List Rn} (h:Ties w D l R):fromK a R=fromOf a l:=by
 cases l with
 |nil=>rw[Ties] at h;subst h;rfl
 |cons t l=>
  rw[Ties] at h
  obtain⟨n,R',rfl,h3,h4⟩:=h
  exact h3.i
theorem ties_at {w:World} {D:Nat→Prop}:∀ {l:List Tree} {R:List Rn},Ties w D l R→∀ (n:Nat) (t:Tree),l[n]? = some t→∃ N,R[n]? = some N∧Tie w D t N
 |[],R,h,n,t,hn=>by simp at hn
 |t::l,R,h,n,t',hn=>by
  rw[Ties] at h
  obtain⟨N,R',rfl,h3,h4⟩:=h
  cases n with
  |zero=>
   simp only[List.getElem?_cons_zero,Option.some.injEq] at hn
   subst hn
   exact⟨N,rfl,h3⟩
  |succ n=>
   rw[List.getElem?_cons_succ] at hn ⊢
   exact ties_at h4 n t' hn
theorem ties_to {w:World} {D:Nat→Prop} (a:Int) {l:List Tree} {R:List Rn} (h:Ties w D l R):toK a R=toOf a l:=by
 unfold toK toOf
 rw[List.getLast?_eq_getElem?,List.getLast?_eq_getElem?,h.length]
 cases hq:l[l.length - 1]? with
 |none=>
  have hl:l.length=0:=by
   rw[List.getElem?_eq_none_iff] at hq
   omega
  rw[List.getElem?_eq_none (by rw[h.length];omega)]
 |some t=>
  obtain⟨N,h1,h2⟩:=ties_at h _ _ hq
  rw[h1]
  exact h2.j
theorem hiFrom_le (l:List Int):∀ a,a≤hiFrom a l:=by
 induction l with
 |nil=>intro a;exact Int.le_refl _
 |cons x l ih=>
  intro a
  rw[hiFrom,List.foldl_cons]
  have:=ih (max a (x+1))
  unfold hiFrom at this
  omega
def AtD (C:Keep) (w:World) (b:Nat) (x:Res) (D:Nat→Prop) (N:Nat) (L:List Tk):Prop:=∃ vL vR vH σ,RdAt w b vL vR vH σ∧Own C w b vR vH D∧Is w D σ x∧σ.R.length≤N∧σ.L=L
open Go.RowKit
theorem Apart.symm {v v2:Value} (h:Apart v v2):Apart v2 v:=fun k h1 h2=>h k h2 h1
def Le (C:Keep) (b B:Nat) (one:Res→Option Res) (yf:Res) (lf:List Ent) (n:Nat) (vF vT vN vA:Value) (w:World) (k:Nat):Prop:=
 ∃ (C1:Keep) (l:List Ent) (x:Res),Ext C C1 B∧At C1 w b x∧Held C1 w B vF it (l.map fun e=>(e.a:Int))∧Held C1 w B vT it (l.map fun e=>(e.b:Int))∧Held C1 w B vN bl (l.map Ent.is)∧Apart vF vT∧Apart vF vN∧Apart vT vN∧vA=.bool (l.any Ent.is)∧l.length+k≤n∧rEnts one k l x=some (yf,lf)
noncomputable def leOf (C:Keep) (b B:Nat) (one:Res→Option Res) (yf:Res) (lf:List Ent) (n:Nat) (vF vT vN vA:Value) (w:World):Nat:=least (Le C b B one yf lf n vF vT vN vA w)
theorem Le.least {C:Keep} {b B n k:Nat} {one:Res→Option Res} {yf:Res} {lf:List Ent} {vF vT vN vA:Value} {w:World} (h:Le C b B one yf lf n vF vT vN vA w k):Le C b B one yf lf n vF vT vN vA w (leOf C b B one yf lf n vF vT vN vA w)∧leOf C b B one yf lf n vF vT vN vA w≤k:=least_spec h
theorem Mine.empty {α:Type} (F:Kd α) {w:World} {B:Nat} (hB:B≤w.heap.size):Mine F (w.alloc (.cells #[] F.e)) B (.slice (some ⟨w.heap.size,0,none⟩) 0 0) []:=World.ownsRow_lit w #[] 0 hB (by simp [maxLen]) (by simp)
open Go.RowKit
def Res.push (x:Res) (t:Tree) (k:Int):Res:=match x with
 |.ok s=>.ok { s with R:=s.R ++ [t],H:=s.H ++ [k] }
 |.fail a b c=>.fail a b c
def Res.back (x:Res) (R:List Tree) (H:List Int) (a b:Nat):Res:=match x with
 |.ok s=>.ok (s.back R H a b)
 |.fail d0 d1 d2=>.fail d0 d1 d2
theorem back_self (x:Res) (R:List Tree) (H:List Int) (a:Nat):x.back R H a a=x:=by
 cases x with
 |fail=>rfl
 |ok s=>simp [Res.back,St.back]
theorem AtD.at {C:Keep} {w:World} {b:Nat} {x:Res} {D:Nat→Prop} {N:Nat} {L:List Tk} (h:AtD C w b x D N L):At C w b x:=by
 obtain⟨vL,vR,vH,σ,hr,ho,hi,_,_⟩:=h
 exact⟨vL,vR,vH,σ,D,hr,ho,hi⟩
theorem AtD.below {C:Keep} {w w':World} {b:Nat} {x:Res} {D:Nat→Prop} {N:Nat} {L:List Tk} (h:AtD C w b x D N L) (hb:Below w.heap.size w w'):AtD C w' b x D N L:=by
 obtain⟨vL,vR,vH,σ,hr,ho,hi,hN,hL⟩:=h
 have hn:Nx w b vR vH w' vR vH:=Nx.below hb
 refine⟨vL,vR,vH,σ,hr.below hb,ho.step hn,?_,hN,hL⟩
 cases x with
 |fail=>exact hi
 |ok s=>
  obtain⟨h1,h2,h3,h4,h5⟩:=hi
  exact⟨h1,h2,h3,ho.ties hn h4,h5⟩
theorem AtD.mono {C:Keep} {w:World} {b:Nat} {x:Res} {D:Nat→Prop} {N N':Nat} {L:List Tk} (h:AtD C w b x D N L) (hN:N≤N'):AtD C w b x D N' L:=by
 obtain⟨vL,vR,vH,σ,hr,ho,hi,h1,hL⟩:=h
 exact⟨vL,vR,vH,σ,hr,ho,hi,Nat.le_trans h1 hN,hL⟩
structure Five (C:Keep) (w:World) (B:Nat) (vR vH vF vT vN:Value) (R:List Rn) (H:List Int) (l:List Ent):Prop where
 r:Held C w 0 vR nd R
 h:Held C w 0 vH it H
 f:Held C w B vF it (l.map fun e=>(e.a:Int))
 t:Held C w B vT it (l.map fun e=>(e.b:Int))
 n:Held C w B vN bl (l.map Ent.is)
theorem Five.call {C:Keep} {w w':World} {b B:Nat} {x y:Res} {vR vH vF vT vN:Value} {R:List Rn} {H:List Int} {l:List Ent} (h:Five C w B vR vH vF vT vN R H l) (h1:At C w b x) (h2:At C w' b y):Five C w' B vR vH vF vT vN R H l:=
 ⟨h.r.call h1 h2,h.h.call h1 h2,h.f.call h1 h2,h.t.call h1 h2,h.n.call h1 h2⟩
theorem wfE_cons {e:Ent} {r:List Ent} {lo n:Nat} (h:wfE lo (e::r) n=true):lo≤e.a∧e.a≤e.b∧e.b≤n∧wfE e.b r n=true:=by
 rw[wfE,Bool.and_eq_true,Bool.and_eq_true,decide_eq_true_iff,decide_eq_true_iff] at h
 refine⟨h.1.1,h.1.2,?_,h.2⟩
 have:∀ (r:List Ent) (lo:Nat),wfE lo r n=true→lo≤n:=by
  intro r
  induction r with
  |nil=>intro lo h;rw[wfE,decide_eq_true_iff] at h;exact h
  |cons f r ih=>
   intro lo h
   rw[wfE,Bool.and_eq_true,Bool.and_eq_true,decide_eq_true_iff,decide_eq_true_iff] at h
   have:=ih _ h.2
   omega
 exact this r _ h.2
def nextA (r:List Ent) (n:Nat):Nat:=match r with|[]=>n|f::_=>f.a
theorem wfE_next {r:List Ent} {lo n:Nat} (h:wfE lo r n=true):lo≤nextA r n∧nextA r n≤n∧wfE (nextA r n) r n=true:=by
 cases r with
 |nil=>
  rw[wfE,decide_eq_true_iff] at h
  exact⟨h,Nat.le_refl _,by rw[wfE,decide_eq_true_iff];exact Nat.le_refl _⟩
 |cons f r=>
  obtain⟨h1,h2,h3,h4⟩:=wfE_cons h
  exact⟨h1,by show f.a≤n;omega,by show wfE f.a (f::r) n=true;rw[wfE,h4];simp [h2]⟩
theorem rGroups_yes {R:List Tree} {H:List Int} {any:Bool} {e:Ent} {r:List Ent} {m a:Nat} {x y:Res} (he:(!any || e.is)=true) (h:rGroups R H any (e::r) m a x=some y) :
  ∃ y1,Hid (rClose (m:Int) 233 (x.back R H a e.b)=some y1)∧rGroups R H any r (y1.back R H e.b (nextA r R.length)).len (nextA r R.length) (y1.back R H e.b (nextA r R.length))=some y:=by
 cases x with
 |fail a0 a1 a2=>
  obtain rfl:=Option.some.inj (show some (Res.fail a0 a1 a2)=some y from h)
  refine⟨.fail a0 a1 a2,Lib.hid rfl,?_⟩
  show rGroups R H any r _ _ (.fail a0 a1 a2)=_
  cases r <;> rfl
 |ok s=>
  rw[rGroups.eq_def] at h
  simp only[] at h
  rw[if_pos he,bind_iff] at h
  obtain⟨y1,hy1,h⟩:=h
  refine⟨y1,hy1,?_⟩
  cases y1 with
  |fail b0 b1 b2=>
   simp only[] at h
   obtain rfl:=Option.some.inj h
   show rGroups R H any r _ _ (.fail b0 b1 b2)=_
   cases r <;> rfl
  |ok t=>exact h
theorem rGroups_no {R:List Tree} {H:List Int} {any:Bool} {e:Ent} {r:List Ent} {m a:Nat} {x y:Res} (he:(!any || e.is)=false) (h:rGroups R H any (e::r) m a x=some y):rGroups R H any r m e.b (x.back R H a e.b)=some y:=by
 cases x with
 |fail a0 a1 a2=>
  obtain rfl:=Option.some.inj (show some (Res.fail a0 a1 a2)=some y from h)
  show rGroups R H any r _ _ (.fail a0 a1 a2)=_
  cases r <;> rfl
 |ok s=>
  rw[rGroups.eq_def] at h
  simp only[] at h
  rw[if_neg (by rw[he];simp)] at h
  exact h
open Go.RowKit
open Go.RowKit
theorem run_zero {p:Pc} {s:St} {y:Res} (h:Hid (run 0 p (.ok s)=some y)):False:=by
 have:=h.out
 unfold run at this
 simp at this
theorem run_bad {n:Nat} {p:Pc} {a b c:Int} {y:Res} (h:Hid (run n p (.fail a b c)=some y)):y=.fail a b c:=by
 have:=h.out
 rw[run_fail] at this
 exact(Option.some.inj this).symm
end Go.Proofs.YtcekbbkidipbnaaGreat.rd
