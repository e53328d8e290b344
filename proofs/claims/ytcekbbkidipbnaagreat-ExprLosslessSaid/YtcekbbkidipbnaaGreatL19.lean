/-
  Texts put together: Se, Sf, Sg, Kq, Sd, Kn.
-/
import Derived.Test.YtcekbbkidipbnaaGreatL2
import Derived.Test.YtcekbbkidipbnaaGreatL5
import Derived.Test.YtcekbbkidipbnaaGreatL17
import Derived.Test.YtcekbbkidipbnaaGreatL1
import Derived.ProofKit
import Derived.OpenShut
import Derived.ChangeOld
import Derived.Carry
import Derived.JoinedCond
import Derived.Deep.DeepHandedRow
import Derived.LaidLaws
import Derived.Deep.Slices
import Derived.Deep.Fields
set_option maxRecDepth 100000
set_option maxHeartbeats 8000000
namespace Go.Proofs.YtcekbbkidipbnaaGreat.rd
open Go.RowKit
mutual
def lvT:Tree→List Tk
 |.mk k i j l=>if k<200 then[⟨k,i,j⟩] else lvTs l
def lvTs:List Tree→List Tk
 |[]=>[]
 |t::r=>lvT t ++ lvTs r
end
mutual
def htT:Tree→Int
 |.mk k _ _ l=>if k≤200 then 0 else htTs 1 l
def htTs:Int→List Tree→Int
 |a,[]=>a
 |a,t::r=>htTs (max a (htT t+1)) r
end
def Ended (l:List Tree):Prop:=∀ t,l.getLast? = some t→sig t.k=true
mutual
def okT:Tree→Prop
 |.mk k _ _ l=>k≤200∨(Headed l∧Ended l∧htTs 1 l≤100∧okTs l)
def okTs:List Tree→Prop
 |[]=>True
 |t::r=>okT t∧okTs r
end
theorem lv_append:∀ a b:List Tree,lvTs (a ++ b)=lvTs a ++ lvTs b
 |[],b=>by rw[lvTs,List.nil_append,List.nil_append]
 |t::a,b=>by rw[List.cons_append,lvTs,lvTs,lv_append a b,List.append_assoc]
theorem ht_high:∀ (l:List Tree) (a:Int),htTs a l=highOf a (l.map htT)
 |[],a=>by rw[htTs];rfl
 |t::r,a=>by rw[htTs,ht_high r,List.map_cons];rfl
theorem okTs.append:∀ {a b:List Tree},okTs a→okTs b→okTs (a ++ b)
 |[],_,_,hb=>hb
 |t::a,b,ha,hb=>by
  rw[okTs] at ha
  show okTs (t::(a ++ b))
  rw[okTs]
  exact⟨ha.1,ha.2.append hb⟩
theorem okTs.drop:∀ {l:List Tree} (n:Nat),okTs l→okTs (l.drop n)
 |_,0,h=>h
 |[],n+1,h=>h
 |t::l,n+1,h=>by
  rw[okTs] at h
  exact h.2.drop n
theorem okTs.take:∀ {l:List Tree} (n:Nat),okTs l→okTs (l.take n)
 |_,0,_=>by rw[List.take_zero,okTs];trivial
 |[],n+1,h=>h
 |t::l,n+1,h=>by
  rw[okTs] at h
  rw[List.take_succ_cons,okTs]
  exact⟨h.1,h.2.take n⟩
theorem ok_one {k i j:Int} {l:List Tree} (h:k≤200∨(Headed l∧Ended l∧htTs 1 l≤100∧okTs l)):okTs [.mk k i j l]:=by
 rw[okTs,okT,okTs]
 exact⟨h,trivial⟩
def TkOk (N:Int) (L:List Tk):Prop:=0≤N∧∀ t∈L,t.k<200∧0≤t.i∧t.i≤t.j∧t.j≤N
theorem lv_leaves:∀ l:List Tk,(∀ t∈l,t.k<200)→lvTs (l.map Tk.tree)=l
 |[],_=>by rw[List.map_nil,lvTs]
 |t::l,h=>by
  rw[List.map_cons,lvTs,Tk.tree,lvT,if_pos (h t (List.mem_cons_self ..)),lv_leaves l (fun x hx=>h x (List.mem_cons_of_mem _ hx))]
  rfl
theorem ok_leaves:∀ l:List Tk,(∀ t∈l,t.k<200)→okTs (l.map Tk.tree)
 |[],_=>by rw[List.map_nil,okTs];trivial
 |t::l,h=>by
  have:=h t (List.mem_cons_self ..)
  rw[List.map_cons,okTs,Tk.tree,okT]
  exact⟨.inl (by omega),ok_leaves l (fun x hx=>h x (List.mem_cons_of_mem _ hx))⟩
theorem ht_leaves:∀ l:List Tk,(∀ t∈l,t.k<200)→(l.map Tk.tree).map htT=List.replicate l.length 0
 |[],_=>rfl
 |t::l,h=>by
  have:=h t (List.mem_cons_self ..)
  rw[List.map_cons,List.map_cons,ht_leaves l (fun x hx=>h x (List.mem_cons_of_mem _ hx)),Tk.tree,htT,if_pos (by omega)]
  rfl
theorem ended_drop {l:List Tree} (n:Nat) (h:Ended l):Ended (l.drop n):=by
 intro t ht
 refine h t ?_
 rw[List.getLast?_drop] at ht
 split at ht
 ·cases ht
 ·exact ht
theorem ended_more {a b:List Tree} (ha:Ended a) (hb:Ended b):Ended (a ++ b):=by
 intro t ht
 rw[List.getLast?_append] at ht
 cases hl:b.getLast? with
 |none=>rw[hl] at ht;exact ha t (by simpa using ht)
 |some x=>
  rw[hl] at ht
  simp only[Option.some_or,Option.some.injEq] at ht
  subst ht
  exact hb x hl
theorem ended_one {k i j:Int} {l:List Tree} (h:10≤k):Ended [.mk k i j l]:=by
 intro t ht
 simp only[List.getLast?_singleton,Option.some.injEq] at ht
 subst ht
 exact decide_eq_true h
structure Ig (K:List Tk) (M:List Tree) (s:St):Prop where
 L:s.L=K
 le:s.at'≤K.length
 lv:lvTs s.R ++ lvTs M=K.take s.at'
 ok:okTs s.R
 ht:s.H=s.R.map htT
 en:Ended s.R
def Fl (N c a b:Int):Prop:=(c=201∨c=202)∧0≤a∧a≤b∧b≤N
def IgR (L:List Tk) (N:Int) (M:List Tree):Res→Prop
 |.ok s=>Ig L M s
 |.fail c a b=>Fl N c a b
section
variable {L:List Tk} {N:Int} {M:List Tree} {y z:Res} {u:St}
theorem chk_is {x:Res} (h:chk x=some y):y=x:=by
 cases x with
 |fail a b c=>exact chk_fail h
 |ok s=>exact(chk_ok h).1
theorem ig_lift {f:St→Res} (h:IgR L N M z) (hy:lift f z=some y) (hf:∀ u,Ig L M u→IgR L N M (f u)):IgR L N M y:=by
 cases z with
 |fail a b c=>cases hy;exact h
 |ok u=>
  have hy:chk (f u)=some y:=hy
  rw[chk_is hy]
  exact hf u h
theorem last_ok (hL:TkOk N L):∀ n x,lastTo L n=some x→0≤x∧x≤N
 |0,x,h=>by cases h
 |n+1,x,h=>by
  rw[lastTo] at h
  cases hn:L[n]? with
  |none=>rw[hn] at h;exact last_ok hL n x h
  |some t=>
   rw[hn] at h
   simp only[] at h
   split at h
   ·obtain rfl:=Option.some.inj h
    have:=hL.2 t (List.mem_of_getElem? hn)
    omega
   ·exact last_ok hL n x h
theorem here_ok (hL:TkOk N L) (hu:u.L=L):0≤u.here∧u.here≤N:=by
 unfold St.here
 rw[hu]
 split
 ·exact last_ok hL _ _ ‹_›
 ·split
  ·rename_i t ht
   have:=hL.2 t (List.mem_of_getElem? ht)
   exact⟨this.2.1,by omega⟩
  ·split
   ·rename_i t ht
    have:=hL.2 t (List.mem_of_getElem? ht)
    exact⟨this.2.1,by omega⟩
   ·exact⟨Int.le_refl _,hL.1⟩
theorem fail_ok (hL:TkOk N L) (hu:u.L=L) {c:Int} (hc:c=201∨c=202):IgR L N M (u.fail c):=by
 show Fl N c u.piece.1 u.piece.2
 unfold St.piece
 rw[hu]
 split
 ·rename_i t ht
  have:=hL.2 t (List.mem_of_getElem? ht)
  exact⟨hc,this.2.1,this.2.2.1,this.2.2.2⟩
 ·have:=here_ok hL hu
  exact⟨hc,this.1,Int.le_refl _,this.2⟩
theorem ig_take (hL:TkOk N L) (h:Ig L [] u):Ig L [] u.take:=by
 unfold St.take
 split
 ·exact h
 ·rename_i hne
  have hlt:u.next 0<L.length:=by
   rcases Nat.lt_or_ge (u.next 0) L.length with h1|h1
   ·exact h1
   ·refine absurd ?_ hne
    unfold St.ahead
    rw[h.L,List.getElem?_eq_none h1]
  have hge:u.at'≤u.next 0:=Nat.le_add_right _ _
  obtain⟨n,hn⟩:∃ n,u.next 0+1 - u.at'=n:=⟨_,rfl⟩
  rw[hn]
  have hmem:∀ t∈(L.drop u.at').take n,t.k<200:=fun t ht=>(hL.2 t (List.mem_of_mem_drop (List.mem_of_mem_take ht))).1
  have hlen:((L.drop u.at').take n).length=n:=by rw[List.length_take,List.length_drop];omega
  refine⟨h.L,by show u.at'+n≤_;omega,?_,?_,?_,?_⟩
  ·show lvTs (u.R ++ ((u.L.drop u.at').take n).map Tk.tree) ++ lvTs []=L.take (u.at'+n)
   have:=h.lv
   rw[lvTs,List.append_nil] at this ⊢
   rw[h.L,lv_append,lv_leaves _ hmem,this,List.take_add]
  ·show okTs (u.R ++ ((u.L.drop u.at').take n).map Tk.tree)
   rw[h.L]
   exact h.ok.append (ok_leaves _ hmem)
  ·show u.H ++ List.replicate n 0=(u.R ++ ((u.L.drop u.at').take n).map Tk.tree).map htT
   rw[h.L,List.map_append,ht_leaves _ hmem,hlen,h.ht]
  ·show Ended (u.R ++ ((u.L.drop u.at').take n).map Tk.tree)
   rw[h.L]
   refine ended_more h.en ?_
   intro t ht
   rw[List.getLast?_eq_getElem?,List.length_map,hlen,List.getElem?_map,List.getElem?_take_of_lt (by omega),List.getElem?_drop,show u.at'+(n - 1)=u.next 0 by omega,List.getElem?_eq_getElem hlt] at ht
   simp only[Option.map_some,Option.some.injEq] at ht
   subst ht
   show sig (L[u.next 0]).k=true
   have hx:nxt 0 (L.drop u.at')<(L.drop u.at').length:=by
    rw[List.length_drop]
    have:u.next 0=u.at'+nxt 0 (L.drop u.at'):=by unfold St.next;rw[h.L]
    omega
   have h2:=nxt_sig (L.drop u.at') 0 hx
   rw[List.getElem_drop] at h2
   have:u.next 0=u.at'+nxt 0 (L.drop u.at'):=by unfold St.next;rw[h.L]
   simp only[this]
   exact h2
theorem iv_take (hL:TkOk N L) (hy:Hid (rTake z=some y)) (h:IgR L N [] z):IgR L N [] y:=ig_lift h hy.out fun _ hu=>ig_take hL hu
theorem ig_none (h:Ig L M u):Ig L M u.none:=by
 refine⟨h.L,h.le,?_,h.ok.append (ok_one (.inl (Int.le_refl _))),?_,ended_more h.en (ended_one (by decide))⟩
 ·show lvTs (u.R ++ _) ++ _=_
  rw[lv_append,lvTs,lvT,if_neg (by decide),lvTs,List.append_nil,List.append_nil]
  exact h.lv
 ·show u.H ++ [0]=_
  rw[St.none,List.map_append,h.ht,List.map_cons,htT,if_pos (by decide)]
  rfl
theorem iv_none (hy:Hid (rNone z=some y)) (h:IgR L N M z):IgR L N M y:=ig_lift h hy.out fun _ hu=>ig_none hu
theorem iv_expect (hL:TkOk N L) {k:Int} (hy:Hid (rExpect k z=some y)) (h:IgR L N [] z):IgR L N [] y:=ig_lift h hy.out fun u hu=>by
 unfold St.expect
 split
 ·exact ig_take hL hu
 ·exact fail_ok hL hu.L (.inl rfl)
theorem iv_down (hL:TkOk N L) (hy:Hid (rDown z=some y)) (h:IgR L N M z):IgR L N M y:=ig_lift h hy.out fun u hu=>by
 unfold St.down
 split
 ·exact fail_ok hL hu.L (.inr rfl)
 ·exact⟨hu.L,hu.le,hu.lv,hu.ok,hu.ht,hu.en⟩
theorem iv_up (hy:Hid (rUp z=some y)) (h:IgR L N M z):IgR L N M y:=ig_lift h hy.out fun _ hu=>⟨hu.L,hu.le,hu.lv,hu.ok,hu.ht,hu.en⟩
theorem iv_fail (hL:TkOk N L) (hy:Hid (rFail 201 z=some y)) (h:IgR L N M z):IgR L N M y:=ig_lift h hy.out fun _ hu=>fail_ok hL hu.L (.inl rfl)
theorem iv_close (hL:TkOk N L) {m k:Int} (hy:Hid (rClose m k z=some y)) (hk:200<k) (h:IgR L N M z):IgR L N M y:=ig_lift h hy.out fun u hu=>by
 unfold St.close
 split
 ·exact fail_ok hL hu.L (.inr rfl)
 ·rename_i hh
  obtain⟨q,hq⟩:∃ q,u.mark m=q:=⟨_,rfl⟩
  have hhd:Headed (u.R.drop q):=by
   rw[← hq]
   unfold St.mark
   rw[← List.drop_drop]
   exact headed_lead _
  rw[hq] at hh ⊢
  have e:highOf 1 (u.H.drop q)=htTs 1 (u.R.drop q):=by rw[ht_high,hu.ht,List.map_drop]
  rw[e] at hh
  refine⟨hu.L,hu.le,?_,(hu.ok.take _).append (ok_one (.inr ⟨hhd,ended_drop _ hu.en,by omega,hu.ok.drop _⟩)),?_,?_⟩
  ·show lvTs (u.R.take q ++ _) ++ _=_
   rw[lv_append,lvTs,lvT,if_neg (by omega),lvTs,List.append_nil,← lv_append,List.take_append_drop]
   exact hu.lv
  ·show u.H.take q ++ [highOf 1 (u.H.drop q)]=(u.R.take q ++ _).map htT
   rw[e,List.map_append,hu.ht,List.map_take,List.map_cons,htT,if_neg (by omega)]
   rfl
  ·intro t ht
   have ht:(u.R.take q ++ [_]).getLast? = some t:=ht
   rw[List.getLast?_append] at ht
   simp only[List.getLast?_singleton,Option.some_or,Option.some.injEq] at ht
   subst ht
   show decide (10≤k)=true
   exact decide_eq_true (by omega)
end
open Go.RowKit
def RunIv (L:List Tk) (N:Int) (n:Nat):Prop:=∀ (p:Pc) (s:St) (y:Res),Ig L [] s→run n p (.ok s)=some y→IgR L N [] y
section
variable {L:List Tk} {N:Int} {M:List Tree} {y z:Res} {u:St}
theorem iv_run {n:Nat} {p:Pc} (ih:RunIv L N n) (hy:Hid (run n p z=some y)) (h:IgR L N [] z):IgR L N [] y:=by
 have hy:=hy.out
 cases z with
 |fail a b c=>rw[run_fail] at hy;cases hy;exact h
 |ok u=>exact ih p u y h hy
theorem iv_name (hL:TkOk N L) (hy:Hid (rName z=some y)) (h:IgR L N [] z):IgR L N [] y:=by
 have hy:=hy.out
 unfold rName at hy
 obtain⟨v,hv,hy⟩:=bind_some hy
 exact iv_close hL (Lib.hid hy) (by decide) (iv_expect hL hv h)
theorem iv_qualified (hL:TkOk N L) (hy:Hid (rQualified z=some y)) (h:IgR L N [] z):IgR L N [] y:=by
 have hy:=hy.out
 unfold rQualified at hy
 obtain⟨v,hv,hy⟩:=bind_some hy
 have h1:=iv_name hL hv h
 split at hy
 ·obtain⟨v2,hv2,hy⟩:=bind_some hy
  obtain⟨v3,hv3,hy⟩:=bind_some hy
  exact iv_close hL (Lib.hid hy) (by decide) (iv_name hL hv3 (iv_take hL hv2 h1))
 ·cases hy;exact h1
def EntsOk (l:List Ent) (R:List Tree):Prop:=∀ e∈l,e.a≤R.length∧e.b≤R.length∧Ended (R.take e.a)∧Ended (R.take e.b)
theorem ents_keep {l:List Ent} {s t:St} (h:EntsOk l s.R) (hk:∀ q,q≤s.R.length→Pre q s t):EntsOk l t.R:=by
 intro e he
 obtain⟨h1,h2,h3,h4⟩:=h e he
 have k1:=hk _ h1
 have k2:=hk _ h2
 exact⟨k1.le,k2.le,by rw[k1.R];exact h3,by rw[k2.R];exact h4⟩
theorem iv_ents (hL:TkOk N L) {one:Res→Option Res} (hone:∀ x y,Hid (one x=some y)→IgR L N [] x→IgR L N [] y) (hbad:∀ x y,Hid (one x=some y)→x.bad=true→y.bad=true) (hkp:∀ s y,Hid (one (.ok s)=some y)→∀ q,q≤s.R.length→Kp q s y):∀ (n:Nat) (l l':List Ent) (x y:Res),IgR L N [] x→(∀ s,x=.ok s→EntsOk l s.R)→rEnts one n l x=some (y,l')→IgR L N [] y∧∀ s,y=.ok s→EntsOk l' s.R
 |0,l,l',x,y,hx,hl,h=>by unfold rEnts at h;cases h
 |n+1,l,l',x,y,hx,hl,h=>by
  unfold rEnts at h
  split at h
  ·cases h;exact⟨hx,hl⟩
  ·rename_i hnb
   rw[not_or] at hnb
   obtain⟨y1,hy1,h⟩:=bind_some h
   have k1:=hone _ _ hy1 hx
   cases x with
   |fail a b c=>exact absurd rfl hnb.1
   |ok s=>
    have hs:Ended s.R:=hx.en
    have hes:=hl s rfl
    have new:∀ v t,y1=.ok v→(∀ q,q≤v.R.length→Pre q v t)→EntsOk (l ++ [⟨(Res.ok s).len,y1.len,(Res.ok s).named⟩]) t.R:=by
     rintro v t rfl hk
     have hv:=hkp s _ hy1
     have hsv:∀ q,q≤s.R.length→Pre q s v:=fun q hq=>hv q hq v rfl
     have hst:∀ q,q≤s.R.length→Pre q s t:=fun q hq=>(hsv q hq).trans (hk q (hsv q hq).le)
     intro e he
     rcases List.mem_append.1 he with he|he
     ·exact ents_keep hes hst e he
     ·rw[List.mem_singleton] at he
      subst he
      have p1:=hst s.R.length (Nat.le_refl _)
      have p2:=hk v.R.length (Nat.le_refl _)
      have hv':Ended v.R:=k1.en
      refine⟨p1.le,p2.le,?_,?_⟩
      ·show Ended (t.R.take s.R.length)
       rw[p1.R,List.take_length];exact hs
      ·show Ended (t.R.take v.R.length)
       rw[p2.R,List.take_length];exact hv'
    split at h
    ·obtain⟨y2,hy2,h⟩:=bind_some h
     refine iv_ents hL hone hbad hkp n _ _ _ _ (iv_take hL hy2 k1) ?_ h
     rintro t rfl
     cases y1 with
     |fail a b c=>have:=bd_take hy2 rfl;cases this
     |ok v=>exact new v t rfl (fun q hq=>kp_take hy2 (Kp.refl hq) t rfl)
    ·cases h
     refine⟨k1,?_⟩
     rintro t rfl
     exact new t t rfl (fun q hq=>Pre.refl hq)
theorem wf_le:∀ (l:List Ent) (lo n:Nat),wfE lo l n=true→lo≤n
 |[],lo,n,h=>of_decide_eq_true h
 |e::r,lo,n,h=>by
  rw[wfE,Bool.and_eq_true,Bool.and_eq_true,decide_eq_true_eq,decide_eq_true_eq] at h
  have:=wf_le r _ _ h.2
  omega
theorem ig_back {R:List Tree} {H:List Int} {a b:Nat} (hR:okTs R) (hH:H=R.map htT) (hab:a≤b) (he:Ended (R.take b)) (h:Ig L (R.drop a) u):Ig L (R.drop b) (u.back R H a b):=by
 have hx:R.drop a=(R.drop a).take (b - a) ++ R.drop b:=by
  have:=(List.take_append_drop (b - a) (R.drop a)).symm
  rw[List.drop_drop,show a+(b - a)=b by omega] at this
  exact this
 refine⟨h.L,h.le,?_,h.ok.append ((hR.drop _).take _),?_,?_⟩
 ·show lvTs (u.R ++ (R.drop a).take (b - a)) ++ lvTs (R.drop b)=_
  rw[lv_append,List.append_assoc,← lv_append,← hx]
  exact h.lv
 ·show u.H ++ (H.drop a).take (b - a)=(u.R ++ (R.drop a).take (b - a)).map htT
  rw[List.map_append,← h.ht,hH,List.map_take,List.map_drop]
 ·show Ended (u.R ++ (R.drop a).take (b - a))
  refine ended_more h.en ?_
  have e:(R.drop a).take (b - a)=(R.take b).drop a:=by rw[List.drop_take]
  rw[e]
  exact ended_drop _ he
theorem iv_groups (hL:TkOk N L) (R:List Tree) (H:List Int) (any:Bool) (hR:okTs R) (hH:H=R.map htT) (hE:Ended R):∀ (l:List Ent) (m a:Nat) (x y:Res),EntsOk l R→wfE a l R.length=true→(l=[]→a=R.length)→(any=true→unfit R l=false)→IgR L N (R.drop a) x→rGroups R H any l m a x=some y→IgR L N [] y
 |[],m,a,x,y,_,_,ha,_,hx,h=>by
  unfold rGroups at h
  cases h
  rw[ha rfl,List.drop_length] at hx
  exact hx
 |e::r,m,a,x,y,hl,hw,_,hu,hx,h=>by
  unfold rGroups at h
  cases x with
  |fail d0 d1 d2=>cases h;exact hx
  |ok u=>
   simp only[] at h
   rw[wfE,Bool.and_eq_true,Bool.and_eq_true,decide_eq_true_eq,decide_eq_true_eq] at hw
   obtain⟨⟨hw1,hw2⟩,hw3⟩:=hw
   obtain⟨he1,he2,he3,he4⟩:=hl e (List.mem_cons_self ..)
   have hlr:EntsOk r R:=fun x hx=>hl x (List.mem_cons_of_mem _ hx)
   have hb:Ig L (R.drop e.b) (u.back R H a e.b):=ig_back hR hH (by omega) he4 hx
   have hur:any=true→unfit R r=false:=fun ha=>by
    have:=hu ha
    rw[unfit,Bool.or_eq_false_iff] at this
    exact this.2
   split at h
   ·obtain⟨y1,hy1,h⟩:=bind_some h
    have k1:IgR L N (R.drop e.b) y1:=iv_close hL hy1 (by decide) hb
    cases y1 with
    |fail d0 d1 d2=>cases h;exact k1
    |ok t=>
     simp only[] at h
     cases r with
     |nil=>
      refine iv_groups hL R H any hR hH hE [] _ _ _ _ hlr (by rw[wfE];exact decide_eq_true (Nat.le_refl _)) (fun _=>rfl) hur ?_ h
      exact ig_back hR hH (wf_le _ _ _ hw3) (by rw[List.take_length];exact hE) k1
     |cons f r'=>
      have hw3':=hw3
      rw[wfE,Bool.and_eq_true,Bool.and_eq_true,decide_eq_true_eq,decide_eq_true_eq] at hw3'
      refine iv_groups hL R H any hR hH hE (f::r') _ _ _ _ hlr ?_ (fun e=>by cases e) hur ?_ h
      ·show wfE f.a (f::r') R.length=true
       rw[wfE,Bool.and_eq_true,Bool.and_eq_true,decide_eq_true_eq,decide_eq_true_eq]
       exact⟨⟨Nat.le_refl _,hw3'.1.2⟩,hw3'.2⟩
      ·exact ig_back hR hH hw3'.1.1 (hlr f (List.mem_cons_self ..)).2.2.1 k1
   ·rename_i hc
    have hc':any=true∧e.is=false:=by
     cases any <;> cases hi:e.is <;> simp_all
    have hne:r≠[]:=by
     rintro rfl
     have:=hu hc'.1
     rw[unfit,hc'.2] at this
     simp at this
    exact iv_groups hL R H any hR hH hE r m e.b _ _ hlr hw3 (fun e=>absurd e hne) hur (show IgR L N (R.drop e.b) (.ok (u.back R H a e.b)) from hb) h
theorem iv_finish (hL:TkOk N L) {m:Nat} {l:List Ent} {x:Res} (hx:IgR L N [] x) (hl:∀ s,x=.ok s→EntsOk l s.R) (h:rFinish m l x=some y):IgR L N [] y:=by
 unfold rFinish at h
 cases x with
 |fail d0 d1 d2=>cases h;exact hx
 |ok u=>
  simp only[] at h
  split at h
  ·rename_i hwf
   rw[Bool.and_eq_true] at hwf
   split at h
   ·exact iv_fail hL (Lib.hid h) hx
   ·rename_i hun
    obtain⟨y1,hy1,h⟩:=bind_some h
    obtain⟨y2,hy2,h⟩:=bind_some h
    refine iv_close hL (Lib.hid h) (by decide) (iv_expect hL hy2 ?_)
    have hg:=hy1.out
    unfold rGroup at hg
    have hu:Ig L [] u:=hx
    cases l with
    |nil=>cases hg;exact hx
    |cons e r=>
     simp only[] at hg
     have hw:=hwf.1
     rw[wfE,Bool.and_eq_true,Bool.and_eq_true,decide_eq_true_eq,decide_eq_true_eq] at hw
     have hlu:=hl u rfl
     have hlv:=hu.lv
     rw[lvTs,List.append_nil] at hlv
     refine iv_groups hL u.R u.H _ hu.ok hu.ht hu.en (e::r) e.a e.a _ _ hlu ?_ (fun e=>by cases e) ?_ ?_ hg
     ·rw[wfE,Bool.and_eq_true,Bool.and_eq_true,decide_eq_true_eq,decide_eq_true_eq]
      exact⟨⟨Nat.le_refl _,hw.1.2⟩,hw.2⟩
     ·intro ha
      cases hf:unfit u.R (e::r) with
      |false=>rfl
      |true=>exact absurd (by rw[ha,hf];rfl) hun
     ·refine⟨hu.L,hu.le,?_,hu.ok.take _,?_,(hlu e (List.mem_cons_self ..)).2.2.1⟩
      ·show lvTs (u.R.take e.a) ++ lvTs (u.R.drop e.a)=_
       rw[← lv_append,List.take_append_drop]
       exact hlv
      ·show u.H.take e.a=(u.R.take e.a).map htT
       rw[hu.ht,List.map_take]
  ·cases h
end
theorem iv_most {L:List Tk} {N:Int} (hL:TkOk N L) {n:Nat} {s:St} {y:Res} (p:Pc) (hp:p≠.params) (ih:RunIv L N n) (hs:Ig L [] s) (hy:run (n+1) p (.ok s)=some y):IgR L N [] y:=by
 cases p
 all_goals first|(exact absurd rfl hp)|(as_aux_lemma=>
 clear hp
 have _:=ih
 have h0:IgR L N [] (.ok s):=hs
 rw[run] at hy
 try dsimp only at hy
 iterate 16 (all_goals try(first|split at hy|(rw[bind_iff] at hy;obtain⟨z,hz,hy⟩:=hy;try(rw[some_hid] at hz;subst hz))))
 all_goals(first|(obtain rfl:=Option.some.inj hy)|(replace hy:=Lib.hid hy))
 all_goals(repeat (first|exact h0|exact fail_ok (u:=s) hL hs.L (.inl rfl)|(with_reducible refine iv_fail hL ‹_› ?_)|(with_reducible refine iv_close hL ‹_› (by decide) ?_)|(with_reducible refine iv_take hL ‹_› ?_)|(with_reducible refine iv_none ‹_› ?_)|(with_reducible refine iv_expect hL ‹_› ?_)|(with_reducible refine iv_down hL ‹_› ?_)|(with_reducible refine iv_up ‹_› ?_)|(with_reducible refine iv_name hL ‹_› ?_)|(with_reducible refine iv_qualified hL ‹_› ?_)|(with_reducible refine iv_run ih ‹_› ?_))))
theorem iv_params_s {L:List Tk} {N:Int} (hL:TkOk N L) {n:Nat} {s:St} {y:Res} (ih:RunIv L N n) (hs:Ig L [] s) (hy:run (n+1) .params (.ok s)=some y):IgR L N [] y:=by
 rw[run] at hy
 try dsimp only at hy
 rw[bind_iff] at hy
 obtain⟨z,hz,hy⟩:=hy
 rw[bind_iff] at hy
 obtain⟨⟨u,l⟩,hu,hy⟩:=hy
 have h0:IgR L N [] (.ok s):=hs
 obtain⟨h1,h2⟩:=iv_ents hL (fun x y hxy hx=>iv_run ih hxy hx) (fun x y hxy hx=>bd_run hxy hx) (fun s y hy q hq=>run_kp n .entry s y q hq (fun m hm=>by cases hm) hy.out) n [] l z u (iv_expect hL hz h0) (fun _ _ e he=>by cases he) hu.out
 exact iv_finish hL h1 h2 hy
theorem run_iv {L:List Tk} {N:Int} (hL:TkOk N L):∀ n,RunIv L N n
 |0=>fun p s y hs hy=>by
  unfold run at hy
  simp at hy
 |n+1=>fun p s y hs hy=>by
  have ih:=run_iv hL n
  by_cases hp:p=.params
  ·subst hp
   exact iv_params_s hL ih hs hy
  ·exact iv_most hL p hp ih hs hy
open Go.RowKit
theorem htTs_ge:∀ (l:List Tree) (a:Int),a≤htTs a l
 |[],a=>by rw[htTs];exact Int.le_refl _
 |t::r,a=>by
  rw[htTs]
  have:=htTs_ge r (max a (htT t+1))
  omega
theorem ht_few {t:Tree} (h:okT t):0≤htT t∧htT t≤100:=by
 obtain⟨k,i,j,l⟩:=t
 rw[okT] at h
 rw[htT]
 split
 ·omega
 ·rcases h with h|⟨_,_,h,_⟩
  ·omega
  ·have:=htTs_ge l 1
   omega
theorem htTs_append:∀ (a b:List Tree) (x:Int),htTs x (a ++ b)=htTs (htTs x a) b
 |[],b,x=>by rw[htTs];rfl
 |t::a,b,x=>by
  show htTs x (t::(a ++ b))=_
  rw[htTs,htTs,htTs_append a b]
theorem htTs_snoc {l:List Tree} {q:Nat} (h:q<l.length):htTs 1 (l.take (q+1))=max (htTs 1 (l.take q)) (htT l[q]+1):=by
 rw[List.take_add_one,List.getElem?_eq_getElem h,htTs_append]
 show htTs _ [l[q]]=_
 rw[htTs,htTs]
theorem ok_at:∀ {l:List Tree} {q:Nat} (h:q<l.length),okTs l→okT l[q]
 |t::l,0,_,h=>by rw[okTs] at h;exact h.1
 |t::l,q+1,hq,h=>by rw[okTs] at h;exact ok_at (l:=l) (by simpa using hq) h.2
def NeatC (t:Tree):Prop:=∀ (w:World) (D:Nat→Prop) (n:Rn),Tie w D t n→OfNodes w D→okT t→Calls Tryz.prog 27 #[n.v] w fun e w'=>e=.returned (.tuple #[.int .i64 (htT t),.bool true])∧Below w.heap.size w w'
theorem neat_node (k i j:Int) (l:List Tree) (ih:∀ t∈l,NeatC t):NeatC (.mk k i j l):=by
 intro w D n hT hD hok
 obtain⟨k',i',j',o,nn,c⟩:=n
 rw[Tie] at hT
 obtain⟨rfl,rfl,rfl,hnn,g0,off0,R,⟨hc,hl⟩,ho,hcell,hties⟩:=hT
 simp only[] at hnn hc ho
 subst hnn
 show Calls Tryz.prog 27 #[.agg #[.int .i64 k',.int .i64 i',.int .i64 j',.slice o l.length c]] w _
 have hlR:=hties.length
 obtain⟨len,hlen⟩:∃ len,l.length=len:=⟨_,rfl⟩
 have z1:(w.alloc (.cells #[.int .i64 k',.int .i64 i',.int .i64 j',.slice o l.length c] 43)).heap.size=w.heap.size+1:=World.size_alloc _ _
 have b1:Below w.heap.size w (w.alloc (.cells #[.int .i64 k',.int .i64 i',.int .i64 j',.slice o l.length c] 43)):=(Below.refl _ _).alloc (Nat.le_refl _) _
 have a1:=heap_alloc_last w (.cells #[.int .i64 k',.int .i64 i',.int .i64 j',.slice o l.length c] 43)
 obtain⟨X,hX⟩:∃ X,w.heap.size=X:=⟨_,rfl⟩
 obtain⟨W1,hW1⟩:∃ W1,w.alloc (.cells #[.int .i64 k',.int .i64 i',.int .i64 j',.slice o l.length c] 43)=W1:=⟨_,rfl⟩
 rw[hW1] at z1 b1 a1
 rw[hX] at z1 a1
 have HB1:=Lib.hid (And.intro hX b1)
 have HW1:=Lib.hid hW1
 rw[hlen] at a1 hl hlR HW1 ⊢
 have HT:=Lib.hid (And.intro hties hD)
 have HC:=Lib.hid hcell
 have HO:=Lib.hid ho
 have HIH:=Lib.hid ih
 have HLN:=Lib.hid (And.intro hlen hlR)
 have HA:=Lib.hid a1
 rw[okT] at hok
 rw[htT]
 by_cases hk:k'≤200
 ·have hdk:decide (k'≤200)=true:=decide_eq_true hk
  rw[if_pos hk]
  clear hok hties hD hcell ho ih hlen hlR hW1 b1 z1 hX HT HC HO HIH HLN hc HA a1
  go_enter Tryz.func27,Tryz.ntmps27
  go_wp2_with fail
  go_ret2
  exact⟨rfl,by rw[HW1.out];exact HB1.out.2⟩
 ·have hdk:decide (k'≤200)=false:=decide_eq_false hk
  rw[if_neg hk]
  obtain⟨hhd,hen,hht,hkok⟩:=hok.resolve_left hk
  have HOK:=Lib.hid hkok
  have HHE:=Lib.hid (And.intro hhd (And.intro hen hht))
  clear hhd hen hht hkok hok hties hD hcell ho ih hlen hlR hW1 b1 z1 hX hc
  go_enter Tryz.func27,Tryz.ntmps27
  go_wp2_with fail
  rw[HW1.out,HB1.out.1]
  go_loopw [4,5] (fun ph pq wr=>∃ (q:Nat) (h:Int),q≤len∧pq=.int .i64 (q:Int)∧ph=.int .i64 h∧1≤h∧h≤101∧Hid (h=htTs 1 (l.take q))∧Below W1.heap.size W1 wr) (fun _ pq _=>len - (intOf pq).toNat)
  case atStart=>exact⟨0,1,Nat.zero_le _,rfl,rfl,by omega,by omega,Lib.hid (by rw[List.take_zero,htTs]),Below.refl _ _⟩
  case round=>
   obtain⟨q,h,hql,rfl,rfl,h1,h101,HH,hb⟩:=hrel
   have y1:=(hb.block X (Array.getElem?_eq_some_iff.1 HA.out).1).trans HA.out
   have q1:X<wr.heap.size:=(Array.getElem?_eq_some_iff.1 y1).1
   obtain⟨⟨_,_,_,e3⟩,_⟩:=four_cells0 y1
   have hbw:Below w.heap.size w wr:=HB1.out.2.trans (hb.mono HB1.out.2.size)
   have HB:=Lib.hid hb
   by_cases hlt:q<len
   ·have hlne:l≠[]:=by intro e;have:=HLN.out.1;rw[e] at this;simp at this;omega
    have hil:q<l.length:=by rw[HLN.out.1];exact hlt
    have hiR:q<R.length:=by rw[HLN.out.2];exact hlt
    obtain⟨ho,hd0⟩:=HO.out hlne
    subst ho
    have hg0:=HT.out.2.lt g0 hd0
    obtain⟨a0,a1,a2,a3⟩:=cells_nd HC.out q hiR
    have t1:=(ties_get' HT.out.1 hil hiR)
    obtain⟨⟨nk,ni,nj,no,nn,nc⟩,hn1⟩:∃ n,R[q]=n:=⟨_,rfl⟩
    rw[hn1] at a0 a1 a2 a3 t1
    have c0:=(hbw.cell (p:=⟨g0,off0+q*4,none⟩) hg0).trans a0
    have c1:=(hbw.cell (p:=⟨g0,off0+q*4+1,none⟩) hg0).trans a1
    have c2:=(hbw.cell (p:=⟨g0,off0+q*4+2,none⟩) hg0).trans a2
    have c3:=(hbw.cell (p:=⟨g0,off0+q*4+3,none⟩) hg0).trans a3
    have hkt:=ok_at hil HOK.out
    obtain⟨hh,hhh⟩:∃ hh,htT l[q]=hh:=⟨_,rfl⟩
    have hfew:=ht_few hkt
    rw[hhh] at hfew
    obtain⟨f0,f100⟩:=hfew
    have HSN:Hid (∀ m,m=max h (hh+1)→m=htTs 1 (l.take (q+1))):=Lib.hid (fun m hm=>by rw[htTs_snoc hil,hhh,← HH.out];exact hm)
    have HCALL:Hid (∀ u,Below wr.heap.size wr u→Calls Tryz.prog 27 #[.agg #[.int .i64 nk,.int .i64 ni,.int .i64 nj,.slice no nn nc]] u fun e w'=>e=.returned (.tuple #[.int .i64 hh,.bool true])∧Below u.heap.size u w'):=Lib.hid (fun u hu=>by
     have hbu:=hbw.trans (hu.mono hbw.size)
     have:=HIH.out l[q] (List.getElem_mem hil) u D ⟨nk,ni,nj,no,nn,nc⟩ (t1.below HT.out.2 hbu) (HT.out.2.below hbu) hkt
     rw[hhh] at this
     exact this)
    have hq0:(0:Int)≤(q:Int):=by omega
    have hww:(q:Int)+1≤1099511627777:=by omega
    have hd:decide ((q:Int)<(len:Int))=true:=decide_eq_true (by omega)
    have hd':decide (q<len)=true:=decide_eq_true hlt
    simp only[] at c0 c1 c2 c3
    clear a0 a1 a2 a3 t1 hn1 hbw y1 hb hkt hhh
    have hmx:max h (hh+1)≤101∧1≤max h (hh+1):=by omega
    obtain⟨m,hm⟩:∃ m,max h (hh+1)=m:=⟨_,rfl⟩
    rw[hm] at hmx
    have HMM:=Lib.hid (And.intro hmx (HSN.out m hm.symm))
    clear hmx
    go_wp2_with (go_at_call 27;refine(HCALL.out _ (Below.refl _ _)).mono ?_;rintro e w9 ⟨rfl,hb9⟩;have HB9:=Lib.hid (HB.out.trans (hb9.mono HB.out.size));clear hb9)
    have e:(if h<hh+1 then hh+1 else h)=m:=by rw[← hm];split <;> omega
    rw[e]
    exact⟨⟨q+1,m,by omega,by go_num,rfl,HMM.out.1.2,HMM.out.1.1,Lib.hid HMM.out.2,HB9.out⟩,by simp [intOf];omega⟩
   ·obtain rfl:q=len:=by omega
    have hd:decide ((q:Int)<(q:Int))=false:=decide_eq_false (by omega)
    rw[List.take_of_length_le (by rw[HLN.out.1];exact Nat.le_refl _)] at HH
    have hh100:h≤100:=by rw[HH.out];exact HHE.out.2.2
    have hdh:decide (h≤100)=true:=decide_eq_true hh100
    have HBW:=Lib.hid hbw
    by_cases hz:q=0
    ·subst hz
     have hd0:decide ((0:Int)<((0:Nat):Int))=false:=by decide
     clear hb hbw y1
     go_wp2_with fail
     go_ret2
     exact⟨by rw[← HH.out];rfl,HBW.out⟩
    ·obtain⟨m,rfl⟩:∃ m,q=m+1:=⟨q - 1,by omega⟩
     have hlne:l≠[]:=by intro e;have:=HLN.out.1;rw[e] at this;simp at this
     have hi0:0<l.length:=by rw[HLN.out.1];omega
     have him:m<l.length:=by rw[HLN.out.1];omega
     have hR0:0<R.length:=by rw[HLN.out.2];omega
     have hRm:m<R.length:=by rw[HLN.out.2];omega
     obtain⟨ho,hd0⟩:=HO.out hlne
     subst ho
     have hg0:=HT.out.2.lt g0 hd0
     obtain⟨a0,_,_,_⟩:=cells_nd HC.out 0 hR0
     obtain⟨b0,_,_,_⟩:=cells_nd HC.out m hRm
     have t0:=(ties_get' HT.out.1 hi0 hR0).k
     have tm:=(ties_get' HT.out.1 him hRm).k
     have s0:10≤R[0].k:=by
      rw[t0]
      have:=HHE.out.1
      cases l with
      |nil=>exact absurd rfl hlne
      |cons x r=>exact of_decide_eq_true this
     have sm:10≤R[m].k:=by
      rw[tm]
      have hl1:l.length - 1=m:=by rw[HLN.out.1];omega
      have:=HHE.out.2.1 l[m] (by rw[List.getLast?_eq_getElem?,hl1,List.getElem?_eq_getElem him])
      exact of_decide_eq_true this
     have c0:=(hbw.cell (p:=⟨g0,off0+0*4,none⟩) hg0).trans a0
     have cm:=(hbw.cell (p:=⟨g0,off0+m*4,none⟩) hg0).trans b0
     obtain⟨x0,hx0⟩:∃ x0,R[0].k=x0:=⟨_,rfl⟩
     obtain⟨xm,hxm⟩:∃ xm,R[m].k=xm:=⟨_,rfl⟩
     rw[hx0] at c0 s0
     rw[hxm] at cm sm
     rw[Nat.zero_mul,Nat.add_zero] at c0
     have hdk0:decide (x0<10)=false:=decide_eq_false (by omega)
     have hdkm:decide (xm<10)=false:=decide_eq_false (by omega)
     have hd0:decide ((0:Int)<((m+1:Nat):Int))=true:=decide_eq_true (by omega)
     have hd0':decide (0<m+1)=true:=decide_eq_true (by omega)
     have hd0'':decide ((0:Int)<(m:Int)+1)=true:=decide_eq_true (by omega)
     have hm0:(0:Int)≤(m:Int):=by omega
     have hm1:(m:Int)<(m:Int)+1:=by omega
     have hml:(m:Int)+1≤1099511627777:=by omega
     clear hb hbw y1 a0 b0 t0 tm hlne s0 sm hx0 hxm
     go_wp2_with fail
     go_ret2
     exact⟨by rw[← HH.out];rfl,HBW.out⟩
mutual
theorem neat_t:∀ t:Tree,NeatC t
 |.mk k i j l=>neat_node k i j l (neat_l l)
theorem neat_l:∀ (l:List Tree),∀ t∈l,NeatC t
 |[],t,h=>by cases h
 |u::l,t,h=>by
  rcases List.mem_cons.1 h with h|h
  ·rw[h];exact neat_t u
  ·exact neat_l l t h
end
open Go.ChangeShapes Go.WideShapes Go.ChangeAt Go.RowKit
theorem own:ownKnob Tryz.prog.godebug=none:=by kernel_rfl
def Light {H:Type} (t:TypeId) (d:DataW H):Prop:=(d.weights Tryz.prog t).all (· ≤ reachBytes)=true
theorem cellsT:Tryz.prog.cellsOf 55=3:=by kernel_rfl
instance : Inhabited Tk := ⟨⟨0, 0, 0⟩⟩
open Go.RowKit
theorem string_light {H:Type} {s:ByteArray} (h:Light (H:=H) 9 (.lit (.string s.data.toList))):s.size≤140737488351232:=by
 unfold Light at h
 have h2:s.data.toList.length≤reachBytes:=by simpa [DataW.weights] using h
 have e:s.data.toList.length=s.size:=rfl
 rw[e] at h2
 exact h2
open Go.RowKit
end Go.Proofs.YtcekbbkidipbnaaGreat.rd
