/-
  Texts put together: Ja, Jb, Jk, Jl, Kf, Ka, Kc, Fh, Fi.
-/
import Derived.Test.YtcekbbkidipbnaaGreatP28
import Derived.Test.YtcekbbkidipbnaaGreatP2
import Derived.Test.YtcekbbkidipbnaaGreatP3
set_option maxRecDepth 100000
set_option maxHeartbeats 8000000
namespace Go.Proofs.YtcekbbkidipbnaaGreat.rd
open Go.RowKit
structure Pre (q:Nat) (s t:St):Prop where
 L:t.L=s.L
 R:t.R.take q=s.R.take q
 le:q≤t.R.length
def Kp (q:Nat) (s:St) (y:Res):Prop:=∀ t,y=.ok t→Pre q s t
def mk:Pc→Option Nat
 |.binL _ _ m=>some m
 |.primL _ m=>some m
 |.period m=>some m
 |.index m=>some m
 |.cut m=>some m
 |.call m=>some m
 |.array m=>some m
 |_=>none
def RunKp (n:Nat):Prop:=∀ (p:Pc) (s:St) (y:Res) (q:Nat),q≤s.R.length→(∀ m,mk p=some m→q≤m)→run n p (.ok s)=some y→Kp q s y
section
variable {q:Nat} {s:St} {y z:Res}
theorem Pre.refl (h:q≤s.R.length):Pre q s s:=⟨rfl,rfl,h⟩
theorem Pre.trans {s t u:St} (h:Pre q s t) (h2:Pre q t u):Pre q s u:=⟨h2.L.trans h.L,h2.R.trans h.R,h2.le⟩
theorem Kp.refl (h:q≤s.R.length):Kp q s (.ok s):=fun t e=>by cases e;exact Pre.refl h
theorem Kp.fail (a b c:Int):Kp q s (.fail a b c):=fun t e=>by cases e
theorem ziO {f:St→Res} (h:Kp q s z) (hy:lift f z=some y) (hf:∀ u t,Pre q s u→f u=.ok t→Pre q u t):Kp q s y:=by
 cases z with
 |fail a b c=>cases hy;exact Kp.fail _ _ _
 |ok u=>
  intro t e
  subst e
  have hy:chk (f u)=some (.ok t):=hy
  cases hfu:f u with
  |fail a b c=>rw[hfu] at hy;cases hy
  |ok v=>
   rw[hfu] at hy
   obtain⟨e,_⟩:=zgg hy
   cases e
   exact(h u rfl).trans (hf u t (h u rfl) hfu)
theorem zlK {u:St} (h:q≤u.R.length) (l:List Tree):(u.R ++ l).take q=u.R.take q:=by rw[List.take_append,show q - u.R.length=0 by omega,List.take_zero,List.append_nil]
theorem zwz {u:St} (n:Nat) (h:q≤u.R.length):Pre q u (u.run n):=⟨rfl,zlK h _,by show q≤(u.R ++ _).length;rw[List.length_append];omega⟩
theorem zlN {u:St} (h:q≤u.R.length):Pre q u u.take:=by
 unfold St.take
 split
 ·exact Pre.refl h
 ·exact zwz _ h
theorem zgr (hy:Hid (rTake z=some y)) (h:Kp q s z):Kp q s y:=ziO h hy.out fun u t hu e=>by cases e;exact zlN hu.le
theorem zmJ (hy:Hid (rNone z=some y)) (h:Kp q s z):Kp q s y:=ziO h hy.out fun u t hu e=>by
 cases e
 exact⟨rfl,zlK hu.le _,by show q≤(u.R ++ _).length;have:=hu.le;rw[List.length_append];omega⟩
theorem zgk {k:Int} (hy:Hid (rExpect k z=some y)) (h:Kp q s z):Kp q s y:=ziO h hy.out fun u t hu e=>by
 unfold St.expect at e
 split at e
 ·cases e;exact zlN hu.le
 ·cases e
theorem zli (hy:Hid (rDown z=some y)) (h:Kp q s z):Kp q s y:=ziO h hy.out fun u t hu e=>by
 unfold St.down at e
 split at e
 ·cases e
 ·cases e;exact⟨rfl,rfl,hu.le⟩
theorem zvM (hy:Hid (rUp z=some y)) (h:Kp q s z):Kp q s y:=ziO h hy.out fun u t hu e=>by cases e;exact⟨rfl,rfl,hu.le⟩
theorem zmL {c:Int} (hy:Hid (rFail c z=some y)):Kp q s y:=by
 obtain⟨_,_,_,rfl⟩:=zgH hy.out
 exact Kp.fail _ _ _
theorem zvO {u:St} {m:Int} (hm:(q:Int)≤m) (h:q≤u.R.length):q≤u.mark m:=by
 unfold St.mark
 have:q≤clamp m u.R.length:=by unfold clamp;omega
 omega
theorem zoh:∀ l:List Tree,leadT l≤l.length
 |[]=>Nat.le_refl _
 |t::r=>by
  rw[leadT,List.length_cons]
  have:=zoh r
  split <;> omega
theorem zqV (u:St) (m:Int):u.mark m≤u.R.length:=by
 unfold St.mark
 have:=zoh (u.R.drop (clamp m u.R.length))
 rw[List.length_drop] at this
 have h0:clamp m u.R.length≤u.R.length:=by unfold clamp;omega
 omega
theorem zhW {m k:Int} (hy:Hid (rClose m k z=some y)) (hm:(q:Int)≤m) (h:Kp q s z):Kp q s y:=ziO h hy.out fun u t hu e=>by
 unfold St.close at e
 split at e
 ·cases e
 ·cases e
  have hg:=zvO hm hu.le
  have hl:=zqV u m
  refine⟨rfl,?_,?_⟩
  ·show(u.R.take (u.mark m) ++ _).take q=_
   rw[List.take_append,List.length_take,Nat.min_eq_left hl,show q - u.mark m=0 by omega,List.take_zero,List.append_nil,List.take_take,Nat.min_eq_left hg]
  ·show q≤(u.R.take (u.mark m) ++ _).length
   rw[List.length_append,List.length_take,Nat.min_eq_left hl]
   omega
theorem zgt {n:Nat} {p:Pc} (ih:RunKp n) (hy:Hid (run n p z=some y)) (hm:∀ m,mk p=some m→q≤m) (h:Kp q s z):Kp q s y:=by
 have hy:=hy.out
 cases z with
 |fail a b c=>rw[zfB] at hy;cases hy;exact Kp.fail _ _ _
 |ok u=>
  intro t e
  have hu:=h u rfl
  exact hu.trans (ih p u y q hu.le hm hy t e)
theorem zmu (h:Kp q s z) (hz:z.bad=false):(q:Int)≤(z.len:Int):=by
 cases z with
 |fail a b c=>cases hz
 |ok u=>have:=(h u rfl).le;show(q:Int)≤(u.R.length:Int);omega
theorem ziP (hy:Hid (rName z=some y)) (h:Kp q s z):Kp q s y:=by
 have hy:=hy.out
 cases z with
 |fail a b c=>rw[zra] at hy;cases hy;exact Kp.fail _ _ _
 |ok u=>
  unfold rName at hy
  obtain⟨v,hv,hy⟩:=bind_some hy
  exact zhW (Lib.hid hy) (zmu h rfl) (zgk hv h)
theorem zjf (hy:Hid (rQualified z=some y)) (h:Kp q s z):Kp q s y:=by
 have hy:=hy.out
 cases z with
 |fail a b c=>rw[zkz] at hy;cases hy;exact Kp.fail _ _ _
 |ok u=>
  unfold rQualified at hy
  obtain⟨v,hv,hy⟩:=bind_some hy
  have h1:=ziP hv h
  split at hy
  ·obtain⟨v2,hv2,hy⟩:=bind_some hy
   obtain⟨v3,hv3,hy⟩:=bind_some hy
   exact zhW (Lib.hid hy) (zmu h rfl) (ziP hv3 (zgr hv2 h1))
  ·cases hy;exact h1
end
open Go.RowKit
section
variable {q:Nat} {s:St} {x y z:Res}
theorem ziS {f:St→Res} (hy:lift f z=some y) (h:z.bad=true):y.bad=true:=by
 cases z with
 |fail a b c=>cases hy;rfl
 |ok u=>cases h
theorem zqS (hy:Hid (rTake z=some y)) (h:z.bad=true):y.bad=true:=ziS hy.out h
theorem zqF (hy:Hid (rNone z=some y)) (h:z.bad=true):y.bad=true:=ziS hy.out h
theorem zpE {m k:Int} (hy:Hid (rClose m k z=some y)) (h:z.bad=true):y.bad=true:=ziS hy.out h
theorem zqL (hy:Hid (rName z=some y)) (h:z.bad=true):y.bad=true:=by
 have hy:=hy.out
 cases z with
 |fail a b c=>rw[zra] at hy;cases hy;rfl
 |ok u=>cases h
theorem zkC (hy:Hid (rQualified z=some y)) (h:z.bad=true):y.bad=true:=by
 have hy:=hy.out
 cases z with
 |fail a b c=>rw[zkz] at hy;cases hy;rfl
 |ok u=>cases h
theorem zkO {k:Int} (hy:Hid (rExpect k z=some y)) (h:z.bad=true):y.bad=true:=ziS hy.out h
theorem ztS {n:Nat} {p:Pc} (hy:Hid (run n p z=some y)) (h:z.bad=true):y.bad=true:=by
 have hy:=hy.out
 cases z with
 |fail a b c=>rw[zfB] at hy;cases hy;rfl
 |ok u=>cases h
theorem znl {k:Int} (hy:Hid (rClose (x.len:Int) k z=some y)) (hb:x.bad=true→z.bad=true) (h1:Kp q s x) (h:Kp q s z):Kp q s y:=by
 cases hx:x.bad with
 |false=>exact zhW hy (zmu h1 hx) h
 |true=>
  have:=ziS hy.out (hb hx)
  cases y with
  |fail a b c=>exact Kp.fail _ _ _
  |ok t=>cases this
theorem zpv {n:Nat} (ih:RunKp n) (hy:Hid (run n (.array z.len) z=some y)) (h:Kp q s z):Kp q s y:=by
 cases z with
 |fail a b c=>
  have hy:=hy.out
  rw[zfB] at hy
  cases hy
  exact Kp.fail _ _ _
 |ok u=>
  exact zgt ih hy (by intro m hm;cases hm;exact(h u rfl).le) h
theorem zqN {one:Res→Option Res} (hone:∀ x y,Hid (one x=some y)→Kp q s x→Kp q s y):∀ (n:Nat) (l l':List Ent) (x y:Res),(∀ e∈l,q≤e.a)→Kp q s x→rEnts one n l x=some (y,l')→Kp q s y∧∀ e∈l',q≤e.a
 |0,l,l',x,y,hl,hx,h=>by unfold rEnts at h;cases h
 |n+1,l,l',x,y,hl,hx,h=>by
  unfold rEnts at h
  split at h
  ·cases h;exact⟨hx,hl⟩
  ·rename_i hnb
   rw[not_or] at hnb
   obtain⟨y1,hy1,h⟩:=bind_some h
   have k1:=hone _ _ hy1 hx
   have hl1:∀ e∈l ++ [⟨x.len,y1.len,x.named⟩],q≤e.a:=by
    intro e he
    rcases List.mem_append.1 he with he|he
    ·exact hl e he
    ·rw[List.mem_singleton.1 he]
     have:=zmu hx (by cases hb:x.bad with|false=>rfl|true=>exact absurd hb hnb.1)
     show q≤x.len
     omega
   split at h
   ·obtain⟨y2,hy2,h⟩:=bind_some h
    exact zqN hone n _ _ _ _ hl1 (zgr hy2 k1) h
   ·cases h;exact⟨k1,hl1⟩
theorem zon {u:St} (R:List Tree) (H:List Int) (a b:Nat) (h:q≤u.R.length):Pre q u (u.back R H a b):=⟨rfl,zlK h _,by show q≤(u.R ++ _).length;rw[List.length_append];omega⟩
theorem zkB (R:List Tree) (H:List Int) (any:Bool):∀ (l:List Ent) (m a:Nat) (x y:Res),q≤m→Kp q s x→rGroups R H any l m a x=some y→Kp q s y
 |[],m,a,x,y,hm,hx,h=>by unfold rGroups at h;cases h;exact hx
 |e::r,m,a,x,y,hm,hx,h=>by
  unfold rGroups at h
  cases x with
  |fail d0 d1 d2=>cases h;exact Kp.fail _ _ _
  |ok u=>
   simp only[] at h
   have hu:=hx u rfl
   have hb:Kp q s (.ok (u.back R H a e.b)):=fun t ht=>by cases ht;exact hu.trans (zon R H _ _ hu.le)
   split at h
   ·obtain⟨y1,hy1,h⟩:=bind_some h
    have k1:=zhW hy1 zdC hb
    cases y1 with
    |fail d0 d1 d2=>cases h;exact Kp.fail _ _ _
    |ok t=>
     simp only[] at h
     have ht:=k1 t rfl
     refine zkB R H any r _ _ _ _ ?_ ?_ h
     ·show q≤(t.R ++ _).length
      have:=ht.le
      rw[List.length_append];omega
     ·intro v hv
      cases hv
      exact ht.trans (zon R H _ _ ht.le)
   ·exact zkB R H any r m e.b _ _ hm hb h
theorem zsE {m:Nat} {l:List Ent} (hm:q≤m) (hl:∀ e∈l,q≤e.a) (hx:Kp q s x) (h:rFinish m l x=some y):Kp q s y:=by
 unfold rFinish at h
 cases x with
 |fail d0 d1 d2=>cases h;exact Kp.fail _ _ _
 |ok u=>
  simp only[] at h
  have hu:=hx u rfl
  split at h
  ·rename_i hwf
   split at h
   ·exact zmL (Lib.hid h)
   ·obtain⟨y1,hy1,h⟩:=bind_some h
    obtain⟨y2,hy2,h⟩:=bind_some h
    refine zhW (Lib.hid h) zdC (zgk hy2 ?_)
    have hg:=hy1.out
    unfold rGroup at hg
    cases l with
    |nil=>cases hg;exact hx
    |cons e r=>
     simp only[] at hg
     have hea:=hl e zdF
     rw[Bool.and_eq_true] at hwf
     have hwl:e.a≤u.R.length:=by
      have h1:=hwf.1
      have key:∀ (l:List Ent) (lo n:Nat),wfE lo l n=true→lo≤n:=by
       intro l
       induction l with
       |nil=>intro lo n h;simpa [wfE] using h
       |cons e r ih=>
        intro lo n h
        simp only[wfE,Bool.and_eq_true,decide_eq_true_eq] at h
        have:=ih _ _ h.2
        omega
      simp only[wfE,Bool.and_eq_true,decide_eq_true_eq] at h1
      have:=key _ _ _ h1.2
      omega
     refine zkB _ _ _ _ _ _ _ _ hea ?_ hg
     intro v hv
     cases hv
     refine hu.trans ⟨rfl,?_,?_⟩
     ·show(u.R.take e.a).take q=u.R.take q
      rw[List.take_take,Nat.min_eq_left hea]
     ·show q≤(u.R.take e.a).length
      rw[List.length_take];omega
  ·cases h
end
theorem zwb {n:Nat} {s:St} {y:Res} {q:Nat} (p:Pc) (hp:p≠.params) (ih:RunKp n) (hq:q≤s.R.length) (hm:∀ m,mk p=some m→q≤m) (hy:run (n+1) p (.ok s)=some y):Kp q s y:=by
 cases p
 all_goals first|(exact absurd rfl hp)|(as_aux_lemma=>
 clear hp
 first|(have hqm:=hm _ rfl)|skip
 clear hm
 have _:=ih
 rw[run] at hy
 try dsimp only at hy
 iterate 16 (all_goals try(first|split at hy|(rw[zfu] at hy;obtain⟨z,hz,hy⟩:=hy;try(rw[zfF] at hz;subst hz))))
 all_goals(first|(obtain rfl:=Option.some.inj hy)|(replace hy:=Lib.hid hy))
 all_goals exact zaY)
theorem zqq {n:Nat} {s:St} {y:Res} {q:Nat} (ih:RunKp n) (hq:q≤s.R.length) (hy:run (n+1) (.params) (.ok s)=some y):Kp q s y:=by
 have _:=ih
 rw[run] at hy
 try dsimp only at hy
 obtain⟨x1,hx1,hy⟩:=bind_some hy
 obtain⟨⟨y1,l⟩,hy1,hy⟩:=bind_some hy
 have k1:=zgk hx1 (Kp.refl hq)
 obtain⟨k2,k3⟩:=zqN (fun x y h hx=>zgt ih h zey hx) _ _ _ _ _ (fun e he=>by cases he) k1 hy1.out
 exact zsE hq k3 k2 hy
theorem zhr:∀ n,RunKp n
 |0=>fun p s y q hq hm hy=>by unfold run at hy;cases hy
 |n+1=>fun p s y q hq hm hy=>by
  have ih:=zhr n
  by_cases hp:p=.params
  ·subst hp
   exact zqq ih hq hy
  ·exact zwb p hp ih hq hm hy
open Go.RowKit
def Headed:List Tree→Prop
 |[]=>True
 |t::_=>sig t.k=true
mutual
def Neat:Tree→Prop
 |.mk _ _ _ l=>Headed l∧Neats l
def Neats:List Tree→Prop
 |[]=>True
 |t::r=>Neat t∧Neats r
end
theorem Neats.append:∀ {a b:List Tree},Neats a→Neats b→Neats (a ++ b)
 |[],_,_,hb=>hb
 |t::a,b,ha,hb=>by
  rw[Neats] at ha
  show Neats (t::(a ++ b))
  rw[Neats]
  exact⟨ha.1,ha.2.append hb⟩
theorem Neats.drop:∀ {l:List Tree} (n:Nat),Neats l→Neats (l.drop n)
 |_,0,h=>h
 |[],n+1,h=>h
 |t::l,n+1,h=>by
  rw[Neats] at h
  exact h.2.drop n
theorem Neats.take:∀ {l:List Tree} (n:Nat),Neats l→Neats (l.take n)
 |_,0,_=>by rw[List.take_zero,Neats];trivial
 |[],n+1,h=>h
 |t::l,n+1,h=>by
  rw[Neats] at h
  rw[List.take_succ_cons,Neats]
  exact⟨h.1,h.2.take n⟩
theorem zkR:∀ l:List Tk,Neats (l.map Tk.tree)
 |[]=>by rw[List.map_nil,Neats];trivial
 |t::l=>by
  rw[List.map_cons,Neats,Tk.tree,Neat,Neats]
  exact⟨⟨trivial,trivial⟩,zkR l⟩
theorem zlu:∀ l:List Tree,Headed (l.drop (leadT l))
 |[]=>trivial
 |t::r=>by
  rw[leadT]
  split
  ·rename_i h
   exact h
  ·exact zlu r
theorem zni {k i j:Int} {l:List Tree} (h1:Headed l) (h2:Neats l):Neats [.mk k i j l]:=by
 rw[Neats,Neat,Neats]
 exact⟨⟨h1,h2⟩,trivial⟩
def Nt (y:Res):Prop:=∀ t,y=.ok t→Neats t.R
def RunNt (n:Nat):Prop:=∀ (p:Pc) (s:St) (y:Res),Neats s.R→run n p (.ok s)=some y→Nt y
section
variable {y z:Res}
theorem Nt.fail (a b c:Int):Nt (.fail a b c):=fun t e=>by cases e
theorem Nt.ok {s:St} (h:Neats s.R):Nt (.ok s):=fun t e=>by cases e;exact h
theorem zit {f:St→Res} (h:Nt z) (hy:lift f z=some y) (hf:∀ u t,Neats u.R→f u=.ok t→Neats t.R):Nt y:=by
 cases z with
 |fail a b c=>cases hy;exact Nt.fail _ _ _
 |ok u=>
  intro t e
  subst e
  have hy:chk (f u)=some (.ok t):=hy
  cases hfu:f u with
  |fail a b c=>rw[hfu] at hy;cases hy
  |ok v=>
   rw[hfu] at hy
   obtain⟨e,_⟩:=zgg hy
   cases e
   exact hf u t (h u rfl) hfu
theorem znt {u:St} (n:Nat) (h:Neats u.R):Neats (u.run n).R:=h.append (zkR _)
theorem zmo {u:St} (h:Neats u.R):Neats u.take.R:=by
 unfold St.take
 split
 ·exact h
 ·exact znt _ h
theorem zmG (hy:Hid (rTake z=some y)) (h:Nt z):Nt y:=zit h hy.out fun u t hu e=>by cases e;exact zmo hu
theorem zwa (hy:Hid (rNone z=some y)) (h:Nt z):Nt y:=zit h hy.out fun u t hu e=>by
 cases e
 exact hu.append (zni trivial (by rw[Neats];trivial))
theorem zjz {k:Int} (hy:Hid (rExpect k z=some y)) (h:Nt z):Nt y:=zit h hy.out fun u t hu e=>by
 unfold St.expect at e
 split at e
 ·cases e;exact zmo hu
 ·cases e
theorem zwC (hy:Hid (rDown z=some y)) (h:Nt z):Nt y:=zit h hy.out fun u t hu e=>by
 unfold St.down at e
 split at e
 ·cases e
 ·cases e;exact hu
theorem nt_up (hy:Hid (rUp z=some y)) (h:Nt z):Nt y:=zit h hy.out fun u t hu e=>by cases e;exact hu
theorem zrb {c:Int} (hy:Hid (rFail c z=some y)):Nt y:=by
 obtain⟨_,_,_,rfl⟩:=zgH hy.out
 exact Nt.fail _ _ _
theorem zjc {m k:Int} (hy:Hid (rClose m k z=some y)) (h:Nt z):Nt y:=zit h hy.out fun u t hu e=>by
 unfold St.close at e
 split at e
 ·cases e
 ·cases e
  refine(hu.take _).append (zni ?_ (hu.drop _))
  unfold St.mark
  rw[← List.drop_drop]
  exact zlu _
theorem zsl {n:Nat} {p:Pc} (ih:RunNt n) (hy:Hid (run n p z=some y)) (h:Nt z):Nt y:=by
 have hy:=hy.out
 cases z with
 |fail a b c=>rw[zfB] at hy;cases hy;exact Nt.fail _ _ _
 |ok u=>exact ih p u y (h u rfl) hy
theorem znb (hy:Hid (rName z=some y)) (h:Nt z):Nt y:=by
 have hy:=hy.out
 unfold rName at hy
 obtain⟨v,hv,hy⟩:=bind_some hy
 exact zjc (Lib.hid hy) (zjz hv h)
theorem zoz (hy:Hid (rQualified z=some y)) (h:Nt z):Nt y:=by
 have hy:=hy.out
 unfold rQualified at hy
 obtain⟨v,hv,hy⟩:=bind_some hy
 have h1:=znb hv h
 split at hy
 ·obtain⟨v2,hv2,hy⟩:=bind_some hy
  obtain⟨v3,hv3,hy⟩:=bind_some hy
  exact zjc (Lib.hid hy) (znb hv3 (zmG hv2 h1))
 ·cases hy;exact h1
theorem zqJ {one:Res→Option Res} (hone:∀ x y,Hid (one x=some y)→Nt x→Nt y):∀ (n:Nat) (l l':List Ent) (x y:Res),Nt x→rEnts one n l x=some (y,l')→Nt y
 |0,l,l',x,y,hx,h=>by unfold rEnts at h;cases h
 |n+1,l,l',x,y,hx,h=>by
  unfold rEnts at h
  split at h
  ·cases h;exact hx
  ·obtain⟨y1,hy1,h⟩:=bind_some h
   have k1:=hone _ _ hy1 hx
   split at h
   ·obtain⟨y2,hy2,h⟩:=bind_some h
    exact zqJ hone n _ _ _ _ (zmG hy2 k1) h
   ·cases h;exact k1
theorem zkV (R:List Tree) (H:List Int) (any:Bool) (hR:Neats R):∀ (l:List Ent) (m a:Nat) (x y:Res),Nt x→rGroups R H any l m a x=some y→Nt y
 |[],m,a,x,y,hx,h=>by unfold rGroups at h;cases h;exact hx
 |e::r,m,a,x,y,hx,h=>by
  unfold rGroups at h
  cases x with
  |fail d0 d1 d2=>cases h;exact Nt.fail _ _ _
  |ok u=>
   simp only[] at h
   have hb:Nt (.ok (u.back R H a e.b)):=Nt.ok ((hx u rfl).append ((hR.drop _).take _))
   split at h
   ·obtain⟨y1,hy1,h⟩:=bind_some h
    have k1:=zjc hy1 hb
    cases y1 with
    |fail d0 d1 d2=>cases h;exact Nt.fail _ _ _
    |ok t=>
     simp only[] at h
     exact zkV R H any hR r _ _ _ _ (Nt.ok ((k1 t rfl).append ((hR.drop _).take _))) h
   ·exact zkV R H any hR r m e.b _ _ hb h
theorem ztT {m:Nat} {l:List Ent} {x:Res} (hx:Nt x) (h:rFinish m l x=some y):Nt y:=by
 unfold rFinish at h
 cases x with
 |fail d0 d1 d2=>cases h;exact Nt.fail _ _ _
 |ok u=>
  simp only[] at h
  split at h
  ·split at h
   ·exact zrb (Lib.hid h)
   ·obtain⟨y1,hy1,h⟩:=bind_some h
    obtain⟨y2,hy2,h⟩:=bind_some h
    refine zjc (Lib.hid h) (zjz hy2 ?_)
    have hg:=hy1.out
    unfold rGroup at hg
    cases l with
    |nil=>cases hg;exact hx
    |cons e r=>
     simp only[] at hg
     exact zkV _ _ _ (hx u rfl) _ _ _ _ _ (Nt.ok ((hx u rfl).take _)) hg
  ·cases h
end
open Go.RowKit
theorem zvR {n:Nat} {s:St} {y:Res} (p:Pc) (hp:p≠.params) (ih:RunNt n) (hs:Neats s.R) (hy:run (n+1) p (.ok s)=some y):Nt y:=by
 cases p
 all_goals first|(exact absurd rfl hp)|(as_aux_lemma=>
 clear hp
 have _:=ih
 have h0:=Nt.ok hs
 rw[run] at hy
 try dsimp only at hy
 iterate 16 (all_goals try(first|split at hy|(rw[zfu] at hy;obtain⟨z,hz,hy⟩:=hy;try(rw[zfF] at hz;subst hz))))
 all_goals(first|(obtain rfl:=Option.some.inj hy)|(replace hy:=Lib.hid hy))
 all_goals(repeat (first|exact h0|exact Nt.fail _ _ _|(with_reducible exact zrb ‹_›)|(with_reducible refine zjc ‹_› ?_)|(with_reducible refine zmG ‹_› ?_)|(with_reducible refine zwa ‹_› ?_)|(with_reducible refine zjz ‹_› ?_)|(with_reducible refine zwC ‹_› ?_)|(with_reducible refine nt_up ‹_› ?_)|(with_reducible refine znb ‹_› ?_)|(with_reducible refine zoz ‹_› ?_)|(with_reducible refine zsl ih ‹_› ?_))))
theorem zpZ {n:Nat} {s:St} {y:Res} (ih:RunNt n) (hs:Neats s.R) (hy:run (n+1) .params (.ok s)=some y):Nt y:=by
 rw[run] at hy
 try dsimp only at hy
 rw[zfu] at hy
 obtain⟨z,hz,hy⟩:=hy
 rw[zfu] at hy
 obtain⟨⟨u,l⟩,hu,hy⟩:=hy
 exact ztT (zqJ (fun x y hxy hx=>zsl ih hxy hx) n [] l z u (zjz hz (Nt.ok hs)) hu.out) hy
theorem zpw:∀ n,RunNt n
 |0=>fun p s y hs hy=>by
  unfold run at hy
  simp at hy
 |n+1=>fun p s y hs hy=>by
  have ih:=zpw n
  by_cases hp:p=.params
  ·subst hp
   exact zpZ ih hs hy
  ·exact zvR p hp ih hs hy
open Go.RowKit
mutual
theorem Tie.avoid {w:World} {D:Nat→Prop} {X:Nat} (hX:w.heap[X]? = some (.cells #[.int .i64 0,.int .i64 0,.int .i64 0,.slice none 0 0] 43 (0,0))):∀ (t:Tree) (n:Rn),Neat t→Tie w D t n→Tie w (fun g=>D g∧g≠X) t n
 |.mk k i j l,n,hn,h=>by
  rw[Tie] at h ⊢
  rw[Neat] at hn
  obtain⟨h1,h2,h3,h4,g,off,R,h5,h6,h7,h8⟩:=h
  refine⟨h1,h2,h3,h4,g,off,R,h5,fun e=>⟨(h6 e).1,(h6 e).2,?_⟩,h7,Ties.avoid hX l R hn.2 h8⟩
  rintro rfl
  cases l with
  |nil=>exact e rfl
  |cons t l=>
   have h9:=h8
   rw[Ties] at h9
   obtain⟨n0,R',rfl,h10,_⟩:=h9
   have hk:n0.k=t.k:=h10.k
   have hs:sig t.k=true:=hn.1
   have hc:=h7 0 (.int .i64 n0.k) rfl
   rw[Nat.add_zero,cell_of_row w _ off _ _ _ hX] at hc
   have hz:∀ q:Nat,(#[(.int .i64 0:Value),.int .i64 0,.int .i64 0,.slice none 0 0])[q]? = some (.int .i64 n0.k)→n0.k=0:=by
    intro q hq
    match q with
    |0=>simpa using hq.symm
    |1=>simpa using hq.symm
    |2=>simpa using hq.symm
    |3=>simp at hq
    |q+4=>simp at hq
   have h0:=hz _ hc
   rw[← hk,h0] at hs
   exact absurd hs zdD
theorem Ties.avoid {w:World} {D:Nat→Prop} {X:Nat} (hX:w.heap[X]? = some (.cells #[.int .i64 0,.int .i64 0,.int .i64 0,.slice none 0 0] 43 (0,0))):∀ (l:List Tree) (R:List Rn),Neats l→Ties w D l R→Ties w (fun g=>D g∧g≠X) l R
 |[],R,_,h=>by rw[Ties] at h ⊢;exact h
 |t::l,R,hn,h=>by
  rw[Ties] at h ⊢
  rw[Neats] at hn
  obtain⟨n,R',h1,h2,h3⟩:=h
  exact⟨n,R',h1,Tie.avoid hX t n hn.1 h2,Ties.avoid hX l R' hn.2 h3⟩
end
open Go.RowKit
def allOf (w:World):Keep:=⟨w,fun k=>k<w.heap.size⟩
theorem zuh {w u:World} {v:Value} {T:List Tk} (hr:Row tk w v T) (hn:T.length≤549755813888) (hu:Below w.heap.size w u) :
  ∃ g o cap w',(∀ ty,(Builtin.append_ #[22,22] ty #[.slice none 0 0,v]).run Tryz.prog u=.ok (.slice o T.length cap) w')∧Mine tk w' u.heap.size (.slice o T.length cap) T∧Below u.heap.size u w'∧(T≠[]→o=some ⟨g,0,none⟩):=by
 obtain⟨v',w',h1,h2,h3⟩:=zgO (Mine.nil u u.heap.size) (hr.below hu) (Nat.le_refl _) zdN (by simp [tk];omega)
 rw[List.nil_append] at h2
 obtain⟨g,o,cap,rfl,ho,_⟩:=h2.shape
 exact⟨g,o,cap,w',h1,h2,Mine.more (F:=tk) (Mine.nil u u.heap.size) (Below.refl _ _) (Nat.le_refl _) (Nat.le_refl _) h3,ho⟩
theorem zsf {w:World} {v:Value} {T:List Tk} (hr:Row tk w v T) (hn:T.length≤549755813888) :
  Calls Tryz.prog 10 #[v] w fun e w'=>∃ b,e=.returned (.pointer (some ⟨b,0,none⟩))∧At (allOf w) w' b (.ok ⟨T,0,[],[],0⟩):=by
 have hB1:Below w.heap.size w (w.alloc (.cells #[.slice none 0 0,.int .i64 0,.slice none 0 0,.slice none 0 0,.int .i64 0,.int .i64 0,.int .i64 0,.int .i64 0,.bool false] 64)):=(Below.refl _ _).alloc (Nat.le_refl _) _
 obtain⟨g,o2,cap2,w2,hrun,hm,hb,ho2⟩:=zuh hr hn hB1
 have hz1:(w.alloc (.cells #[.slice none 0 0,.int .i64 0,.slice none 0 0,.slice none 0 0,.int .i64 0,.int .i64 0,.int .i64 0,.int .i64 0,.bool false] 64)).heap.size=w.heap.size+1:=World.size_alloc _ _
 have hc:w2.heap[w.heap.size]? = some (.cells #[.slice none 0 0,.int .i64 0,.slice none 0 0,.slice none 0 0,.int .i64 0,.int .i64 0,.int .i64 0,.int .i64 0,.bool false] 64 (0,0)):=(hb.block _ zdC).trans (heap_alloc_last w _)
 have c0:w2.cell? ⟨w.heap.size,0,none⟩=some (.slice none 0 0):=by rw[cell_of_row w2 _ 0 _ _ _ hc];rfl
 have f0:w2.frozen? ⟨w.heap.size,0,none⟩=false:=frozen_of_row w2 _ 0 _ _ hc
 have hbz:w.heap.size<w2.heap.size:=by have:=hb.size;omega
 have HFIN:Hid (At (allOf w) (w2.setCell ⟨w.heap.size,0,none⟩ (.slice o2 T.length cap2)) w.heap.size (.ok ⟨T,0,[],[],0⟩)):=by
  refine Lib.hid ⟨_,_,_,{ L:=T,at':=0,R:=[],H:=[],op:=0,d0:=0,d1:=0,d2:=0,failed:=false },fun _=>False,⟨heap_setCell_same _ _ 0 _ _ _ hc,?_,Mine.nil _ _,Mine.nil _ _,Nat.zero_le _,by show T.length≤_;omega⟩,⟨?_,?_,?_,?_,fun k hk=>?_,fun k hk=>hk.elim⟩,?_⟩
  ·refine(hm.mono (Nat.zero_le _)).keep (fun k hk _=>zfy _ _ _ _ _ (fun e=>?_))
   have:=(World.ownsRow.lt hm k hk).1
   omega
  ·exact hb.os
  ·exact hb.tape
  ·exact hb.output
  ·show w.heap.size≤_
   rw[zfA];omega
  ·have hk:k<w.heap.size:=hk
   refine⟨hk,by omega,by simp [Value.ownBlock],by simp [Value.ownBlock],?_⟩
   rw[zfy _ _ _ _ _ zdC,hb.block k zdC]
   exact hB1.block k hk
  ·refine⟨rfl,rfl,rfl,Ties.nil,rfl,rfl,rfl,?_,by show 0≤100;decide,by show 0+T.length≤_;omega⟩
   intro x hx
   cases hx
 have HRUN:=Lib.hid hrun
 obtain⟨_,_,o,cap,_,rfl,_,_⟩:=hr
 clear hrun hm hb hc hB1
 go_enter Tryz.func10,Tryz.ntmps10
 go_wp2_with (at_builtin;refine Lib.wpList_append_run _ rfl _ _ _ _ rfl _ _ rfl rfl _ _ (HRUN.out _) ?_)
 all_goals(first|go_end0|go_ret)
 all_goals exact⟨_,rfl,HFIN.out⟩
open Go.RowKit
def rDone:Res→Option Res:=lift fun s=>if s.ahead 0=0 then .ok (s.run (s.L.length - s.at')) else s.fail 201
def tells (v:Value) (n:Int × Int × Int) (ok:Bool):Value:=.tuple #[v,.agg #[.int .i64 n.1,.int .i64 n.2.1,.int .i64 n.2.2],.bool ok]
def Res.diag:Res→Int × Int × Int
 |.ok _=>(0,0,0)
 |.fail a b c=>(a,b,c)
def Res.tree:Res→Tree
 |.ok s=>headT s.R
 |.fail _ _ _=>.mk 0 0 0 []
def OfNodes (w:World) (D:Nat→Prop):Prop:=∀ g,D g→∃ cur fz,w.heap[g]? = some (.cells cur nd.e fz)
theorem zxb {D:Nat→Prop} {σ:Rd} {s:St} {w w':World} (h:Is w D σ (.ok s)) (hk:Ties w' D s.R σ.R) (n:Nat) (hn:s.at'+n≤s.L.length) (hy:(s.run n).R.length+s.L.length≤549755813888):Is w' D (σ.run n) (.ok (s.run n)):=by
 obtain⟨h1,h2,h3,h4,h5,h6,h7,h8,h9,h10⟩:=h
 refine⟨h1,h2,by show σ.at'+n=s.at'+n;rw[h3],?_,?_,h6,?_,?_,h9,hy⟩
 ·show Ties w' D (s.R ++ _) (σ.R ++ _)
  rw[h2,h3]
  exact hk.append (zhQ _ _ _)
 ·show σ.H ++ _=s.H ++ _
  rw[h5]
 ·show(s.H ++ List.replicate n 0).length=(s.R ++ ((s.L.drop s.at').take n).map Tk.tree).length
  rw[List.length_append,List.length_append,h7,List.length_replicate,List.length_map,List.length_take,List.length_drop,Nat.min_eq_left zdC]
 ·intro x hx
  exact zdr
theorem zrj {C:Keep} {w:World} {b:Nat} {x y:Res} (h:Hid (At C w b x)) (hy:Hid (rDone x=some y)):Calls Tryz.prog 16 #[.pointer (some ⟨b,0,none⟩)] w fun e w'=>
  (∃ d0 d1 d2,y=.fail d0 d1 d2∧e=.returned (tells (.slice none 0 0) (d0,d1,d2) false)∧Hid (At C w' b y))∨(∃ t v R D,y=.ok t∧e=.returned (tells v (0,0,0) true)∧Hid (At C w' b y)∧Mine nd w' 0 v R∧Ties w' D t.R R∧OfNodes w' D):=by
 obtain⟨vL,vR,vH,σ,D,hr,ho,hi⟩:=h.out
 have hy:=hy.out
 cases x with
 |fail d0 d1 d2=>
  obtain rfl:=Option.some.inj (show some (Res.fail d0 d1 d2)=some y from hy)
  obtain⟨i1,i2,i3,i4,i5⟩:=hi
  refine(zpK hr i1).mono ?_
  rintro e w' ⟨vR',vH',rfl,hr',hn⟩
  exact .inl ⟨d0,d1,d2,rfl,by rw[i2,i3,i4];rfl,Lib.hid ⟨vL,vR',vH',σ,D,hr',ho.step hn,i1,i2,i3,i4,i5⟩⟩
 |ok s=>
  have hi0:=hi
  obtain⟨i1,i2,i3,i4,i5,i6,i7,i8,i9,i10⟩:=hi
  have hl:=i4.length
  have ha:σ.ahead 0=s.ahead 0:=zkb i1 i2 i3 0
  have hy:chk (if s.ahead 0=0 then .ok (s.run (s.L.length - s.at')) else s.fail 201)=some y:=hy
  by_cases h0:s.ahead 0=0
  ·rw[if_pos h0] at hy
   obtain⟨rfl,hz⟩:=zgg hy
   have hread:=hr.read
   rw[i2,i3] at hread
   refine(zrE hr (ha.trans h0) i1 (by rw[hl,i2];omega) (by rw[i5,i7,i2];omega)).mono ?_
   rintro e w' ⟨v,vR',vH',rfl,hr',hn,hm⟩
   rw[i2,i3] at hr' hm
   have hi':=zxb hi0 (ho.ties hn i4) (s.L.length - s.at') zdC hz
   exact .inr ⟨_,v,_,D,rfl,rfl,Lib.hid ⟨vL,vR',vH',_,D,hr',ho.step hn,hi'⟩,hm,hi'.2.2.2.1,fun g hg=>((ho.step hn).dead g hg).2.2.2.2⟩
  ·rw[if_neg h0] at hy
   refine(zpk hr i1 (by rw[ha];exact h0)).mono ?_
   rintro e w' ⟨vR',vH',rfl,hr',hn⟩
   have hi':Is w' D (σ.fail 201) (.fail 201 s.piece.1 s.piece.2):=zll hi0 w' 201
   have e':=zgA hy
   subst e'
   obtain⟨j1,j2,j3,j4,_⟩:=id hi'
   exact .inl ⟨_,_,_,rfl,by rw[j2,j3,j4];rfl,Lib.hid ⟨vL,vR',vH',_,D,hr',ho.step hn,hi'⟩⟩
open Go.RowKit
theorem zwj {n:Nat} (HCL:CloseC) (ih:∀ k,k≤n→All k):CM 97 (n+1) .array:=by
 have _:=HCL
 have _:=ih
 intro C w b x y m m' hat hm hy
 have hy:=hy.out
 cases x with
 |fail d0 d1 d2=>
  rw[zfB] at hy
  obtain rfl:=Option.some.inj hy
  exact zil HCL _ _ _ _ _ _ _ hat
 |ok s=>
  rw[run] at hy
  try dsimp only at hy
  have hm':=hm rfl
  subst hm'
  clear hm
  iterate 16 (all_goals try(first|split at hy|(rw[zfu] at hy;obtain⟨z,hz,hy⟩:=hy;try(rw[zfF] at hz;subst hz))))
  all_goals(first|(obtain rfl:=Option.some.inj hy)|(replace hy:=Lib.hid hy))
  iterate 2 (all_goals try(rename _∧_=>ho;obtain⟨_,_⟩:=ho))
  iterate 7 (all_goals try(rename _∨_=>ho;rcases ho with ho|ho))
  all_goals(repeat (rename ¬ (_∨_)=>ho;rw[not_or] at ho;obtain⟨_,_⟩:=ho))
  all_goals(try(rename Res.kind _=56=>hk56;obtain⟨t,rfl⟩:=zhl hk56 zdD))
  all_goals go_enter Tryz.func97,Tryz.ntmps97
  all_goals exact zaa
theorem cut_s {n:Nat} (HCL:CloseC) (ih:∀ k,k≤n→All k):CM 179 (n+1) .cut:=by
 have _:=HCL
 have _:=ih
 intro C w b x y m m' hat hm hy
 have hy:=hy.out
 cases x with
 |fail d0 d1 d2=>
  rw[zfB] at hy
  obtain rfl:=Option.some.inj hy
  exact ziB HCL _ _ _ _ _ _ _ hat
 |ok s=>
  rw[run] at hy
  try dsimp only at hy
  have hm':=hm rfl
  subst hm'
  clear hm
  iterate 16 (all_goals try(first|split at hy|(rw[zfu] at hy;obtain⟨z,hz,hy⟩:=hy;try(rw[zfF] at hz;subst hz))))
  all_goals(first|(obtain rfl:=Option.some.inj hy)|(replace hy:=Lib.hid hy))
  iterate 2 (all_goals try(rename _∧_=>ho;obtain⟨_,_⟩:=ho))
  iterate 7 (all_goals try(rename _∨_=>ho;rcases ho with ho|ho))
  all_goals(repeat (rename ¬ (_∨_)=>ho;rw[not_or] at ho;obtain⟨_,_⟩:=ho))
  all_goals go_enter Tryz.func179,Tryz.ntmps179
  all_goals exact zaf
theorem zuY {n:Nat} (HCL:CloseC) (ih:∀ k,k≤n→All k):CM 161 (n+1) .period:=by
 have _:=HCL
 have _:=ih
 intro C w b x y m m' hat hm hy
 have hy:=hy.out
 cases x with
 |fail d0 d1 d2=>
  rw[zfB] at hy
  obtain rfl:=Option.some.inj hy
  exact zhp HCL _ _ _ _ _ _ _ hat
 |ok s=>
  rw[run] at hy
  try dsimp only at hy
  have hm':=hm rfl
  subst hm'
  clear hm
  iterate 16 (all_goals try(first|split at hy|(rw[zfu] at hy;obtain⟨z,hz,hy⟩:=hy;try(rw[zfF] at hz;subst hz))))
  all_goals(first|(obtain rfl:=Option.some.inj hy)|(replace hy:=Lib.hid hy))
  iterate 2 (all_goals try(rename _∧_=>ho;obtain⟨_,_⟩:=ho))
  iterate 7 (all_goals try(rename _∨_=>ho;rcases ho with ho|ho))
  all_goals(repeat (rename ¬ (_∨_)=>ho;rw[not_or] at ho;obtain⟨_,_⟩:=ho))
  all_goals go_enter Tryz.func161,Tryz.ntmps161
  all_goals exact zaa
theorem Sig_s {n:Nat} (HCL:CloseC) (ih:∀ k,k≤n→All k):C0 52 (n+1) .sig:=by
 have _:=HCL
 have _:=ih
 intro C w b x y hat hy
 have hy:=hy.out
 cases x with
 |fail d0 d1 d2=>
  rw[zfB] at hy
  obtain rfl:=Option.some.inj hy
  exact zjr HCL _ _ _ _ _ _ hat
 |ok s=>
  rw[run] at hy
  try dsimp only at hy
  iterate 16 (all_goals try(first|split at hy|(rw[zfu] at hy;obtain⟨z,hz,hy⟩:=hy;try(rw[zfF] at hz;subst hz))))
  all_goals(first|(obtain rfl:=Option.some.inj hy)|(replace hy:=Lib.hid hy))
  iterate 2 (all_goals try(rename _∧_=>ho;obtain⟨_,_⟩:=ho))
  iterate 7 (all_goals try(rename _∨_=>ho;rcases ho with ho|ho))
  all_goals(repeat (rename ¬ (_∨_)=>ho;rw[not_or] at ho;obtain⟨_,_⟩:=ho))
  all_goals go_enter Tryz.func52,Tryz.ntmps52
  all_goals go_wp2_with (first|(go_at_call 62;first|(refine(zfE ‹_›).mono ?_;rintro e w' ⟨rfl,rfl⟩)|(refine(zfD ‹_›).mono ?_;rintro e w' ⟨⟨v,rfl⟩,rfl⟩))|(go_at_call 54;first|(refine((ih _ ?hk).params _ _ _ _ _ ‹_› ‹_›).mono ?_;(case hk=>omega);rintro e w' ⟨v,rfl,hat⟩)|(refine(ziz HCL _ _ _ _ _ _ ‹_›).mono ?_;rintro e w' ⟨v,rfl,hat⟩))|(go_at_call 38;refine(HCL _ _ _ _ _ _ _ _ ‹_› zev zeu).mono ?_;rintro e w' ⟨v,rfl,hat⟩)|(go_at_call 36;refine(zgU ‹_› zeu).mono ?_;rintro e w' ⟨v,rfl,hat⟩)|(go_at_call 51;first|(refine((ih _ ?hk).type _ _ _ _ _ ‹_› ‹_›).mono ?_;(case hk=>omega);rintro e w' ⟨v,rfl,hat⟩)|(refine(zgo HCL _ _ _ _ _ _ ‹_›).mono ?_;rintro e w' ⟨v,rfl,hat⟩))|(go_at_call 95;first|(with_reducible refine(zfC ‹_› ?hc).mono ?_;(case hc=>simp [Res.comes, *]);rintro e w' ⟨rfl,hat⟩)|(with_reducible refine(zfz ‹_› ?hc).mono ?_;(case hc=>simp [Res.comes, *]);rintro e w' ⟨rfl,hat⟩)|(with_reducible refine(zkl ‹_› ?hc).mono ?_;(case hc=>simp [Res.comes, *]);rintro e w' ⟨rfl,hat⟩)|(with_reducible refine(zjt ‹_› ?hc).mono ?_;(case hc=>simp [Res.comes, *]);rintro e w' ⟨rfl,hat⟩))|(go_at_call 61;first|(refine(zfS ‹_›).mono ?_;rintro e w' ⟨rfl,rfl⟩)|(refine(zfQ ‹_›).mono ?_;rintro e w' ⟨⟨v,_,rfl⟩,rfl⟩))|(go_at_call 63;refine(zhe ‹_›).mono ?_;rintro e w' ⟨rfl,hat⟩)|(go_at_call 37;refine(zfP _ _ _ _ _ _ _ _ ‹_› zev zez zeu).mono ?_;rintro e w' ⟨v,rfl,hat⟩)|(go_at_call 119;refine(ziv (n:=m+1) zdC (fun j hj=>ih j zdC) _ _ _ _ _ _ ‹_› h1 hv).mono ?_;rintro e w' ⟨c,rfl,hat,hct⟩;have hd:=hct rfl;rw[e26] at hd))
  all_goals exact zar
open Go.RowKit
theorem X_s {n:Nat} (HCL:CloseC) (ih:∀ k,k≤n→All k):CB 49 (n+1) .X:=by
 have _:=HCL
 have _:=ih
 intro C w b x y h hat hy
 have hy:=hy.out
 cases x with
 |fail d0 d1 d2=>
  rw[zfB] at hy
  obtain rfl:=Option.some.inj hy
  exact X_f HCL _ _ _ _ _ _ _ hat
 |ok s=>
  rw[run] at hy
  try dsimp only at hy
  obtain⟨z,hz,hy⟩:=bind_some hy
  cases z with
  |fail a0 a1 a2=>
   simp only[zfB,zle,Option.bind_eq_bind,Option.bind_some] at hy
   obtain rfl:=Option.some.inj hy
   clear hy
   all_goals go_enter Tryz.func49,Tryz.ntmps49
   all_goals exact zaa
  |ok t=>
   iterate 16 (all_goals try(first|split at hy|(rw[zfu] at hy;obtain⟨z,hz,hy⟩:=hy;try(rw[zfF] at hz;subst hz))))
   all_goals(first|(obtain rfl:=Option.some.inj hy)|(replace hy:=Lib.hid hy))
   iterate 2 (all_goals try(rename _∧_=>ho;obtain⟨_,_⟩:=ho))
   iterate 7 (all_goals try(rename _∨_=>ho;rcases ho with ho|ho))
   all_goals(repeat (rename ¬ (_∨_)=>ho;rw[not_or] at ho;obtain⟨_,_⟩:=ho))
   all_goals go_enter Tryz.func49,Tryz.ntmps49
   all_goals exact zaa
theorem zwr {n:Nat} (HCL:CloseC) (ih:∀ k,k≤n→All k):C0 182 (n+1) .value:=by
 have _:=HCL
 have _:=ih
 intro C w b x y hat hy
 have hy:=hy.out
 cases x with
 |fail d0 d1 d2=>
  rw[zfB] at hy
  obtain rfl:=Option.some.inj hy
  exact zin HCL _ _ _ _ _ _ hat
 |ok s=>
  rw[run] at hy
  try dsimp only at hy
  split at hy
  case isFalse hk=>
   replace hy:=Lib.hid hy
   all_goals go_enter Tryz.func182,Tryz.ntmps182
   all_goals exact zaa
  case isTrue hk=>
   obtain⟨z,hz,hy⟩:=bind_some hy
   cases z with
   |fail a0 a1 a2=>
    simp only[zfB,zle,zkr,Option.bind_eq_bind,Option.bind_some] at hy
    obtain rfl:=Option.some.inj hy
    clear hy
    all_goals go_enter Tryz.func182,Tryz.ntmps182
    all_goals exact zaa
   |ok t=>
    iterate 16 (all_goals try(first|split at hy|(rw[zfu] at hy;obtain⟨z,hz,hy⟩:=hy;try(rw[zfF] at hz;subst hz))))
    all_goals(first|(obtain rfl:=Option.some.inj hy)|(replace hy:=Lib.hid hy))
    iterate 2 (all_goals try(rename _∧_=>ho;obtain⟨_,_⟩:=ho))
    iterate 7 (all_goals try(rename _∨_=>ho;rcases ho with ho|ho))
    all_goals(repeat (rename ¬ (_∨_)=>ho;rw[not_or] at ho;obtain⟨_,_⟩:=ho))
    all_goals go_enter Tryz.func182,Tryz.ntmps182
    all_goals exact zaa
theorem zta {n:Nat} (HCL:CloseC) (ih:∀ k,k≤n→All k):C0 160 (n+1) .operand:=by
 have _:=HCL
 have _:=ih
 intro C w b x y hat hy
 have hy:=hy.out
 cases x with
 |fail d0 d1 d2=>
  rw[zfB] at hy
  obtain rfl:=Option.some.inj hy
  exact zgG HCL _ _ _ _ _ _ hat
 |ok s=>
  rw[run] at hy
  try dsimp only at hy
  iterate 16 (all_goals try(first|split at hy|(rw[zfu] at hy;obtain⟨z,hz,hy⟩:=hy;try(rw[zfF] at hz;subst hz))))
  all_goals(first|(obtain rfl:=Option.some.inj hy)|(replace hy:=Lib.hid hy))
  iterate 2 (all_goals try(rename _∧_=>ho;obtain⟨_,_⟩:=ho))
  iterate 7 (all_goals try(rename _∨_=>ho;rcases ho with ho|ho))
  all_goals(repeat (rename ¬ (_∨_)=>ho;rw[not_or] at ho;obtain⟨_,_⟩:=ho))
  all_goals(try have e10:((Res.ok s).kind == 10)=false:=by simp [*])
  all_goals(try have e11:((Res.ok s).kind == 11)=false:=by simp [*])
  all_goals(try have e12:((Res.ok s).kind == 12)=false:=by simp [*])
  all_goals(try have e13:((Res.ok s).kind == 13)=false:=by simp [*])
  all_goals(try have e14:((Res.ok s).kind == 14)=false:=by simp [*])
  all_goals(try have e57:((Res.ok s).kind == 57)=false:=by simp [*])
  all_goals(try have e79:((Res.ok s).kind == 79)=false:=by simp [*])
  all_goals(try have e58:((Res.ok s).kind == 58)=false:=by simp [*])
  all_goals(try have e83:((Res.ok s).kind == 83)=false:=by simp [*])
  all_goals(try have e87:((Res.ok s).kind == 87)=false:=by simp [*])
  all_goals(try have e82:((Res.ok s).kind == 82)=false:=by simp [*])
  all_goals go_enter Tryz.func160,Tryz.ntmps160
  all_goals exact zaa
end Go.Proofs.YtcekbbkidipbnaaGreat.rd
