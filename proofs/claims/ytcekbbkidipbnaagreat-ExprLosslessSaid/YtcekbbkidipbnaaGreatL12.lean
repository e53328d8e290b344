/-
  Texts put together: Jc, Jd.
-/
import Derived.Test.YtcekbbkidipbnaaGreatL2
import Derived.Test.YtcekbbkidipbnaaGreatL11
import Derived.Test.YtcekbbkidipbnaaGreatL10
set_option maxRecDepth 100000
set_option maxHeartbeats 8000000
namespace Go.Proofs.YtcekbbkidipbnaaGreat.rd
open Go.RowKit
def Pr (m:Nat) (s:St):Prop:=∃ T t,s.R.drop m=T ++ [t]∧(∀ u∈T,sig u.k=false)∧200≤t.k∧Wk t
theorem sig_ge {k:Int} (h:200≤k):sig k=true:=by unfold sig;exact decide_eq_true (by omega)
theorem leadT_triv:∀ (T:List Tree) (t:Tree) (l:List Tree),(∀ u∈T,sig u.k=false)→sig t.k=true→leadT (T ++ t::l)=T.length
 |[],t,l,_,h=>by rw[List.nil_append,leadT,h];rfl
 |u::T,t,l,h,h2=>by
  rw[List.cons_append,leadT,h u (by simp),if_neg (by simp),leadT_triv T t l (fun v hv=>h v (by simp [hv])) h2]
  rfl
theorem headT_triv:∀ (T:List Tree) (t:Tree) (l:List Tree),(∀ u∈T,sig u.k=false)→sig t.k=true→headT (T ++ t::l)=t
 |[],t,l,_,h=>by rw[List.nil_append,headT,h];rfl
 |u::T,t,l,h,h2=>by
  rw[List.cons_append,headT,h u (by simp),if_neg (by simp),headT_triv T t l (fun v hv=>h v (by simp [hv])) h2]
theorem take_leadT:∀ (l:List Tree),∀ u∈l.take (leadT l),sig u.k=false
 |[],u,h=>by simp at h
 |t::r,u,h=>by
  rw[leadT] at h
  cases hs:sig t.k with
  |true=>rw[hs,if_pos rfl] at h;simp at h
  |false=>
   rw[hs,if_neg (by simp),List.take_succ_cons] at h
   rcases List.mem_cons.1 h with h|h
   ·rw[h];exact hs
   ·exact take_leadT r u h
theorem Pr.le {m:Nat} {s:St} (h:Pr m s):m<s.R.length:=by
 obtain⟨T,t,h1,_⟩:=h
 have:=congrArg List.length h1
 rw[List.length_drop,List.length_append] at this
 simp at this
 omega
theorem Pr.head {m:Nat} {s:St} (h:Pr m s):s.R.getLast? = some (headT (s.R.drop m))∧Wk (headT (s.R.drop m)):=by
 have hle:=h.le
 obtain⟨T,t,h1,h2,h3,h4⟩:=h
 have hh:headT (s.R.drop m)=t:=by rw[h1];exact headT_triv T t [] h2 (sig_ge h3)
 rw[hh]
 refine⟨?_,h4⟩
 have e:s.R=s.R.take m ++ (T ++ [t]):=by rw[← h1,List.take_append_drop]
 rw[e,← List.append_assoc,List.getLast?_append]
 simp
theorem fail_or {z y:Res} {c:Int} (hy:Hid (rFail c z=some y)):∃ a b c,y=.fail a b c:=rFail_bad hy.out
theorem close_row {m k:Int} {z:Res} {t':St} (h:rClose m k z=some (.ok t')):∃ u,z=.ok u∧t'=u.closed (u.mark m) k:=by
 cases z with
 |fail a b c=>cases h
 |ok u=>
  have h:chk (u.close m k)=some (.ok t'):=h
  unfold St.close at h
  split at h
  ·cases chk_fail h
  ·obtain⟨e,_⟩:=chk_ok h
   cases e
   exact⟨u,rfl,rfl⟩
theorem closed_drop (u:St) (m:Nat) (k:Int) (hm:m≤u.R.length):(u.closed (u.mark m) k).R.drop m=(u.R.drop m).take (leadT (u.R.drop m)) ++ [.mk k (fromOf u.here (u.R.drop (u.mark m))) (toOf u.here (u.R.drop (u.mark m))) (u.R.drop (u.mark m))]:=by
 have hmk:u.mark (m:Int)=m+leadT (u.R.drop m):=by
  unfold St.mark
  rw[show clamp (m:Int) u.R.length=m by unfold clamp;omega]
 have hl:=mark_le u (m:Int)
 show(u.R.take (u.mark m) ++ _).drop m=_
 rw[List.drop_append,List.length_take,Nat.min_eq_left hl,show m - u.mark (m:Int)=0 by omega,List.drop_zero,List.drop_take,hmk,Nat.add_sub_cancel_left]
theorem pr_new {m:Nat} {k:Int} {z:Res} {t':St} (h:rClose m k z=some (.ok t')) (hz:∀ u,z=.ok u→m≤u.R.length) (hk:200≤k) (h1:k≠207) (h2:k≠208):Pr m t':=by
 obtain⟨u,rfl,rfl⟩:=close_row h
 refine⟨_,_,closed_drop u m k (hz u rfl),take_leadT _,hk,?_⟩
 rintro(e|e)
 ·exact absurd e h1
 ·exact absurd e h2
theorem pr_more {m:Nat} {k:Int} {s:St} {z:Res} {t':St} (hp:Pr m s) (hz:Kp s.R.length s z) (h:rClose m k z=some (.ok t')) (hk:200≤k):Pr m t':=by
 have hle:=hp.le
 obtain⟨u,rfl,rfl⟩:=close_row h
 have hu:=hz u rfl
 obtain⟨T,t,g1,g2,g3,g4⟩:=hp
 have hul:=hu.le
 have hR:u.R=s.R ++ u.R.drop s.R.length:=by
  have:=hu.R
  rw[List.take_length] at this
  have h2:=List.take_append_drop s.R.length u.R
  rw[this] at h2
  exact h2.symm
 have hd:u.R.drop m=T ++ t::u.R.drop s.R.length:=by
  rw[hR,List.drop_append,show m - s.R.length=0 by omega,List.drop_zero,g1]
  rw[List.drop_append_of_le_length (by omega)]
  simp
 have hlead:leadT (u.R.drop m)=T.length:=by rw[hd];exact leadT_triv T t _ g2 (sig_ge g3)
 have hmk:u.mark (m:Int)=m+T.length:=by
  unfold St.mark
  rw[show clamp (m:Int) u.R.length=m by unfold clamp;omega,hlead]
 have hk2:u.R.drop (u.mark (m:Int))=t::u.R.drop s.R.length:=by
  rw[hmk,← List.drop_drop,hd]
  simp
 refine⟨T,.mk k (fromOf u.here (u.R.drop (u.mark m))) (toOf u.here (u.R.drop (u.mark m))) (u.R.drop (u.mark m)),?_,g2,?_,?_⟩
 ·rw[closed_drop u m k (by omega),hlead,hd]
  simp
 ·exact hk
 ·intro _
  refine⟨t,u.R.drop s.R.length,hk2,g3,fun _ e7=>?_⟩
  obtain⟨u2,l2,e1,e2,_⟩:=g4 (.inl e7)
  exact⟨u2,l2,e1,e2⟩
theorem cl_period {n:Nat} {s u:St} {y:Res} {q m:Nat} (h0:Kp q s (.ok u)) (hy:run (n+1) (.period m) (.ok u)=some y):(∃ a b c,y=.fail a b c)∨∃ z k,Kp q s z∧Hid (rClose m k z=some y)∧200≤k:=by
 have ih:=run_kp n
 rw[run] at hy
 try dsimp only at hy
 iterate 16 (all_goals try(first|split at hy|(rw[bind_iff] at hy;obtain⟨z,hz,hy⟩:=hy;try(rw[some_hid] at hz;subst hz))))
 all_goals(first|(obtain rfl:=Option.some.inj hy)|(replace hy:=Lib.hid hy))
 all_goals first|exact .inl ⟨_,_,_,rfl⟩|(with_reducible exact .inl (fail_or ‹_›))|(refine .inr ⟨_,_,?_,by assumption,by decide⟩;((repeat (first|assumption|exact Kp.fail _ _ _|(with_reducible refine kp_array ih ‹_› ?_)|(with_reducible exact kp_fail ‹_›)|((with_reducible refine kp_close ‹_› ?_ ?_);focus omega)|(with_reducible refine kp_take ‹_› ?_)|(with_reducible refine kp_none ‹_› ?_)|(with_reducible refine kp_expect ‹_› ?_)|(with_reducible refine kp_down ‹_› ?_)|(with_reducible refine kp_up ‹_› ?_)|(with_reducible refine kp_name ‹_› ?_)|(with_reducible refine kp_qualified ‹_› ?_)|((with_reducible refine kp_run ih ‹_› ?_ ?_);focus (intro m0 hm0;cases hm0 <;> assumption))|((with_reducible refine kp_closeL ‹_› ?_ ?_ ?_);focus (intro hb;first|(exact absurd hb ‹_›)|skip;repeat (first|exact hb|(with_reducible refine bd_name ‹_› ?_)|(with_reducible refine bd_qualified ‹_› ?_)|(with_reducible refine bd_close ‹_› ?_)|(with_reducible refine bd_none ‹_› ?_)|(with_reducible refine bd_take ‹_› ?_)|(with_reducible refine bd_expect ‹_› ?_)|(with_reducible refine bd_run ‹_› ?_))))))))
theorem cl_cut {n:Nat} {s u:St} {y:Res} {q m:Nat} (h0:Kp q s (.ok u)) (hy:run (n+1) (.cut m) (.ok u)=some y):(∃ a b c,y=.fail a b c)∨∃ z k,Kp q s z∧Hid (rClose m k z=some y)∧200≤k:=by
 have ih:=run_kp n
 rw[run] at hy
 try dsimp only at hy
 iterate 16 (all_goals try(first|split at hy|(rw[bind_iff] at hy;obtain⟨z,hz,hy⟩:=hy;try(rw[some_hid] at hz;subst hz))))
 all_goals(first|(obtain rfl:=Option.some.inj hy)|(replace hy:=Lib.hid hy))
 all_goals first|exact .inl ⟨_,_,_,rfl⟩|(with_reducible exact .inl (fail_or ‹_›))|(refine .inr ⟨_,_,?_,by assumption,by decide⟩;((repeat (first|assumption|exact Kp.fail _ _ _|(with_reducible refine kp_array ih ‹_› ?_)|(with_reducible exact kp_fail ‹_›)|((with_reducible refine kp_close ‹_› ?_ ?_);focus omega)|(with_reducible refine kp_take ‹_› ?_)|(with_reducible refine kp_none ‹_› ?_)|(with_reducible refine kp_expect ‹_› ?_)|(with_reducible refine kp_down ‹_› ?_)|(with_reducible refine kp_up ‹_› ?_)|(with_reducible refine kp_name ‹_› ?_)|(with_reducible refine kp_qualified ‹_› ?_)|((with_reducible refine kp_run ih ‹_› ?_ ?_);focus (intro m0 hm0;cases hm0 <;> assumption))|((with_reducible refine kp_closeL ‹_› ?_ ?_ ?_);focus (intro hb;first|(exact absurd hb ‹_›)|skip;repeat (first|exact hb|(with_reducible refine bd_name ‹_› ?_)|(with_reducible refine bd_qualified ‹_› ?_)|(with_reducible refine bd_close ‹_› ?_)|(with_reducible refine bd_none ‹_› ?_)|(with_reducible refine bd_take ‹_› ?_)|(with_reducible refine bd_expect ‹_› ?_)|(with_reducible refine bd_run ‹_› ?_))))))))
theorem cl_call {n:Nat} {s u:St} {y:Res} {q m:Nat} (h0:Kp q s (.ok u)) (hy:run (n+1) (.call m) (.ok u)=some y):(∃ a b c,y=.fail a b c)∨∃ z k,Kp q s z∧Hid (rClose m k z=some y)∧200≤k:=by
 have ih:=run_kp n
 rw[run] at hy
 try dsimp only at hy
 iterate 16 (all_goals try(first|split at hy|(rw[bind_iff] at hy;obtain⟨z,hz,hy⟩:=hy;try(rw[some_hid] at hz;subst hz))))
 all_goals(first|(obtain rfl:=Option.some.inj hy)|(replace hy:=Lib.hid hy))
 all_goals first|exact .inl ⟨_,_,_,rfl⟩|(with_reducible exact .inl (fail_or ‹_›))|(refine .inr ⟨_,_,?_,by assumption,by decide⟩;((repeat (first|assumption|exact Kp.fail _ _ _|(with_reducible refine kp_array ih ‹_› ?_)|(with_reducible exact kp_fail ‹_›)|((with_reducible refine kp_close ‹_› ?_ ?_);focus omega)|(with_reducible refine kp_take ‹_› ?_)|(with_reducible refine kp_none ‹_› ?_)|(with_reducible refine kp_expect ‹_› ?_)|(with_reducible refine kp_down ‹_› ?_)|(with_reducible refine kp_up ‹_› ?_)|(with_reducible refine kp_name ‹_› ?_)|(with_reducible refine kp_qualified ‹_› ?_)|((with_reducible refine kp_run ih ‹_› ?_ ?_);focus (intro m0 hm0;cases hm0 <;> assumption))|((with_reducible refine kp_closeL ‹_› ?_ ?_ ?_);focus (intro hb;first|(exact absurd hb ‹_›)|skip;repeat (first|exact hb|(with_reducible refine bd_name ‹_› ?_)|(with_reducible refine bd_qualified ‹_› ?_)|(with_reducible refine bd_close ‹_› ?_)|(with_reducible refine bd_none ‹_› ?_)|(with_reducible refine bd_take ‹_› ?_)|(with_reducible refine bd_expect ‹_› ?_)|(with_reducible refine bd_run ‹_› ?_))))))))
theorem pr_by {n:Nat} {s:St} {t':St} {m:Nat} (hp:Pr m s) (h:(∃ a b c,Res.ok t'=.fail a b c)∨∃ z k,Kp s.R.length s z∧Hid (rClose m k z=some (.ok t'))∧200≤k):Pr m t':=by
 have _:=n
 rcases h with⟨_,_,_,e⟩|⟨z,k,h1,h2,h3⟩
 ·cases e
 ·exact pr_more hp h1 h2.out h3
theorem run_pos {n:Nat} {p:Pc} {s:St} {y:Res} (h:run n p (.ok s)=some y):∃ m,n=m+1:=by
 cases n with
 |zero=>exact absurd h (by unfold run;simp)
 |succ m=>exact⟨m,rfl⟩
theorem pr_period {n m:Nat} {s t':St} (hp:Pr m s) (h:run n (.period m) (.ok s)=some (.ok t')):Pr m t':=by
 obtain⟨n,rfl⟩:=run_pos h
 exact pr_by (n:=n) hp (cl_period (Kp.refl (Nat.le_refl _)) h)
theorem pr_call {n m:Nat} {s t':St} (hp:Pr m s) (h:run n (.call m) (.ok s)=some (.ok t')):Pr m t':=by
 obtain⟨n,rfl⟩:=run_pos h
 exact pr_by (n:=n) hp (cl_call (Kp.refl (Nat.le_refl _)) h)
theorem pr_index {n m:Nat} {s t':St} (hp:Pr m s) (h:run n (.index m) (.ok s)=some (.ok t')):Pr m t':=by
 obtain⟨n,rfl⟩:=run_pos h
 have ih:=run_kp n
 have h0:Kp s.R.length s (.ok s):=Kp.refl (Nat.le_refl _)
 rw[run] at h
 try dsimp only at h
 obtain⟨z0,hz0,h⟩:=bind_some h
 have k0:=kp_take hz0 h0
 have hcase:∃ z,Kp s.R.length s z∧(if z.kind=65 then run n (.cut m) z else(run n .idxL z >>= fun u=>rExpect 63 u >>= fun v=>rClose m 208 v))=some (.ok t'):=by
  split at h
  ·obtain⟨z,hz,h⟩:=bind_some h
   exact⟨z,kp_none hz k0,h⟩
  ·obtain⟨z,hz,h⟩:=bind_some h
   exact⟨z,kp_run ih hz (by intro m0 hm0;cases hm0) k0,h⟩
 obtain⟨z,hK,h⟩:=hcase
 split at h
 ·cases z with
  |fail a b c=>rw[run_fail] at h;cases h
  |ok u=>
   obtain⟨n,rfl⟩:=run_pos h
   exact pr_by (n:=n) hp (cl_cut hK h)
 ·obtain⟨z1,hz1,h⟩:=bind_some h
  obtain⟨z2,hz2,h⟩:=bind_some h
  exact pr_more hp (kp_expect hz2 (kp_run ih hz1 (by intro m0 hm0;cases hm0) hK)) h (by decide)
theorem pr_comp {n m:Nat} {s t':St} {z:Res} (hp:Pr m s) (h1:run n .values (.ok s)=some z) (h:rClose m 213 z=some (.ok t')):Pr m t':=
 pr_more hp (kp_run (run_kp n) (Lib.hid h1) (by intro m0 hm0;cases hm0) (Kp.refl (Nat.le_refl _))) h (by decide)
theorem pr_name {m k:Int} {s t':St} {z:Res} (h:rClose m k z=some (.ok t')) (hm:m=(s.R.length:Int)) (hz:Kp s.R.length s z) (hk:200≤k) (h1:k≠207) (h2:k≠208):Pr s.R.length t':=by
 subst hm
 exact pr_new h (fun u e=>(hz u e).le) hk h1 h2
theorem pr_array {n:Nat} {s t':St} (h:run n (.array s.R.length) (.ok s)=some (.ok t')):Pr s.R.length t':=by
 obtain⟨n,rfl⟩:=run_pos h
 have ih:=run_kp n
 have hq:s.R.length≤s.R.length:=Nat.le_refl _
 have hy:=h
 clear h
 rw[run] at hy
 try dsimp only at hy
 iterate 16 (all_goals try(first|split at hy|(rw[bind_iff] at hy;obtain⟨z,hz,hy⟩:=hy;try(rw[some_hid] at hz;subst hz))))
 all_goals(first|(obtain rfl:=Option.some.inj hy)|(replace hy:=Lib.hid hy))
 all_goals(refine pr_name hy.out rfl ?_ (by decide) (by decide) (by decide))
 all_goals(repeat (first|exact Kp.refl hq|exact Kp.fail _ _ _|(with_reducible refine kp_array ih ‹_› ?_)|(with_reducible exact kp_fail ‹_›)|((with_reducible refine kp_close ‹_› ?_ ?_);focus omega)|(with_reducible refine kp_take ‹_› ?_)|(with_reducible refine kp_none ‹_› ?_)|(with_reducible refine kp_expect ‹_› ?_)|(with_reducible refine kp_down ‹_› ?_)|(with_reducible refine kp_up ‹_› ?_)|(with_reducible refine kp_name ‹_› ?_)|(with_reducible refine kp_qualified ‹_› ?_)|((with_reducible refine kp_run ih ‹_› ?_ ?_);focus (intro m0 hm0;cases hm0 <;> assumption))|((with_reducible refine kp_closeL ‹_› ?_ ?_ ?_);focus (intro hb;first|(exact absurd hb ‹_›)|skip;repeat (first|exact hb|(with_reducible refine bd_name ‹_› ?_)|(with_reducible refine bd_qualified ‹_› ?_)|(with_reducible refine bd_close ‹_› ?_)|(with_reducible refine bd_none ‹_› ?_)|(with_reducible refine bd_take ‹_› ?_)|(with_reducible refine bd_expect ‹_› ?_)|(with_reducible refine bd_run ‹_› ?_))))))
theorem down_is {s t:St} (h:Hid (rDown (.ok s)=some (.ok t))):t.R=s.R∧t.L=s.L∧t.at'=s.at':=by
 have h:=h.out
 have h:chk s.down=some (.ok t):=h
 unfold St.down at h
 split at h
 ·cases chk_fail h
 ·obtain⟨e,_⟩:=chk_ok h
  cases e
  exact⟨rfl,rfl,rfl⟩
theorem pr_up {m:Nat} {z:Res} {t:St} (h:rUp z=some (.ok t)) (hz:∀ u,z=.ok u→Pr m u):Pr m t:=by
 cases z with
 |fail a b c=>cases h
 |ok u=>
  have h:chk (.ok u.up)=some (.ok t):=h
  obtain⟨e,_⟩:=chk_ok h
  cases e
  exact hz u rfl
theorem pr_type {n:Nat} {s t':St} (hk:(Res.ok s).kind=58∨(Res.ok s).kind=83∨(Res.ok s).kind=87∨(Res.ok s).kind=82) (h:run n .type (.ok s)=some (.ok t')):Pr s.R.length t':=by
 obtain⟨n,rfl⟩:=run_pos h
 have ih:=run_kp n
 have hq:s.R.length≤s.R.length:=Nat.le_refl _
 rw[run] at h
 try dsimp only at h
 obtain⟨y,hy,h⟩:=bind_some h
 cases y with
 |fail a b c=>rw[if_pos (bad_fail a b c)] at h;cases h
 |ok s1=>
  obtain⟨e1,e2,e3⟩:=down_is hy
  have hkk:(Res.ok s1).kind=(Res.ok s).kind:=by
   show s1.ahead 0=s.ahead 0
   unfold St.ahead St.next
   rw[e2,e3]
  have h0:Kp s.R.length s (.ok s1):=kp_down hy (Kp.refl hq)
  rw[if_neg (by rw[bad_ok];simp)] at h
  rw[← hkk] at hk
  simp only[show(Res.ok s1).len=s.R.length by show s1.R.length=_;rw[e1]] at h
  rcases hk with hk|hk|hk|hk
  all_goals
   simp only[hk,Int.reduceEq,if_true,if_false] at h
  ·obtain⟨u,hu,h⟩:=bind_some h
   refine pr_up h (fun v hv=>?_)
   subst hv
   have hu:=hu.out
   rw[← e1] at hu ⊢
   exact pr_array hu
  ·obtain⟨z1,hz1,h⟩:=bind_some h
   obtain⟨z2,hz2,h⟩:=bind_some h
   obtain⟨z3,hz3,h⟩:=bind_some h
   obtain⟨z4,hz4,h⟩:=bind_some h
   obtain⟨z5,hz5,h⟩:=bind_some h
   obtain⟨z6,hz6,h⟩:=bind_some h
   refine pr_up h (fun v hv=>?_)
   subst hv
   exact pr_name hz6.out rfl (kp_run ih hz5 (by intro m0 hm0;cases hm0) (kp_expect hz4 (kp_run ih hz3 (by intro m0 hm0;cases hm0) (kp_expect hz2 (kp_take hz1 h0))))) (by decide) (by decide) (by decide)
  ·obtain⟨z1,hz1,h⟩:=bind_some h
   obtain⟨z2,hz2,h⟩:=bind_some h
   obtain⟨z3,hz3,h⟩:=bind_some h
   refine pr_up h (fun v hv=>?_)
   subst hv
   exact pr_name hz3.out rfl (kp_run ih hz2 (by intro m0 hm0;cases hm0) (kp_take hz1 h0)) (by decide) (by decide) (by decide)
  ·obtain⟨z1,hz1,h⟩:=bind_some h
   obtain⟨z2,hz2,h⟩:=bind_some h
   obtain⟨z3,hz3,h⟩:=bind_some h
   refine pr_up h (fun v hv=>?_)
   subst hv
   exact pr_name hz3.out rfl (kp_run ih hz2 (by intro m0 hm0;cases hm0) (kp_take hz1 h0)) (by decide) (by decide) (by decide)
theorem pr_operand {n:Nat} {s t':St} (h:run n .operand (.ok s)=some (.ok t')):Pr s.R.length t':=by
 obtain⟨n,rfl⟩:=run_pos h
 have ih:=run_kp n
 have hq:s.R.length≤s.R.length:=Nat.le_refl _
 have hy:=h
 clear h
 rw[run] at hy
 try dsimp only at hy
 split at hy
 ·unfold rName at hy
  obtain⟨z,hz,hy⟩:=bind_some hy
  exact pr_name hy rfl (kp_expect hz (Kp.refl hq)) (by decide) (by decide) (by decide)
 split at hy
 ·obtain⟨z,hz,hy⟩:=bind_some hy
  exact pr_name hy rfl (kp_take hz (Kp.refl hq)) (by decide) (by decide) (by decide)
 split at hy
 ·obtain⟨z1,hz1,hy⟩:=bind_some hy
  obtain⟨z2,hz2,hy⟩:=bind_some hy
  obtain⟨z3,hz3,hy⟩:=bind_some hy
  exact pr_name hy rfl (kp_expect hz3 (kp_run ih hz2 (by intro m0 hm0;cases hm0) (kp_take hz1 (Kp.refl hq)))) (by decide) (by decide) (by decide)
 split at hy
 ·obtain⟨z1,hz1,hy⟩:=bind_some hy
  obtain⟨z2,hz2,hy⟩:=bind_some hy
  split at hy
  ·obtain⟨z3,hz3,hy⟩:=bind_some hy
   exact pr_name hy rfl (kp_run ih hz3 (by intro m0 hm0;cases hm0) (kp_run ih hz2 (by intro m0 hm0;cases hm0) (kp_take hz1 (Kp.refl hq)))) (by decide) (by decide) (by decide)
  ·exact pr_name hy rfl (kp_run ih hz2 (by intro m0 hm0;cases hm0) (kp_take hz1 (Kp.refl hq))) (by decide) (by decide) (by decide)
 split at hy
 ·rename_i hk
  exact pr_type hk hy
 ·obtain⟨_,_,_,e⟩:=rFail_bad hy
  cases e
open Go.RowKit
def PrT (m:Nat) (s:St):Prop:=∃ T t,s.R.drop m=T ++ [t]∧(∀ u∈T,sig u.k=false)∧sig t.k=true
theorem prt_close {m:Nat} {k:Int} {z:Res} {t':St} (h:rClose m k z=some (.ok t')) (hz:∀ u,z=.ok u→m≤u.R.length) (hk:200≤k):PrT m t':=by
 obtain⟨u,rfl,rfl⟩:=close_row h
 exact⟨_,_,closed_drop u m k (hz u rfl),take_leadT _,sig_ge hk⟩
theorem prt_by {k:Int} {s t':St} {z:Res} {m:Nat} (hm:m=s.R.length) (h:rClose m k z=some (.ok t')) (hz:Kp s.R.length s z) (hk:200≤k):PrT s.R.length t':=by
 subst hm
 exact prt_close h (fun u e=>(hz u e).le) hk
theorem prt_up {m:Nat} {z:Res} {t:St} (h:rUp z=some (.ok t)) (hz:∀ u,z=.ok u→PrT m u):PrT m t:=by
 cases z with
 |fail a b c=>cases h
 |ok u=>
  have h:chk (.ok u.up)=some (.ok t):=h
  obtain⟨e,_⟩:=chk_ok h
  cases e
  exact hz u rfl
theorem prt_name {s t:St} (h:rName (.ok s)=some (.ok t)):PrT s.R.length t:=by
 unfold rName at h
 obtain⟨z,hz,h⟩:=bind_some h
 exact prt_by rfl h (kp_expect hz (Kp.refl (Nat.le_refl _))) (by decide)
theorem prt_qualified {s t:St} (h:rQualified (.ok s)=some (.ok t)):PrT s.R.length t:=by
 unfold rQualified at h
 obtain⟨z,hz,h⟩:=bind_some h
 have k1:=kp_name hz (Kp.refl (Nat.le_refl s.R.length))
 split at h
 ·obtain⟨z2,hz2,h⟩:=bind_some h
  obtain⟨z3,hz3,h⟩:=bind_some h
  exact prt_by rfl h (kp_name hz3 (kp_take hz2 k1)) (by decide)
 ·cases h
  exact prt_name hz.out
theorem prt_array {n:Nat} {s t':St} (h:run n (.array s.R.length) (.ok s)=some (.ok t')):PrT s.R.length t':=by
 obtain⟨T,t,h1,h2,h3,_⟩:=pr_array h
 exact⟨T,t,h1,h2,sig_ge h3⟩
theorem prt_type {n:Nat} {s t':St} (h:run n .type (.ok s)=some (.ok t')):PrT s.R.length t':=by
 obtain⟨n,rfl⟩:=run_pos h
 have ih:=run_kp n
 have hq:s.R.length≤s.R.length:=Nat.le_refl _
 rw[run] at h
 try dsimp only at h
 obtain⟨y,hy,h⟩:=bind_some h
 cases y with
 |fail a b c=>rw[if_pos (bad_fail a b c)] at h;cases h
 |ok s1=>
  obtain⟨e1,e2,e3⟩:=down_is hy
  have h0:Kp s.R.length s (.ok s1):=kp_down hy (Kp.refl hq)
  rw[if_neg (by rw[bad_ok];simp)] at h
  simp only[show(Res.ok s1).len=s.R.length by show s1.R.length=_;rw[e1]] at h
  split at h
  ·obtain⟨z1,hz1,h⟩:=bind_some h
   split at h
   ·obtain⟨z2,hz2,h⟩:=bind_some h
    obtain⟨z3,hz3,h⟩:=bind_some h
    obtain⟨z4,hz4,h⟩:=bind_some h
    obtain⟨z5,hz5,h⟩:=bind_some h
    obtain⟨z6,hz6,h⟩:=bind_some h
    refine prt_up h (fun v hv=>?_)
    subst hv
    exact prt_by rfl hz6.out (kp_expect hz5 (kp_run ih hz4 (by intro m0 hm0;cases hm0) (kp_run ih hz3 (by intro m0 hm0;cases hm0) (kp_take hz2 (kp_qualified hz1 h0))))) (by decide)
   ·obtain⟨u,hu,h⟩:=bind_some h
    have e:=Option.some.inj hu.out
    subst e
    refine prt_up h (fun v hv=>?_)
    subst hv
    have:=prt_qualified hz1.out
    rw[e1] at this
    exact this
  split at h
  ·obtain⟨z1,hz1,h⟩:=bind_some h
   obtain⟨z2,hz2,h⟩:=bind_some h
   obtain⟨z3,hz3,h⟩:=bind_some h
   obtain⟨z4,hz4,h⟩:=bind_some h
   refine prt_up h (fun v hv=>?_)
   subst hv
   exact prt_by rfl hz4.out (kp_expect hz3 (kp_run ih hz2 (by intro m0 hm0;cases hm0) (kp_take hz1 h0))) (by decide)
  split at h
  ·obtain⟨z1,hz1,h⟩:=bind_some h
   obtain⟨z2,hz2,h⟩:=bind_some h
   obtain⟨z3,hz3,h⟩:=bind_some h
   refine prt_up h (fun v hv=>?_)
   subst hv
   exact prt_by rfl hz3.out (kp_run ih hz2 (by intro m0 hm0;cases hm0) (kp_take hz1 h0)) (by decide)
  split at h
  ·obtain⟨z1,hz1,h⟩:=bind_some h
   obtain⟨z2,hz2,h⟩:=bind_some h
   obtain⟨z3,hz3,h⟩:=bind_some h
   refine prt_up h (fun v hv=>?_)
   subst hv
   exact prt_by rfl hz3.out (kp_run ih hz2 (by intro m0 hm0;cases hm0) (kp_take hz1 h0)) (by decide)
  split at h
  ·obtain⟨u,hu,h⟩:=bind_some h
   refine prt_up h (fun v hv=>?_)
   subst hv
   have hu:=hu.out
   rw[← e1] at hu ⊢
   exact prt_array hu
  split at h
  ·obtain⟨z1,hz1,h⟩:=bind_some h
   obtain⟨z2,hz2,h⟩:=bind_some h
   obtain⟨z3,hz3,h⟩:=bind_some h
   obtain⟨z4,hz4,h⟩:=bind_some h
   obtain⟨z5,hz5,h⟩:=bind_some h
   obtain⟨z6,hz6,h⟩:=bind_some h
   refine prt_up h (fun v hv=>?_)
   subst hv
   exact prt_by rfl hz6.out (kp_run ih hz5 (by intro m0 hm0;cases hm0) (kp_expect hz4 (kp_run ih hz3 (by intro m0 hm0;cases hm0) (kp_expect hz2 (kp_take hz1 h0))))) (by decide)
  split at h
  ·obtain⟨z1,hz1,h⟩:=bind_some h
   obtain⟨z2,hz2,h⟩:=bind_some h
   obtain⟨z3,hz3,h⟩:=bind_some h
   refine prt_up h (fun v hv=>?_)
   subst hv
   exact prt_by rfl hz3.out (kp_run ih hz2 (by intro m0 hm0;cases hm0) (kp_take hz1 h0)) (by decide)
  split at h
  ·obtain⟨z1,hz1,h⟩:=bind_some h
   obtain⟨z2,hz2,h⟩:=bind_some h
   obtain⟨z3,hz3,h⟩:=bind_some h
   refine prt_up h (fun v hv=>?_)
   subst hv
   exact prt_by rfl hz3.out (kp_run ih hz2 (by intro m0 hm0;cases hm0) (kp_take hz1 h0)) (by decide)
  ·obtain⟨_,hq2,h⟩:=bind_some h
   obtain⟨_,_,_,e⟩:=rFail_bad hq2.out
   subst e
   cases h
theorem entry_parts {n:Nat} {s:St} {y:Res} (h:run n .entry (.ok s)=some y):∃ m y0,n=m+1∧Hid ((if (Res.ok s).named=true then rName (.ok s) else some (.ok s))=some y0)∧Hid ((if y0.kind=56 then(rTake y0 >>= fun u=>run m .type u >>= fun v=>rClose y0.len 234 v) else run m .type y0)=some y):=by
 obtain⟨m,rfl⟩:=run_pos h
 rw[run] at h
 try dsimp only at h
 refine⟨m,?_⟩
 split at h
 ·rename_i hn
  obtain⟨y0,hy0,h⟩:=bind_some h
  exact⟨y0,rfl,Lib.hid (by rw[if_pos hn];exact hy0.out),Lib.hid h⟩
 ·rename_i hn
  exact⟨.ok s,rfl,Lib.hid (by rw[if_neg hn]),Lib.hid h⟩
theorem prt_entry {n:Nat} {s t:St} (h:run n .entry (.ok s)=some (.ok t)) (hn:(Res.ok s).named=false):PrT s.R.length t:=by
 obtain⟨m,y0,rfl,h0,h1⟩:=entry_parts h
 have ih:=run_kp m
 have e:=h0.out
 rw[hn,if_neg (by simp)] at e
 obtain rfl:=Option.some.inj e
 have h1:=h1.out
 split at h1
 ·obtain⟨z1,hz1,h1⟩:=bind_some h1
  obtain⟨z2,hz2,h1⟩:=bind_some h1
  exact prt_by rfl h1 (kp_run ih hz2 (by intro m0 hm0;cases hm0) (kp_take hz1 (Kp.refl (Nat.le_refl _)))) (by decide)
 ·exact prt_type h1
def Ch:Nat→List En→Nat→Prop
 |lo,[],hi=>lo≤hi
 |lo,e::r,hi=>lo≤e.f∧e.f≤e.t∧Ch e.t r hi
theorem Ch.snoc:∀ {T:List En} {lo hi hi':Nat} {e:En},Ch lo T hi→hi≤e.f→e.f≤e.t→e.t≤hi'→Ch lo (T ++ [e]) hi'
 |[],_,_,_,_,h,h1,h2,h3=>⟨Nat.le_trans h h1,h2,h3⟩
 |_::_,_,_,_,_,h,h1,h2,h3=>⟨h.1,h.2.1,Ch.snoc h.2.2 h1 h2 h3⟩
theorem Ch.le:∀ {T:List En} {lo hi:Nat},Ch lo T hi→lo≤hi
 |[],_,_,h=>h
 |_::_,_,_,h=>Nat.le_trans h.1 (Nat.le_trans h.2.1 (Ch.le h.2.2))
theorem Ch.up:∀ {T:List En} {lo hi hi':Nat},Ch lo T hi→hi≤hi'→Ch lo T hi'
 |[],_,_,_,h,h1=>Nat.le_trans h h1
 |_::_,_,_,_,h,h1=>⟨h.1,h.2.1,Ch.up h.2.2 h1⟩
def En.ent (e:En):Ent:=⟨e.f,e.t,e.is⟩
def Kof (R:List Tree) (e:En):Prop:=∃ l t r,R.drop e.f=l ++ t::r∧(∀ u∈l,sig u.k=false)∧sig t.k=true∧e.k=t.k
theorem Kof.head {R:List Tree} {e:En} (h:Kof R e):e.k=(headT (R.drop e.f)).k:=by
 obtain⟨l,t,r,h1,h2,h3,h4⟩:=h
 rw[h1,headT_triv l t r h2 h3,h4]
theorem Kof.more {R R':List Tree} {e:En} (h:Kof R e) (hp:R'.take R.length=R):Kof R' e:=by
 obtain⟨l,t,r,h1,h2,h3,h4⟩:=h
 have hlt:e.f<R.length:=by
  have:=congrArg List.length h1
  rw[List.length_drop,List.length_append,List.length_cons] at this
  omega
 have e1:R'=R ++ R'.drop R.length:=by
  have:=List.take_append_drop R.length R'
  rw[hp] at this
  exact this.symm
 refine⟨l,t,r ++ R'.drop R.length,?_,h2,h3,h4⟩
 rw[e1,List.drop_append_of_le_length (by omega),h1]
 simp
theorem kof_entry {n:Nat} {s t:St} {v:Nat} (h:run n .entry (.ok s)=some (.ok t)) (hn:(Res.ok s).named=false) (b:Bool):Kof t.R ⟨s.R.length,v,t.last,b⟩:=by
 obtain⟨T,u,h1,h2,h3⟩:=prt_entry h hn
 refine⟨T,u,[],h1,h2,h3,?_⟩
 have hne:t.R.drop s.R.length≠[]:=by rw[h1];simp
 have hlt:s.R.length<t.R.length:=by
  rcases Nat.lt_or_ge s.R.length t.R.length with h|h
  ·exact h
  ·exact absurd (List.drop_of_length_le h) hne
 have e:t.R.getLast? = some u:=by
  have e1:t.R=t.R.take s.R.length ++ (T ++ [u]):=by rw[← h1,List.take_append_drop]
  rw[e1,← List.append_assoc,List.getLast?_append]
  simp
 show t.last=u.k
 unfold St.last
 rw[e]
end Go.Proofs.YtcekbbkidipbnaaGreat.rd
