/-
  Texts put together: Fy.
-/
import Derived.Test.YtmelbeefjgjdhaaGreatP14
import Derived.Deep.RegionHeld3
set_option maxRecDepth 100000
set_option maxHeartbeats 8000000
namespace Go.Proofs.YtmelbeefjgjdhaaGreat.rd
open Go.RowKit
def Res.push (x:Res) (t:Tree) (k:Int):Res:=match x with
 |.ok s=>.ok { s with R:=s.R ++ [t],H:=s.H ++ [k] }
 |.fail a b c=>.fail a b c
def Res.back (x:Res) (R:List Tree) (H:List Int) (a b:Nat):Res:=match x with
 |.ok s=>.ok (s.back R H a b)
 |.fail d0 d1 d2=>.fail d0 d1 d2
theorem take_at_succ {α:Type} (R:List α) (a c:Nat) (hac:a≤c) (hc:c<R.length):(R.drop a).take (c+1 - a)=(R.drop a).take (c - a) ++ [R[c]]:=by
 rw[show c+1 - a=(c - a)+1 by omega,List.take_add_one,List.getElem?_drop,show a+(c - a)=c by omega,List.getElem?_eq_getElem hc]
 rfl
theorem back_succ (x:Res) (R:List Tree) (H:List Int) (a c:Nat) (hac:a≤c) (hR:c<R.length) (hH:c<H.length):x.back R H a (c+1)=(x.back R H a c).push R[c] H[c]:=by
 cases x with
 |fail=>rfl
 |ok s=>
  simp only[Res.back,Res.push,St.back,take_at_succ R a c hac hR,take_at_succ H a c hac hH,List.append_assoc]
theorem back_self (x:Res) (R:List Tree) (H:List Int) (a:Nat):x.back R H a a=x:=by
 cases x with
 |fail=>rfl
 |ok s=>simp [Res.back,St.back]
theorem AtD.at {C:Keep} {w:World} {b:Nat} {x:Res} {D:Nat→Prop} {N:Nat} {L:List Tk} (h:AtD C w b x D N L):At C w b x:=by
 obtain⟨vL,vR,vH,σ,hr,ho,hi,_,_⟩:=h
 exact⟨vL,vR,vH,σ,D,hr,ho,hi⟩
theorem AtD.below {C:Keep} {w w':World} {b:Nat} {x:Res} {D:Nat→Prop} {N:Nat} {L:List Tk} (h:AtD C w b x D N L) (hb:Below w.heap.size w w'):AtD C w' b x D N L:=by
 obtain⟨vL,vR,vH,σ,hr,ho,hi,hN,hL⟩:=h
 have hn:Nx w b vR vH w' vR vH:=Nx.below hb
 refine⟨vL,vR,vH,σ,hr.below hb,ho.step hn,?_,hN,hL⟩
 cases x with
 |fail=>exact hi
 |ok s=>
  obtain⟨h1,h2,h3,h4,h5⟩:=hi
  exact⟨h1,h2,h3,ho.ties hn h4,h5⟩
theorem AtD.mono {C:Keep} {w:World} {b:Nat} {x:Res} {D:Nat→Prop} {N N':Nat} {L:List Tk} (h:AtD C w b x D N L) (hN:N≤N'):AtD C w b x D N' L:=by
 obtain⟨vL,vR,vH,σ,hr,ho,hi,h1,hL⟩:=h
 exact⟨vL,vR,vH,σ,hr,ho,hi,Nat.le_trans h1 hN,hL⟩
theorem push_low {C:Keep} {w:World} {b:Nat} {x:Res} {D:Nat→Prop} {N:Nat} {L:List Tk} (h:AtD C w b x D N L) (t:Tree) (n:Rn) (k:Int) (ht:Tie w D t n) (hk:0≤k∧k≤100) (hN1:N+1+L.length≤549755813888) :
  Calls Tryz.prog 67 #[.pointer (some ⟨b,0,none⟩),n.v,.int .i64 k] w fun e w'=>∃ v,e=.returned v∧AtD C w' b (x.push t k) D (N+1) L:=by
 obtain⟨vL,vR,vH,σ,hr,ho,hi,hN,hL⟩:=h
 obtain⟨hf1,hf2⟩:=few_of hi
 refine(push_any hr n k (by omega) (by omega)).mono ?_
 rintro e w' ⟨v,vR',vH',rfl,hr',hn⟩
 refine⟨v,rfl,vL,vR',vH',_,hr',ho.step hn,?_,by show(σ.R ++ [n]).length≤_;rw[List.length_append];simp;omega,hL⟩
 cases x with
 |fail a0 a1 a2=>
  obtain⟨h1,h2,h3,h4,h5,h6,h7⟩:=hi
  exact⟨h1,h2,h3,h4,by show(σ.H ++ [k]).length=(σ.R ++ [n]).length;rw[List.length_append,List.length_append,h5];rfl,h6,by show(σ.R ++ [n]).length+σ.L.length≤_;rw[List.length_append,hL];simp;omega⟩
 |ok s=>
  obtain⟨h1,h2,h3,h4,h5,h6,h7,h8,h9,h10⟩:=hi
  have hl:=h4.length
  refine⟨h1,h2,h3,(ho.ties hn h4).append (ho.ties hn (Ties.cons ht Ties.nil)),by show σ.H ++ [k]=s.H ++ [k];rw[h5],h6,by show(s.H ++ [k]).length=(s.R ++ [t]).length;rw[List.length_append,List.length_append,h7];rfl,fun z hz=>?_,h9,by show(s.R ++ [t]).length+s.L.length≤_;rw[List.length_append,← h2,hL];simp;omega⟩
  rcases List.mem_append.1 hz with hz|hz
  ·exact h8 z hz
  ·rw[List.mem_singleton] at hz;subst hz;exact hk
structure Five (C:Keep) (w:World) (B:Nat) (vR vH vF vT vN:Value) (R:List Rn) (H:List Int) (l:List Ent):Prop where
 r:Held C w 0 vR nd R
 h:Held C w 0 vH it H
 f:Held C w B vF it (l.map fun e=>(e.a:Int))
 t:Held C w B vT it (l.map fun e=>(e.b:Int))
 n:Held C w B vN bl (l.map Ent.is)
theorem Five.call {C:Keep} {w w':World} {b B:Nat} {x y:Res} {vR vH vF vT vN:Value} {R:List Rn} {H:List Int} {l:List Ent} (h:Five C w B vR vH vF vT vN R H l) (h1:At C w b x) (h2:At C w' b y):Five C w' B vR vH vF vT vN R H l:=
 ⟨h.r.call h1 h2,h.h.call h1 h2,h.f.call h1 h2,h.t.call h1 h2,h.n.call h1 h2⟩
theorem wfE_cons {e:Ent} {r:List Ent} {lo n:Nat} (h:wfE lo (e::r) n=true):lo≤e.a∧e.a≤e.b∧e.b≤n∧wfE e.b r n=true:=by
 rw[wfE,Bool.and_eq_true,Bool.and_eq_true,decide_eq_true_iff,decide_eq_true_iff] at h
 refine⟨h.1.1,h.1.2,?_,h.2⟩
 have:∀ (r:List Ent) (lo:Nat),wfE lo r n=true→lo≤n:=by
  intro r
  induction r with
  |nil=>intro lo h;rw[wfE,decide_eq_true_iff] at h;exact h
  |cons f r ih=>
   intro lo h
   rw[wfE,Bool.and_eq_true,Bool.and_eq_true,decide_eq_true_iff,decide_eq_true_iff] at h
   have:=ih _ h.2
   omega
 exact this r _ h.2
def nextA (r:List Ent) (n:Nat):Nat:=match r with|[]=>n|f::_=>f.a
theorem wfE_next {r:List Ent} {lo n:Nat} (h:wfE lo r n=true):lo≤nextA r n∧nextA r n≤n∧wfE (nextA r n) r n=true:=by
 cases r with
 |nil=>
  rw[wfE,decide_eq_true_iff] at h
  exact⟨h,Nat.le_refl _,by rw[wfE,decide_eq_true_iff];exact Nat.le_refl _⟩
 |cons f r=>
  obtain⟨h1,h2,h3,h4⟩:=wfE_cons h
  exact⟨h1,by show f.a≤n;omega,by show wfE f.a (f::r) n=true;rw[wfE,h4];simp [h2]⟩
theorem rGroups_yes {R:List Tree} {H:List Int} {any:Bool} {e:Ent} {r:List Ent} {m a:Nat} {x y:Res} (he:(!any || e.is)=true) (h:rGroups R H any (e::r) m a x=some y) :
  ∃ y1,Hid (rClose (m:Int) 233 (x.back R H a e.b)=some y1)∧rGroups R H any r (y1.back R H e.b (nextA r R.length)).len (nextA r R.length) (y1.back R H e.b (nextA r R.length))=some y:=by
 cases x with
 |fail a0 a1 a2=>
  obtain rfl:=Option.some.inj (show some (Res.fail a0 a1 a2)=some y from h)
  refine⟨.fail a0 a1 a2,Lib.hid rfl,?_⟩
  show rGroups R H any r _ _ (.fail a0 a1 a2)=_
  cases r <;> rfl
 |ok s=>
  rw[rGroups.eq_def] at h
  simp only[] at h
  rw[if_pos he,bind_iff] at h
  obtain⟨y1,hy1,h⟩:=h
  refine⟨y1,hy1,?_⟩
  cases y1 with
  |fail b0 b1 b2=>
   simp only[] at h
   obtain rfl:=Option.some.inj h
   show rGroups R H any r _ _ (.fail b0 b1 b2)=_
   cases r <;> rfl
  |ok t=>exact h
theorem rGroups_no {R:List Tree} {H:List Int} {any:Bool} {e:Ent} {r:List Ent} {m a:Nat} {x y:Res} (he:(!any || e.is)=false) (h:rGroups R H any (e::r) m a x=some y):rGroups R H any r m e.b (x.back R H a e.b)=some y:=by
 cases x with
 |fail a0 a1 a2=>
  obtain rfl:=Option.some.inj (show some (Res.fail a0 a1 a2)=some y from h)
  show rGroups R H any r _ _ (.fail a0 a1 a2)=_
  cases r <;> rfl
 |ok s=>
  rw[rGroups.eq_def] at h
  simp only[] at h
  rw[if_neg (by rw[he];simp)] at h
  exact h
end Go.Proofs.YtmelbeefjgjdhaaGreat.rd
