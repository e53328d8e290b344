/-
  Texts put together: Fp.
-/
import Derived.Test.YtcekbbkidipbnaaGreatP28
import Derived.Test.YtcekbbkidipbnaaGreatP33
set_option maxRecDepth 100000
set_option maxHeartbeats 8000000
namespace Go.Proofs.YtcekbbkidipbnaaGreat.rd
open Go.RowKit
theorem close_bad {W:World} {b:Nat} {vL vR vH:Value} {σ:Rd} (h:RdAt W b vL vR vH σ) (hf:σ.failed=true) (m k:Int) :
  Calls Tryz.prog 38 #[.pointer (some ⟨b,0,none⟩),.int .i64 m,.int .i64 k] W (Steps W b vL vR vH σ):=by
 have HRD:=Lib.hid h
 obtain⟨⟨_,_,_,_,_,_,_,_,b8⟩,_⟩:=zgd h.cells
 rw[hf] at b8
 clear h hf
 go_enter Tryz.func38,Tryz.ntmps38
 go_wp2_with fail
 exact zdj
theorem zkH {w:World} {D:Nat→Prop}:∀ {l:List Tree} {R:List Rn},Ties w D l R→lead R=leadT l
 |[],R,h=>by rw[Ties] at h;subst h;rfl
 |t::l,R,h=>by
  rw[Ties] at h
  obtain⟨n,R',rfl,h3,h4⟩:=h
  rw[lead,leadT,h3.k,zkH h4]
theorem znh {w:World} {D:Nat→Prop} (a:Int) {l:List Tree} {R:List Rn} (h:Ties w D l R):fromK a R=fromOf a l:=by
 cases l with
 |nil=>rw[Ties] at h;subst h;rfl
 |cons t l=>
  rw[Ties] at h
  obtain⟨n,R',rfl,h3,h4⟩:=h
  exact h3.i
theorem zht {w:World} {D:Nat→Prop}:∀ {l:List Tree} {R:List Rn},Ties w D l R→∀ (n:Nat) (t:Tree),l[n]? = some t→∃ N,R[n]? = some N∧Tie w D t N
 |[],R,h,n,t,hn=>by simp at hn
 |t::l,R,h,n,t',hn=>by
  rw[Ties] at h
  obtain⟨N,R',rfl,h3,h4⟩:=h
  cases n with
  |zero=>
   simp only[List.getElem?_cons_zero,Option.some.injEq] at hn
   subst hn
   exact⟨N,rfl,h3⟩
  |succ n=>
   rw[List.getElem?_cons_succ] at hn ⊢
   exact zht h4 n t' hn
theorem zrc {w:World} {D:Nat→Prop} (a:Int) {l:List Tree} {R:List Rn} (h:Ties w D l R):toK a R=toOf a l:=by
 unfold toK toOf
 rw[List.getLast?_eq_getElem?,List.getLast?_eq_getElem?,h.length]
 cases hq:l[l.length - 1]? with
 |none=>
  have hl:l.length=0:=by
   rw[List.getElem?_eq_none_iff] at hq
   omega
  rw[List.getElem?_eq_none (by rw[h.length];omega)]
 |some t=>
  obtain⟨N,h1,h2⟩:=zht h _ _ hq
  rw[h1]
  exact h2.j
theorem znI (l:List Int):∀ a,a≤hiFrom a l:=by
 induction l with
 |nil=>intro a;exact Int.le_refl _
 |cons x l ih=>
  intro a
  rw[hiFrom,List.foldl_cons]
  have:=ih (max a (x+1))
  unfold hiFrom at this
  omega
def AtD (C:Keep) (w:World) (b:Nat) (x:Res) (D:Nat→Prop) (N:Nat) (L:List Tk):Prop:=∃ vL vR vH σ,RdAt w b vL vR vH σ∧Own C w b vR vH D∧Is w D σ x∧σ.R.length≤N∧σ.L=L
theorem znM {C:Keep} {w:World} {b:Nat} {x y:Res} {D:Nat→Prop} {N:Nat} {L:List Tk} (m m' k:Int) (h:AtD C w b x D N L) (hm:x.bad=false→m=m') (hy:Hid (rClose m' k x=some y)) :
  Calls Tryz.prog 38 #[.pointer (some ⟨b,0,none⟩),.int .i64 m,.int .i64 k] w fun e w'=>∃ v D',e=.returned v∧(∀ g,D g→D' g)∧AtD C w' b y D' (N+1) L:=by
 obtain⟨vL,vR,vH,σ,hr,ho,hi,hN,hL⟩:=h
 obtain⟨hf1,hf2⟩:=zkM hi
 have hy:=hy.out
 cases x with
 |fail a0 a1 a2=>
  cases hy
  refine(close_bad hr hi.1 m k).mono ?_
  rintro e w' ⟨v,vR',vH',rfl,hr',hn⟩
  exact⟨_,D,rfl,fun _ h=>h,vL,vR',vH',σ,hr',ho.step hn,hi,by omega,hL⟩
 |ok s=>
  have hm:=hm rfl
  subst hm
  obtain⟨h1,h2,h3,h4,h5,h6,h7,h8,h9,h10⟩:=hi
  have hl:=h4.length
  refine(zty hr m k hf2 zdC h1 (fun x hx=>by rw[h5] at hx;have:=h8 x hx;omega)).mono ?_
  rintro e w' ⟨v,vR',vH',ok,ck,rfl,hr',hn,hk,hk'⟩
  have hM:clampR m σ.R.length+lead (σ.R.drop (clampR m σ.R.length))=s.mark m:=by
   unfold St.mark
   rw[show clampR m σ.R.length=clamp m s.R.length by rw[hl];rfl,zkH (h4.drop _)]
  rw[hM] at hr' hk hk'
  have hhere:σ.here=s.here:=zkA h2 h3
  rw[hhere,znh _ (h4.drop _),zrc _ (h4.drop _)] at hr'
  have hmle:s.mark m≤s.R.length:=by
   rw[← hM]
   have:=zlf (σ.R.drop (clampR m σ.R.length))
   rw[List.length_drop] at this
   have h0:clampR m σ.R.length≤σ.R.length:=by unfold clampR;omega
   omega
  have hY:chk (if 100<highOf 1 (s.H.drop (s.mark m)) then s.fail 202 else .ok (s.closed (s.mark m) k))=some y:=hy
  generalize s.mark m=M at *
  clear hy hM
  have hO1:=ho.step hn
  have hT:Ties w' D s.R σ.R:=ho.ties hn h4
  obtain⟨D',hD'⟩:∃ D':Nat→Prop,D'=fun g=>D g∨(Value.slice ok (σ.R.drop M).length ck).ownBlock=some g:=⟨_,rfl⟩
  have hO:Own C w' b vR' vH' D':=⟨hO1.os,hO1.tape,hO1.output,hO1.size,hO1.kept,fun g hg=>by
   rw[hD'] at hg
   rcases hg with hg|hg
   ·exact hO1.dead g hg
   ·obtain⟨c1,c2,c3⟩:=hk' g hg
    refine⟨hk.lt g hg,c1,c2,c3,?_⟩
    exact zcu⟩
  have hT2:Ties w' D' s.R σ.R:=Ties.keep (fun _ _=>rfl) (fun g hg=>by rw[hD'];exact .inl hg) _ _ hT
  have hlen:=(hT2.drop M).length
  have hTie:Tie w' D' (.mk k (fromOf s.here (s.R.drop M)) (toOf s.here (s.R.drop M)) (s.R.drop M)) ⟨k,fromOf s.here (s.R.drop M),toOf s.here (s.R.drop M),ok,(σ.R.drop M).length,ck⟩:=by
   obtain⟨g,off,o,cap,hc,hv,ho',hcell⟩:=hk.row
   simp only[Value.slice.injEq] at hv
   obtain⟨rfl,_,rfl⟩:=hv
   rw[Tie]
   refine⟨rfl,rfl,rfl,hlen,g,off,σ.R.drop M,⟨hc,by rw[← hlen,List.length_drop];omega⟩,fun hne=>?_,hcell,hT2.drop M⟩
   exact zcr
  have hR:Ties w' D' (s.closed M k).R (σ.R.take M ++ [⟨k,fromOf s.here (s.R.drop M),toOf s.here (s.R.drop M),ok,(σ.R.drop M).length,ck⟩]):=(hT2.take M).append (Ties.cons hTie Ties.nil)
  have hh:hiFrom 1 (σ.H.drop M)=highOf 1 (s.H.drop M):=by rw[h5];rfl
  have hge:=znI (σ.H.drop M) 1
  have hlR:(s.closed M k).R.length=M+1:=by
   show(s.R.take M ++ _).length=_
   rw[List.length_append,List.length_take,Nat.min_eq_left hmle]
   rfl
  have hlH:(σ.H.take M ++ [hiFrom 1 (σ.H.drop M)]).length=M+1:=by
   exact zcJ
  have hlR2:(σ.R.take M ++ [(⟨k,fromOf s.here (s.R.drop M),toOf s.here (s.R.drop M),ok,(σ.R.drop M).length,ck⟩:Rn)]).length=M+1:=by
   exact zcJ
  refine⟨v,D',rfl,fun g hg=>by rw[hD'];exact .inl hg,vL,vR',vH',_,hr',hO,?_,?_,?_⟩
  rotate_left
  ·unfold Rd.close
   split
   ·rw[Rd.fail_not (σ:=σ.closed M _) h1]
    show(σ.R.take M ++ _).length≤_
    rw[hlR2];omega
   ·show(σ.R.take M ++ _).length≤_
    rw[hlR2];omega
  ·unfold Rd.close
   split
   ·rw[Rd.fail_not (σ:=σ.closed M _) h1];exact hL
   ·exact hL
  unfold Rd.close
  by_cases hb:100<highOf 1 (s.H.drop M)
  ·rw[if_pos hb] at hY
   rw[if_pos zdC]
   cases zgA hY
   rw[Rd.fail_not (σ:=σ.closed M _) h1]
   have hp:(σ.closed M ⟨k,fromOf s.here (s.R.drop M),toOf s.here (s.R.drop M),ok,(σ.R.drop M).length,ck⟩).piece=s.piece:=zmh h2 h3
   exact⟨rfl,rfl,by show Prod.fst _=_;rw[hp],by show Prod.snd _=_;rw[hp],by show(σ.H.take M ++ _).length=(σ.R.take M ++ _).length;rw[hlH,hlR2],by show σ.op≤100;omega,by show(σ.R.take M ++ _).length+σ.L.length≤_;rw[hlR2,h2];omega⟩
  ·rw[if_neg hb] at hY
   rw[if_neg zdC]
   obtain⟨rfl,hz⟩:=zgg hY
   refine⟨h1,h2,h3,hR,?_,h6,?_,?_,h9,hz⟩
   ·show σ.H.take M ++ [hiFrom 1 (σ.H.drop M)]=s.H.take M ++ [highOf 1 (s.H.drop M)]
    rw[hh,h5]
   ·show(s.H.take M ++ [highOf 1 (s.H.drop M)]).length=_
    rw[hlR,← hh,← h5,hlH]
   ·intro x hx
    rcases List.mem_append.1 hx with hx|hx
    ·exact h8 x (List.mem_of_mem_take hx)
    ·rw[List.mem_singleton] at hx
     subst hx
     omega
theorem zfL:CloseC:=by
 intro C w b x y m m' k h hm hy
 obtain⟨vL,vR,vH,σ,D,hr,ho,hi⟩:=h.out
 refine(znM m m' k ⟨vL,vR,vH,σ,hr,ho,hi,Nat.le_refl _,rfl⟩ hm hy).mono ?_
 rintro e w' ⟨v,D',rfl,_,vL',vR',vH',σ',hr',ho',hi',_,_⟩
 exact⟨v,rfl,Lib.hid ⟨vL',vR',vH',σ',D',hr',ho',hi'⟩⟩
end Go.Proofs.YtcekbbkidipbnaaGreat.rd
