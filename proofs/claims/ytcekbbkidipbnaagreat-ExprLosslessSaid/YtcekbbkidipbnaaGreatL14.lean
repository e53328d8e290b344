/-
  Texts put together: Ij, Ik, Je, Il, Im.
-/
import Derived.Test.YtcekbbkidipbnaaGreatL13
import Derived.Maps.AppendAt
import Derived.Test.YtcekbbkidipbnaaGreatL12
import Derived.Test.YtcekbbkidipbnaaGreatL2
set_option maxRecDepth 100000
set_option maxHeartbeats 8000000
namespace Go.Proofs.YtcekbbkidipbnaaGreat.rd
open Go.RowKit
theorem app_rowX {α:Type} {F:Kd α} {w:World} {base:Nat} {v sv:Value} {T0 T:List α} (hown:Mine F w base v T0) (hr:Row F w sv T) (hb:base≤w.heap.size) (hm:T0.length+T.length≤maxLen) (hby:(T0.length+T.length)*F.bytes≤140737488355328) :
  ∃ v' w',(∀ ty,(Builtin.append_ #[F.t,F.t] ty #[v,sv]).run Tryz.prog w=.ok v' w')∧Mine F w' base v' (T0 ++ T)∧w.grownBy w' v.ownBlock∧(v'.ownBlock=v.ownBlock∨v'.ownBlock=some w.heap.size):=by
 obtain⟨i0,hi,hz0,hz1,hz2⟩:=info_parts F.hi
 obtain⟨g,off,o,cap,hc,rfl,ho,hcell⟩:=hr
 have main:∀ ad:Addr,(∀ j u,(flat F T)[j]? = some u→w.cell? (ad.add j)=some u)→∃ v' w',(∀ ty,(Builtin.append_ #[F.t,F.t] ty #[v,.slice (some ad) T.length cap]).run Tryz.prog w=.ok v' w')∧Mine F w' base v' (T0 ++ T)∧w.grownBy w' v.ownBlock∧(v'.ownBlock=v.ownBlock∨v'.ownBlock=some w.heap.size):=by
  intro ad hcc
  obtain⟨v',w',h1,h2,h3,_,h5⟩:=run_append_own_at (P:=Tryz.prog) (w:=w) base F.t 0 F.e i0 F.z F.k F.bytes F.ht hi hz0 hz1 hz2 F.hz F.hk v T0.length (flat F T0) hown ad T.length cap (flat F T) (flat_length F T) hcc (flat_one F T) hm hby hb
  refine⟨v',w',fun ty=>h1,?_,h3,h5⟩
  unfold Mine
  rw[List.length_append,flat_append]
  exact h2
 by_cases hT:T=[]
 ·subst hT
  cases o with
  |some ad=>exact main ad (fun j u hu=>by simp [flat] at hu)
  |none=>
   refine⟨v,w,fun ty=>?_,by rw[List.append_nil];exact hown,World.grownBy.refl _ _,.inl rfl⟩
   rcases hown.2 with⟨rfl,h0⟩|⟨g',cap',cur,rfl,_,_,hnc,_⟩
   ·simp [Builtin.append_,run_underlying F.ht,sizeOf,typeInfo,hi,Builtin.lenOf,Builtin.firstCells]
   ·simp [Builtin.append_,run_underlying F.ht,sizeOf,typeInfo,hi,Builtin.lenOf,Builtin.firstCells,hnc,storeCells]
 ·rw[ho hT]
  exact main _ (fun j u hu=>by rw[Addr.add_lit];exact hcell j u hu)
theorem cpushes_run {W:World} {b tkn:Nat} {vL vS vR sv:Value} {σ:Rc} {X:List Bn} (h:RcT W b vL vS vR σ tkn) (hX:Row bt W sv X) (hfew:σ.R.length+X.length≤1099511627776) :
  ∀ u,Below W.heap.size W u→∃ v' w',(∀ ty,(Builtin.append_ #[59,59] ty #[vR,sv]).run Tryz.prog u=.ok v' w') ∧
    (∃ o' l' c',v'=.slice o' l' c')∧w'.cell? ⟨b,4,none⟩=some vR∧w'.frozen? ⟨b,4,none⟩=false∧(∀ k,k<W.heap.size→vR.ownBlock≠some k→w'.heap[k]? = W.heap[k]?) ∧
    RcT (w'.setCell ⟨b,4,none⟩ v') b vL vS v' { σ with R:=σ.R ++ X } tkn∧Nx W b vR (.slice none 0 0) (w'.setCell ⟨b,4,none⟩ v') v' (.slice none 0 0):=by
 intro u hu
 have hbz:b<W.heap.size:=(Array.getElem?_eq_some_iff.1 h.cells).1
 have hub:=h.below hu
 have hRb:=h.row.ne h.cells (by decide)
 obtain⟨v',w',h1,h2,h3,h4⟩:=app_rowX (F:=bt) hub.row (hX.below hu) (Nat.zero_le _) (by simp [maxLen];omega) (by show(σ.R.length+X.length)*56≤_;omega)
 have hbu:b<u.heap.size:=Nat.lt_of_lt_of_le hbz hu.size
 have hwb:w'.heap[b]? = u.heap[b]?:=h3.block b hbu (fun e=>hRb e.symm)
 have hcells:=hwb.trans hub.cells
 obtain⟨⟨_,_,_,_,b4,_⟩,hfr⟩:=ten_at hcells
 have hg:∀ k,v'.ownBlock=some k→vR.ownBlock=some k∨W.heap.size≤k:=fun k hk=>by
  rcases h4 with h4|h4
  ·rw[← h4];exact .inl hk
  ·rw[h4] at hk
   obtain rfl:=Option.some.inj hk
   exact .inr hu.size
 have hgb:v'.ownBlock≠some b:=fun hk=>by
  rcases hg b hk with hg|hg
  ·exact hRb hg
  ·omega
 have hrun:∀ k,k≠b→(w'.setCell ⟨b,4,none⟩ v').heap[k]? = w'.heap[k]?:=fun k hk=>set_one _ _ _ _ _ hk
 have hold:∀ k,k<u.heap.size→k≠b→vR.ownBlock≠some k→(w'.setCell ⟨b,4,none⟩ v').heap[k]? = u.heap[k]?:=fun k hk hkb hkR=>(hrun k hkb).trans (h3.block k hk (fun e=>hkR e.symm))
 have hshape:∃ o' l' c',v'=.slice o' l' c':=by
  obtain⟨_,o',c',e,_⟩:=h2.shape
  exact⟨_,_,_,e⟩
 refine⟨v',w',h1,hshape,b4,hfr 4,fun k hk hkR=>(h3.block k (Nat.lt_of_lt_of_le hk hu.size) (fun e=>hkR e.symm)).trans (hu.block k hk),⟨?_,?_,?_,?_,h.read,h.few⟩,⟨?_,?_,?_,?_,?_,?_,fun k hk=>by simp [Value.ownBlock] at hk⟩⟩
 ·exact heap_setCell_same _ b 4 _ _ _ hcells
 ·exact hub.toks.keep (fun k hk hz=>hold k hz (fun e=>hub.toks.ne hub.cells (by decide) (by rw[← e];exact hk)) (hub.toks.differs hub.row (by decide) k hk))
 ·exact hub.sigs.keep (fun k hk hz=>hold k hz (fun e=>hub.sigs.ne hub.cells (by decide) (by rw[← e];exact hk)) (hub.sigs.differs hub.row (by decide) k hk))
 ·exact h2.keep (fun k hk _=>hrun k (fun e=>hgb (by rw[← e];exact hk)))
 ·exact h3.os.trans hu.os
 ·exact h3.tape.trans hu.tape
 ·exact h3.output.trans hu.output
 ·rw[size_set];exact Nat.le_trans hu.size h3.size
 ·intro k hk hkb hkR _
  exact(hold k (Nat.lt_of_lt_of_le hk hu.size) hkb hkR).trans (hu.block k hk)
 ·exact hg
theorem CAtD.off {C:Kc} {w w':World} {b:Nat} {x:Res} {D:Nat→Prop} {N:Nat} {L:List Tk} {vL vS:Value} (h:CAtD C w b x D N L vL vS) (hos:w'.os=w.os) (htp:w'.tape=w.tape) (hou:w'.output=w.output) (hsz:w.heap.size≤w'.heap.size) (hs:∀ k,k<w.heap.size→w'.heap[k]? = w.heap[k]? ∨ (¬ C.k.K k∧vS.ownBlock≠some k∧∃ cur e fz,w.heap[k]? = some (.cells cur e fz)∧e≠tk.e∧e≠nd.e∧e≠bt.e∧e≠61)):CAtD C w' b x D N L vL vS:=by
 obtain⟨vR,σ,hr,ho,hi,hN,hL⟩:=h
 have hbz:b<w.heap.size:=(Array.getElem?_eq_some_iff.1 hr.cells).1
 have hof:∀ {α:Type} {F:Kd α} {v:Value} {T:List α},Mine F w 0 v T→(F.e=tk.e∨F.e=nd.e∨F.e=bt.e)→∀ k,v.ownBlock=some k→k<w.heap.size→w'.heap[k]? = w.heap[k]?:=by
  intro α F v T hm hF k hk hz
  rcases hs k hz with h|⟨_,_,cur,e,fz,h,e1,e2,e3,_⟩
  ·exact h
  ·exfalso
   rcases hm.2 with⟨hv,_⟩|⟨q,cap,cur',hv,hq,hh,_⟩
   ·rw[hv] at hk;cases hk
   ·rw[hv] at hk
    simp only[Value.ownBlock,Option.some.injEq] at hk
    subst hk
    rw[hh] at h
    simp only[Option.some.injEq,Obj.cells.injEq] at h
    have h:=h.2.1
    rcases hF with hF|hF|hF
    ·exact e1 (h.symm.trans hF)
    ·exact e2 (h.symm.trans hF)
    ·exact e3 (h.symm.trans hF)
 have hdd:∀ k,D k→w'.heap[k]? = w.heap[k]?:=fun k hk=>by
  obtain⟨a1,_,_,_,cur,fz,a5⟩:=ho.dead k hk
  rcases hs k a1 with h|⟨_,_,cur',e,fz',h,_,hne,_⟩
  ·exact h
  ·rw[a5] at h
   simp only[Option.some.injEq,Obj.cells.injEq] at h
   exact absurd h.2.1.symm hne
 refine⟨vR,σ,⟨?_,hr.toks.keep (fun k hk hz=>hof hr.toks (.inl rfl) k hk hz),hr.sigs.keep (fun k hk hz=>?_),hr.row.keep (fun k hk hz=>hof hr.row (.inr (.inr rfl)) k hk hz),hr.read,hr.few⟩,⟨hos.trans ho.os,htp.trans ho.tape,hou.trans ho.output,Nat.le_trans ho.size hsz,fun k hk=>?_,fun k hk=>?_⟩,?_,hN,hL⟩
 ·rcases hs b hbz with h|⟨_,_,cur,e,fz,h,_,_,_,hne⟩
  ·rw[h];exact hr.cells
  ·rw[hr.cells] at h
   simp only[Option.some.injEq,Obj.cells.injEq] at h
   exact absurd h.2.1.symm hne
 ·rcases hs k hz with h|⟨_,h,_⟩
  ·exact h
  ·exact absurd hk h
 ·obtain⟨a1,a2,a3,a4,a5⟩:=ho.kept k hk
  have hkz:k<w.heap.size:=by have:=ho.size;omega
  refine⟨a1,a2,a3,a4,?_⟩
  rcases hs k hkz with h|⟨h,_⟩
  ·exact h.trans a5
  ·exact absurd hk h
 ·obtain⟨a1,a2,a3,a4,a5⟩:=ho.dead k hk
  exact⟨by omega,a2,a3,a4,by rw[hdd k hk];exact a5⟩
 ·cases x with
  |fail a b c=>exact hi
  |ok s=>
   obtain⟨h1,h2,h3,h4,h5⟩:=hi
   exact⟨h1,h2,h3,Ties.keep (fun g hg=>hdd g hg) (fun _ h=>h) _ _ h4,h5⟩
theorem CAtD.with {C:Kc} {w:World} {b:Nat} {x:Res} {D:Nat→Prop} {N:Nat} {L:List Tk} {vL vS:Value} (h:CAtD C w b x D N L vL vS) (P:Nat→Prop) (hP:∀ k,P k→∃ cur e fz,w.heap[k]? = some (.cells cur e fz)∧e≠bt.e∧e≠61):CAtD ⟨⟨w,fun k=>C.k.K k∨P k⟩,C.low⟩ w b x D N L vL vS:=by
 obtain⟨vR,σ,hr,ho,hi,hN,hL⟩:=h
 refine⟨vR,σ,hr,⟨rfl,rfl,rfl,Nat.le_refl _,fun k hk=>?_,ho.dead⟩,hi,hN,hL⟩
 rcases hk with hk|hk
 ·obtain⟨a1,a2,a3,a4,a5⟩:=ho.kept k hk
  exact⟨Nat.lt_of_lt_of_le a1 ho.size,a2,a3,a4,rfl⟩
 ·obtain⟨cur,e,fz,hh,e1,e2⟩:=hP k hk
  refine⟨(Array.getElem?_eq_some_iff.1 hh).1,?_,?_,by simp [Value.ownBlock],rfl⟩
  ·rintro rfl
   rw[hr.cells] at hh
   simp only[Option.some.injEq,Obj.cells.injEq] at hh
   exact e2 hh.2.1.symm
  ·intro hv
   rcases hr.row.2 with⟨hv',_⟩|⟨q,cap,cur',hv',hq,hh',_⟩
   ·rw[hv'] at hv;cases hv
   ·rw[hv'] at hv
    simp only[Value.ownBlock,Option.some.injEq] at hv
    subst hv
    rw[hh'] at hh
    simp only[Option.some.injEq,Obj.cells.injEq] at hh
    exact e1 hh.2.1.symm
theorem CAtD.without {C:Kc} {w w':World} {b:Nat} {x y:Res} {D D':Nat→Prop} {N N':Nat} {L L':List Tk} {vL vS vL' vS':Value} {P:Nat→Prop} (h:CAtD C w b x D N L vL vS) (h':CAtD ⟨⟨w,fun k=>C.k.K k∨P k⟩,C.low⟩ w' b y D' N' L' vL' vS'):CAtD C w' b y D' N' L' vL' vS'∧∀ k,P k→w'.heap[k]? = w.heap[k]?:=by
 obtain⟨vR,σ,hr,ho,hi,hN,hL⟩:=h
 obtain⟨vR',σ',hr',ho',hi',hN',hL'⟩:=h'
 refine⟨⟨vR',σ',hr',⟨ho'.os.trans ho.os,ho'.tape.trans ho.tape,ho'.output.trans ho.output,Nat.le_trans ho.size ho'.size,fun k hk=>?_,ho'.dead⟩,hi',hN',hL'⟩,fun k hk=>(ho'.kept k (.inr hk)).2.2.2.2⟩
 obtain⟨a1,a2,a3,a4,a5⟩:=ho.kept k hk
 obtain⟨b1,b2,b3,b4,b5⟩:=ho'.kept k (.inl hk)
 exact⟨a1,b2,b3,b4,b5.trans a5⟩
theorem CAtD.at {C:Kc} {w:World} {b:Nat} {x:Res} {D:Nat→Prop} {N:Nat} {L:List Tk} {vL vS:Value} (h:CAtD C w b x D N L vL vS):CAt C w b x:=by
 obtain⟨vR,σ,hr,ho,hi,_,_⟩:=h
 exact⟨vL,vS,vR,σ,D,hr,ho,hi⟩
structure CeK (C:Kc) (D0:Nat→Prop) (vS:Value) (Br Ba g:Nat) (R0:List Bn) (R:List Tree) (H:List Int) (P:Prop):Prop where
 dead:∀ k,D0 k→C.k.K k
 row:C.k.K g
 nr:¬ C.k.K Br
 na:¬ C.k.K Ba
 sa:vS.ownBlock≠some Ba
 ra:Br≠Ba
 few:R0.length≤549755813889
 ties:P→Ties C.k.W D0 R (R0.map Bn.rn)
 high:P→R0.map Bn.h=H∧∀ x∈H,0≤x∧x≤100
structure CeS (C:Kc) (w:World) (b:Nat) (x:Res) (D0:Nat→Prop) (N:Nat) (L:List Tk) (vL vS:Value) (B0 Br Ba g a:Nat) (R0:List Bn) (P:Prop) (E:Nat→Array Value→Prop):Prop where
 rd:∃ D:Nat→Prop,(∀ k,D0 k→D k)∧CAtD C w b x D N L vL vS
 h0:w.heap[B0]? = some (.cells #[.pointer (some ⟨b,0,none⟩)] 25 (0,0))
 h1:∃ vr,w.heap[Br]? = some (.cells #[vr] 59 (0,0))∧RowG w g vr (R0.drop a)
 h2:w.heap[Ba]? = some (.cells #[.int .i64 (a:Int)] 3 (0,0))
 ok:x.bad=false→P
 ge:∀ k cur,E k cur→w.heap[k]? = some (.cells cur 94 (0,0))
open Go.RowKit
theorem RowG.shape {w:World} {g:Nat} {v:Value} {T:List Bn} (h:RowG w g v T):∃ o n c,v=.slice o n c:=by
 obtain⟨off,o,cap,_,hv,_⟩:=h
 exact⟨_,_,_,hv⟩
theorem back_bad (x:Res) (R:List Tree) (H:List Int) (a q:Nat):(x.back R H a q).bad=x.bad:=by cases x <;> rfl
section
variable {C:Kc} {w:World} {b:Nat} {x y:Res} {D0:Nat→Prop} {N:Nat} {L:List Tk} {vL vS:Value} {B0 Br Ba g a:Nat} {R0:List Bn} {R:List Tree} {H:List Int} {P:Prop} {E:Nat→Array Value→Prop}
theorem CIs.back {D:Nat→Prop} {σ:Rc} {u:World} (hK:CeK C D0 vS Br Ba g R0 R H P) (hP:x.bad=false→P) (hi:CIs C.low w D σ x) (hT:P→Ties u D R (R0.map Bn.rn)) (hT2:∀ s,x=.ok s→Ties u D s.R (σ.R.map Bn.rn)) (q:Nat) (hN:σ.R.length+((R0.drop a).take (q - a)).length+σ.L.length≤549755813889) (hN':x.bad=false→σ.R.length+((R0.drop a).take (q - a)).length+σ.L.length≤549755813888):CIs C.low u D { σ with R:=σ.R ++ (R0.drop a).take (q - a) } (x.back R H a q):=by
 cases x with
 |fail a0 a1 a2=>
  obtain⟨h1,h2,h3,h4,h5,h6,h7⟩:=hi
  exact⟨h1,h2,h3,h4,h5,by show(σ.R ++ _).length+_≤_;rw[List.length_append];omega,by show C.low≤(σ.R ++ _).length;rw[List.length_append];omega⟩
 |ok s=>
  obtain⟨h1,h2,h3,h4,h5,h6,h7,h8,h9,h10⟩:=hi
  have hp:=hP rfl
  obtain⟨k1,k2⟩:=hK.high hp
  have hl:=(hT hp).length
  rw[List.length_map] at hl
  have hl4:=h4.length
  rw[List.length_map] at hl4
  have e:((R.drop a).take (q - a)).length=((R0.drop a).take (q - a)).length:=by rw[List.length_take,List.length_take,List.length_drop,List.length_drop,hl]
  refine⟨h1,h2,h3,?_,?_,h6,?_,h8,?_,?_⟩
  ·show Ties u D (s.R ++ _) ((σ.R ++ _).map Bn.rn)
   rw[List.map_append,List.map_take,List.map_drop]
   exact(hT2 s rfl).append (((hT hp).drop a).take (q - a))
  ·show(σ.R ++ _).map Bn.h=s.H ++ _
   rw[List.map_append,List.map_take,List.map_drop,h5,k1]
  ·intro z hz
   rcases List.mem_append.1 hz with hz|hz
   ·exact h7 z hz
   ·exact k2 z (List.mem_of_mem_drop (List.mem_of_mem_take hz))
  ·show(s.R ++ _).length+s.L.length≤_
   have:=hN' rfl
   rw[List.length_append,e,← h2,← hl4]
   omega
  ·show C.low≤(s.R ++ _).length
   rw[List.length_append]
   omega
theorem CeS.ties {D:Nat→Prop} (hK:CeK C D0 vS Br Ba g R0 R H P) (h:CAtD C w b x D N L vL vS) (hD:∀ k,D0 k→D k):P→Ties w D R (R0.map Bn.rn):=by
 intro hp
 obtain⟨vR,σ,hr,ho,hi,_,_⟩:=h
 exact Ties.keep (fun k hk=>(ho.kept k (hK.dead k hk)).2.2.2.2) hD _ _ (hK.ties hp)
theorem CeS.again (hK:CeK C D0 vS Br Ba g R0 R H P) (h:CeS C w b x D0 N L vL vS B0 Br Ba g a R0 P E) (q:Nat) (haq:a≤q) (hq:q≤R0.length) (hN:N+(q - a)+L.length≤549755813889) (hN':x.bad=false→N+(q - a)+L.length≤549755813888) :
  Calls Tryz.prog 132 #[.int .i64 (q:Int),.pointer (some ⟨B0,0,none⟩),.pointer (some ⟨Br,0,none⟩),.pointer (some ⟨Ba,0,none⟩)] w fun e w'=>∃ v,e=.returned v∧CeS C w' b (x.back R H a q) D0 (N+(q - a)) L vL vS B0 Br Ba g q R0 P E:=by
 obtain⟨⟨D,hD,hat⟩,h0,⟨vr,h1,hrow⟩,h2,hok,hge⟩:=h
 have hat':=hat
 obtain⟨vR,σ,hr,ho,hi,hNl,hL⟩:=hat'
 have hll:((R0.drop a).take (q - a)).length=q - a:=by rw[List.length_take,List.length_drop];omega
 obtain⟨va,vb,hsl1,hsl2,hra,hrb⟩:=hrow.parts (q - a) (by rw[List.length_drop];omega)
 have hrb':RowG w g vb (R0.drop q):=by
  rw[List.drop_drop] at hrb
  rw[show q=a+(q - a) by omega]
  exact hrb
 obtain⟨o,n,cr,rfl⟩:=hrow.shape
 obtain⟨oa,na,ca,rfl⟩:=hra.shape
 obtain⟨ob,nb,cb,rfl⟩:=hrb.shape
 obtain⟨_,oR,capR,hvR,_,_⟩:=hr.row.shape
 subst hvR
 obtain⟨⟨_,_,_,_,b4,_⟩,_⟩:=ten_at hr.cells
 obtain⟨e0,_⟩:=one_at h0
 obtain⟨e1,_⟩:=one_at h1
 obtain⟨e2,_⟩:=one_at h2
 have hz0:B0<w.heap.size:=(Array.getElem?_eq_some_iff.1 h0).1
 have hz1:Br<w.heap.size:=(Array.getElem?_eq_some_iff.1 h1).1
 have hz2:Ba<w.heap.size:=(Array.getElem?_eq_some_iff.1 h2).1
 have hn0:=hr.row.ne h0 (by decide)
 have hn1:=hr.row.ne h1 (by decide)
 have hn2:=hr.row.ne h2 (by decide)
 have hb0:B0≠b:=by rintro rfl;rw[hr.cells] at h0;simp only[Option.some.injEq,Obj.cells.injEq] at h0;exact absurd h0.2.1 (by decide)
 have hb1:Br≠b:=by rintro rfl;rw[hr.cells] at h1;simp only[Option.some.injEq,Obj.cells.injEq] at h1;exact absurd h1.2.1 (by decide)
 have hb2:Ba≠b:=by rintro rfl;rw[hr.cells] at h2;simp only[Option.some.injEq,Obj.cells.injEq] at h2;exact absurd h2.2.1 (by decide)
 have hgz:∀ u v' (hn:Nx w b (.slice oR σ.R.length capR) (.slice none 0 0) u v' (.slice none 0 0)),RowG u g (.slice ob nb cb) (R0.drop q):=fun u v' hn=>by
  obtain⟨c1,c2,c3,c4,_⟩:=ho.kept g hK.row
  exact hrb'.keep (hn.block g (Nat.lt_of_lt_of_le c1 ho.size) c2 c3 c4)
 have hQ:∀ v' u,(RcAt u b vL vS v' { σ with R:=σ.R ++ (R0.drop a).take (q - a) }∧Nx w b (.slice oR σ.R.length capR) (.slice none 0 0) u v' (.slice none 0 0))→CAtD C u b (x.back R H a q) D (N+(q - a)) L vL vS∧u.heap[B0]? = w.heap[B0]? ∧ u.heap[Br]? = w.heap[Br]? ∧ u.heap[Ba]? = w.heap[Ba]? ∧ RowG u g (.slice ob nb cb) (R0.drop q)∧(∀ k cur,E k cur→u.heap[k]? = some (.cells cur 94 (0,0))):=by
  rintro v' u ⟨q1,q2⟩
  have ho':=ho.step q2
  refine⟨⟨v',_,q1,ho',CIs.back hK hok hi (fun hp=>Ties.keep (fun k hk=>(ho'.kept k (hK.dead k hk)).2.2.2.2) hD _ _ (hK.ties hp)) (fun s hs=>?_) q (by rw[hll,hL];omega) (fun h=>by have:=hN' h;rw[hll,hL];omega),by show(σ.R ++ _).length≤_;rw[List.length_append,hll];omega,hL⟩,q2.block _ hz0 hb0 hn0 (by simp [Value.ownBlock]),q2.block _ hz1 hb1 hn1 (by simp [Value.ownBlock]),q2.block _ hz2 hb2 hn2 (by simp [Value.ownBlock]),hgz u v' q2,fun k cur hk=>?_⟩
  rotate_left
  ·have hh:=hge k cur hk
   refine(q2.block k (Array.getElem?_eq_some_iff.1 hh).1 ?_ (hr.row.ne hh (by decide)) (by simp [Value.ownBlock])).trans hh
   rintro rfl
   rw[hr.cells] at hh
   simp only[Option.some.injEq,Obj.cells.injEq] at hh
   exact absurd hh.2.1 (by decide)
  subst hs
  exact ho.ties q2 hi.2.2.2.1
 have hap:Hid (∀ u,Below w.heap.size w u→∃ v' w',(∀ ty,(Builtin.append_ #[59,59] ty #[.slice oR σ.R.length capR,.slice oa na ca]).run Tryz.prog u=.ok v' w')∧(∃ o' l' c',v'=.slice o' l' c')∧w'.cell? ⟨B0,0,none⟩=some (.pointer (some ⟨b,0,none⟩))∧w'.cell? ⟨Br,0,none⟩=some (.slice o n cr)∧w'.cell? ⟨Ba,0,none⟩=some (.int .i64 (a:Int))∧w'.cell? ⟨b,4,none⟩=some (.slice oR σ.R.length capR)∧w'.frozen? ⟨b,4,none⟩=false ∧
   (RcAt (w'.setCell ⟨b,4,none⟩ v') b vL vS v' { σ with R:=σ.R ++ (R0.drop a).take (q - a) }∧Nx w b (.slice oR σ.R.length capR) (.slice none 0 0) (w'.setCell ⟨b,4,none⟩ v') v' (.slice none 0 0))):=Lib.hid (fun u hu=>by
  obtain⟨v',w',r1,r2,r3,r4,r5,r6,r7⟩:=cpushes_run hr.t hra.row (by rw[hll];have:=hr.few;omega) u hu
  exact⟨v',w',r1,r2,(one_at ((r5 _ hz0 hn0).trans h0)).1,(one_at ((r5 _ hz1 hn1).trans h1)).1,(one_at ((r5 _ hz2 hn2).trans h2)).1,r3,r4,RcT.at r6 rfl,r7⟩)
 have hqq:Hid (∀ v' u,(RcAt u b vL vS v' { σ with R:=σ.R ++ (R0.drop a).take (q - a) }∧Nx w b (.slice oR σ.R.length capR) (.slice none 0 0) u v' (.slice none 0 0))→u.heap[Br]? = some (.cells #[.slice o n cr] 59 (0,0))∧u.heap[Ba]? = some (.cells #[.int .i64 (a:Int)] 3 (0,0))):=Lib.hid (fun v' u hu=>by
  obtain⟨_,_,r1,r2,_,_⟩:=hQ v' u hu
  exact⟨r1.trans h1,r2.trans h2⟩)
 have hwr:IntKind.i64.wrap ((q:Int) - (a:Int))=((q - a:Nat):Int):=by
  have:=hK.few
  rw[show(q:Int) - (a:Int)=((q - a:Nat):Int) by omega]
  rw[IntKind.wrap_i64];omega
 refine(again_go e0 e1 e2 b4 hwr hsl1 hsl2 hap hqq hK.ra).mono ?_
 rintro e w' ⟨v,v',u,rfl,hu,rfl⟩
 obtain⟨r1,r2,r3,r4,r5,r6⟩:=hQ v' u hu
 have hne:=hK.ra
 have hg1:g≠Br:=fun e=>hK.nr (e ▸ hK.row)
 have hg2:g≠Ba:=fun e=>hK.na (e ▸ hK.row)
 have hsame:∀ k,k≠Br→k≠Ba→((u.setCell ⟨Br,0,none⟩ (.slice ob nb cb)).setCell ⟨Ba,0,none⟩ (.int .i64 (q:Int))).heap[k]? = u.heap[k]?:=fun k k1 k2=>(set_one _ _ _ _ _ k2).trans (set_one _ _ _ _ _ k1)
 have hr3:=r3.trans h1
 have hr4:=r4.trans h2
 refine⟨v,rfl,⟨D,hD,r1.off rfl rfl rfl (by rw[size_set,size_set];exact Nat.le_refl _) (fun k hk=>?_)⟩,?_,⟨_,?_,r5.keep (hsame g hg1 hg2)⟩,?_,fun h=>hok (by rw[back_bad] at h;exact h),fun k cur hk=>?_⟩
 ·by_cases k1:k=Br
  ·subst k1
   exact .inr ⟨hK.nr,hr.sigs.ne h1 (by decide),_,_,_,hr3,by decide,by decide,by decide,by decide⟩
  ·by_cases k2:k=Ba
   ·subst k2
    exact .inr ⟨hK.na,hK.sa,_,_,_,hr4,by decide,by decide,by decide,by decide⟩
   ·exact .inl (hsame k k1 k2)
 ·rw[hsame B0 (fun e=>by rw[e] at h0;rw[h1] at h0;simp only[Option.some.injEq,Obj.cells.injEq] at h0;exact absurd h0.2.1 (by decide)) (fun e=>by rw[e] at h0;rw[h2] at h0;simp only[Option.some.injEq,Obj.cells.injEq] at h0;exact absurd h0.2.1 (by decide)),r2]
  exact h0
 ·rw[set_one _ _ _ _ _ hne]
  exact heap_setCell_same _ Br 0 _ _ _ hr3
 ·exact heap_setCell_same _ Ba 0 _ _ _ ((set_one _ _ _ _ _ (fun h=>hne h.symm)).trans hr4)
 ·have hh:=r6 k cur hk
  rw[hsame k (fun e=>by rw[e,hr3] at hh;simp only[Option.some.injEq,Obj.cells.injEq] at hh;exact absurd hh.2.1 (by decide)) (fun e=>by rw[e,hr4] at hh;simp only[Option.some.injEq,Obj.cells.injEq] at hh;exact absurd hh.2.1 (by decide))]
  exact hh
theorem CeS.close (h:CeS C w b x D0 N L vL vS B0 Br Ba g a R0 P E) (hg:C.k.K g) (m m' k:Int) (hm:x.bad=false→m=m') (hlo:x.bad=false→(C.low:Int)≤m') (hy:Hid (rClose m' k x=some y)) :
  Calls Tryz.prog 37 #[.pointer (some ⟨b,0,none⟩),.int .i64 m,.int .i64 k] w fun e w'=>∃ v,e=.returned v∧CeS C w' b y D0 (N+1) L vL vS B0 Br Ba g a R0 P E:=by
 obtain⟨⟨D,hD,hat⟩,h0,⟨vr,h1,hrow⟩,h2,hok,hge⟩:=h
 have hat1:=hat.with (fun k=>k=B0∨k=Br∨k=Ba∨∃ cur,E k cur) (fun k hk=>by
  rcases hk with rfl|rfl|rfl|⟨cur,hk⟩
  ·exact⟨_,_,_,h0,by decide,by decide⟩
  ·exact⟨_,_,_,h1,by decide,by decide⟩
  ·exact⟨_,_,_,h2,by decide,by decide⟩
  ·exact⟨_,_,_,hge k cur hk,by decide,by decide⟩)
 refine(cclose_low m m' k hat1 hm hlo hy).mono ?_
 rintro e w' ⟨v,D',rfl,hD',hat2⟩
 obtain⟨hat3,hs⟩:=hat.without hat2
 have hgs:w'.heap[g]? = w.heap[g]?:=(hat3.at.kept g hg).1.trans (hat.at.kept g hg).1.symm
 refine⟨v,rfl,⟨D',fun k hk=>hD' k (hD k hk),hat3⟩,(hs B0 (.inl rfl)).trans h0,⟨vr,(hs Br (.inr (.inl rfl))).trans h1,hrow.keep hgs⟩,(hs Ba (.inr (.inr (.inl rfl)))).trans h2,fun hb=>hok ?_,fun k cur hk=>(hs k (.inr (.inr (.inr ⟨cur,hk⟩)))).trans (hge k cur hk)⟩
 cases x with
 |ok s=>rfl
 |fail a0 a1 a2=>
  have:=hy.out
  obtain rfl:=Option.some.inj (show some (Res.fail a0 a1 a2)=some y from this)
  exact hb
theorem CeS.close_bad (h:CeS C w b x D0 N L vL vS B0 Br Ba g a R0 P E) (hg:C.k.K g) (m k:Int) (hx:x.bad=true) :
  Calls Tryz.prog 37 #[.pointer (some ⟨b,0,none⟩),.int .i64 m,.int .i64 k] w fun e w'=>∃ v,e=.returned v∧CeS C w' b x D0 N L vL vS B0 Br Ba g a R0 P E:=by
 obtain⟨⟨D,hD,hat⟩,h0,⟨vr,h1,hrow⟩,h2,hok,hge⟩:=h
 have hat1:=hat.with (fun k=>k=B0∨k=Br∨k=Ba∨∃ cur,E k cur) (fun k hk=>by
  rcases hk with rfl|rfl|rfl|⟨cur,hk⟩
  ·exact⟨_,_,_,h0,by decide,by decide⟩
  ·exact⟨_,_,_,h1,by decide,by decide⟩
  ·exact⟨_,_,_,h2,by decide,by decide⟩
  ·exact⟨_,_,_,hge k cur hk,by decide,by decide⟩)
 obtain⟨vR,σ,hr,ho,hi,hNl,hL⟩:=hat1
 have hf:σ.failed=true:=by
  cases x with
  |ok s=>cases hx
  |fail=>exact hi.1
 refine(cclose_bad hr hf m k).mono ?_
 rintro e w' ⟨v,vR',rfl,hr',hn⟩
 obtain⟨hat3,hs⟩:=hat.without (⟨vR',σ,hr',ho.step hn,by cases x with|ok s=>cases hx|fail=>exact hi,hNl,hL⟩:CAtD _ w' b x D N L vL vS)
 have hgs:w'.heap[g]? = w.heap[g]?:=(hat3.at.kept g hg).1.trans (hat.at.kept g hg).1.symm
 exact⟨v,rfl,⟨D,hD,hat3⟩,(hs B0 (.inl rfl)).trans h0,⟨vr,(hs Br (.inr (.inl rfl))).trans h1,hrow.keep hgs⟩,(hs Ba (.inr (.inr (.inl rfl)))).trans h2,hok,fun k cur hk=>(hs k (.inr (.inr (.inr ⟨cur,hk⟩)))).trans (hge k cur hk)⟩
theorem CeS.mark (h:CeS C w b x D0 N L vL vS B0 Br Ba g a R0 P E):Calls Tryz.prog 61 #[.pointer (some ⟨b,0,none⟩)] w fun e w'=>∃ n:Nat,e=.returned (.int .i64 (n:Int))∧n≤N∧(x.bad=false→n=x.len)∧C.low≤n∧w=w':=by
 obtain⟨⟨D,hD,vR,σ,hr,ho,hi,hNl,hL⟩,_⟩:=h
 refine(cmark_any hr).mono ?_
 rintro e w' ⟨rfl,rfl⟩
 refine⟨_,rfl,hNl,fun hb=>?_,?_,rfl⟩
 ·cases x with
  |fail=>cases hb
  |ok s=>
   have:=hi.2.2.2.1.length
   rw[List.length_map] at this
   exact this
 ·cases x with
  |fail=>exact hi.2.2.2.2.2.2
  |ok s=>
   have:=hi.2.2.2.1.length
   rw[List.length_map] at this
   have:=hi.2.2.2.2.2.2.2.2.2
   omega
theorem CAtD.below {D:Nat→Prop} {w':World} (h:CAtD C w b x D N L vL vS) (hb:Below w.heap.size w w'):CAtD C w' b x D N L vL vS:=h.off hb.os hb.tape hb.output hb.size (fun k hk=>.inl (hb.block k hk))
theorem CeS.below {w':World} (h:CeS C w b x D0 N L vL vS B0 Br Ba g a R0 P E) (hg:C.k.K g) (hb:Below w.heap.size w w'):CeS C w' b x D0 N L vL vS B0 Br Ba g a R0 P E:=by
 obtain⟨⟨D,hD,hat⟩,h0,⟨vr,h1,hrow⟩,h2,hok,hge⟩:=h
 have hlt:∀ k o,w.heap[k]? = some o→w'.heap[k]? = some o:=fun k o hk=>(hb.block k (Array.getElem?_eq_some_iff.1 hk).1).trans hk
 have hgz:g<w.heap.size:=Nat.lt_of_lt_of_le (hat.at.kept g hg).2 hat.at.size
 exact⟨⟨D,hD,hat.below hb⟩,hlt _ _ h0,⟨vr,hlt _ _ h1,hrow.keep (hb.block g hgz)⟩,hlt _ _ h2,hok,fun k cur hk=>hlt _ _ (hge k cur hk)⟩
theorem CeS.box (h:CeS C w b x D0 N L vL vS B0 Br Ba g a R0 P E) (hg:C.k.K g) (cur:Array Value):CeS C (w.alloc (.cells cur 94)) b x D0 N L vL vS B0 Br Ba g a R0 P (fun k c=>k=w.heap.size∧c=cur):=by
 obtain⟨h1,h2,h3,h4,h5,_⟩:=h.below hg ((Below.refl _ _).alloc (Nat.le_refl _) (.cells cur 94))
 exact⟨h1,h2,h3,h4,h5,fun k c hk=>by obtain⟨rfl,rfl⟩:=hk;exact heap_alloc_last _ _⟩
end
open Go.RowKit
def cEach (R:List Tree) (H:List Int):List En→Nat→Res→Option Res
 |[],a,x=>some (x.back R H a R.length)
 |e::r,a,x=>do
  let y ← rClose (((x.back R H a e.f).len:Nat):Int) 233 ((x.back R H a e.f).back R H e.f e.t)
  cEach R H r e.t y
def cEachAll (T:List En):Res→Option Res
 |.fail d0 d1 d2=>some (.fail d0 d1 d2)
 |.ok s=>match T with
  |[]=>some (.ok s)
  |e::_=>cEach s.R s.H T e.f (.ok { s with R:=s.R.take e.f,H:=s.H.take e.f })
theorem cEach_fail {R:List Tree} {H:List Int}:∀ (T:List En) (a:Nat) (d0 d1 d2:Int),cEach R H T a (.fail d0 d1 d2)=some (.fail d0 d1 d2)
 |[],_,_,_,_=>rfl
 |e::r,a,d0,d1,d2=>by
  rw[cEach]
  show(rClose _ 233 (.fail d0 d1 d2)).bind _=_
  show(some (Res.fail d0 d1 d2)).bind _=_
  exact cEach_fail r e.t d0 d1 d2
theorem take_take_drop {α:Type} (R:List α) (a b c:Nat) (h1:a≤b) (h2:b≤c):(R.drop a).take (b - a) ++ (R.drop b).take (c - b)=(R.drop a).take (c - a):=by
 have e:R.drop b=(R.drop a).drop (b - a):=by rw[List.drop_drop];congr 1;omega
 rw[e,show c - a=(b - a)+(c - b) by omega,List.take_add]
theorem back_back (x:Res) (R:List Tree) (H:List Int) {a b c:Nat} (h1:a≤b) (h2:b≤c):(x.back R H a b).back R H b c=x.back R H a c:=by
 cases x with
 |fail=>rfl
 |ok s=>simp only[Res.back,St.back,List.append_assoc,take_take_drop _ _ _ _ h1 h2]
def nextE (T:List En) (n:Nat):Nat:=match T with|[]=>n|e::_=>e.f
theorem cEach_shift {R:List Tree} {H:List Int} (T:List En) {a a':Nat} {x:Res} (h1:a≤a') (h2:a'≤nextE T R.length):cEach R H T a' (x.back R H a a')=cEach R H T a x:=by
 cases T with
 |nil=>rw[cEach,cEach,back_back x R H h1 (show a'≤R.length from h2)]
 |cons e r=>rw[cEach,cEach,back_back x R H h1 (show a'≤e.f from h2)]
theorem next_ent (T:List En) (n:Nat):nextA (T.map En.ent) n=nextE T n:=by cases T <;> rfl
theorem each_plain {R:List Tree} {H:List Int}:∀ (T:List En) (lo:Nat) (x y:Res),wfE lo (T.map En.ent) R.length=true→rGroups R H false (T.map En.ent) x.len (nextE T R.length) x=some y→cEach R H T (nextE T R.length) x=some y
 |[],lo,x,y,_,h=>by
  rw[cEach]
  show some (x.back R H R.length R.length)=_
  rw[back_self]
  exact h
 |e::r,lo,x,y,hw,h=>by
  obtain⟨w1,w2,w3,w4⟩:=wfE_cons hw
  obtain⟨w5,w6,w7⟩:=wfE_next w4
  rw[next_ent] at w5 w6 w7
  obtain⟨y1,hy1,hr⟩:=rGroups_yes (any:=false) rfl h
  rw[next_ent] at hr
  have ih:=each_plain r _ _ _ w7 hr
  rw[cEach]
  show(rClose (((x.back R H e.f e.f).len:Nat):Int) 233 ((x.back R H e.f e.f).back R H e.f e.t)).bind _=_
  rw[back_self,show rClose ((x.len:Nat):Int) 233 (x.back R H e.f e.t)=some y1 from hy1.out]
  show cEach R H r e.t y1=some y
  have w5':e.t≤nextE r R.length:=w5
  rw[← cEach_shift r w5' (Nat.le_refl _)]
  exact ih
theorem grp_next (m n:Nat):∀ T:List En,grp m T≠[]→nextE (grp m T) n=m
 |[],h=>absurd rfl h
 |e::r,h=>by
  rw[grp] at h ⊢
  split
  ·rfl
  ·rename_i hn
   rw[if_neg hn] at h
   exact grp_next m n r h
def lastIs (T:List En):Bool:=match T.getLast? with|some e=>e.is|none=>true
theorem lastIs_cons {e f:En} {r:List En}:lastIs (e::f::r)=lastIs (f::r):=by
 unfold lastIs
 rw[List.getLast?_cons_cons]
theorem grp_named {m:Nat}:∀ T:List En,T≠[]→lastIs T=true→grp m T≠[]
 |[],h,_=>absurd rfl h
 |[e],_,h=>by
  have:e.is=true:=h
  rw[grp,if_pos this]
  simp
 |e::f::r,_,h=>by
  rw[lastIs_cons] at h
  rw[grp]
  split
  ·simp
  ·exact grp_named (f::r) (by simp) h
theorem each_named {R:List Tree} {H:List Int}:∀ (T:List En) (fr a lo:Nat) (x y:Res),fr≤a→a≤lo→(T=[]→fr=R.length∧a=R.length)→lastIs T=true→wfE lo (T.map En.ent) R.length=true→rGroups R H true (T.map En.ent) x.len a (x.back R H fr a)=some y→cEach R H (grp fr T) fr x=some y
 |[],fr,a,lo,x,y,h1,h2,h3,_,_,h=>by
  obtain⟨rfl,rfl⟩:=h3 rfl
  rw[grp,cEach]
  exact h
 |e::r,fr,a,lo,x,y,h1,h2,h3,hl,hw,h=>by
  obtain⟨w1,w2,w3,w4⟩:=wfE_cons hw
  have w1':lo≤e.f:=w1
  have w2':e.f≤e.t:=w2
  obtain⟨w5,w6,w7⟩:=wfE_next w4
  rw[next_ent] at w5 w6 w7
  have w5':e.t≤nextE r R.length:=w5
  rw[grp]
  cases hs:e.is with
  |false=>
   rw[if_neg (by simp)]
   have hr:=rGroups_no (any:=true) (e:=e.ent) (show(!true || e.is)=false by rw[hs];rfl) h
   rw[show e.ent.b=e.t from rfl,back_back x R H h1 (by omega)] at hr
   cases r with
   |nil=>have:e.is=true:=hl;rw[hs] at this;cases this
   |cons f r=>
    rw[lastIs_cons] at hl
    exact each_named (f::r) fr e.t e.t x y (by omega) (Nat.le_refl _) (fun h=>by cases h) hl w4 hr
  |true=>
   rw[if_pos rfl]
   obtain⟨y1,hy1,hr⟩:=rGroups_yes (any:=true) (e:=e.ent) (show(!true || e.is)=true by rw[hs];rfl) h
   rw[next_ent] at hr
   have hy1:=hy1.out
   rw[show e.ent.b=e.t from rfl] at hy1 hr
   rw[back_back x R H h1 (by omega)] at hy1
   have hl':lastIs r=true:=by
    cases r with
    |nil=>rfl
    |cons f r=>rw[lastIs_cons] at hl;exact hl
   have ih:=each_named r (nextE r R.length) (nextE r R.length) _ (y1.back R H e.t (nextE r R.length)) y (Nat.le_refl _) (Nat.le_refl _) (fun h=>by subst h;exact⟨rfl,rfl⟩) hl' w7 (by rw[back_self];exact hr)
   rw[cEach]
   show(rClose (((x.back R H fr fr).len:Nat):Int) 233 ((x.back R H fr fr).back R H fr e.t)).bind _=_
   rw[back_self,hy1]
   show cEach R H (grp (nxF fr r) r) e.t y1=some y
   cases r with
   |nil=>
    rw[grp] at ih ⊢
    rw[← cEach_shift [] w5' (Nat.le_refl _)]
    exact ih
   |cons f r=>
    have hg:nxF fr (f::r)=nextE (f::r) R.length:=rfl
    rw[hg]
    rw[← cEach_shift _ w5' (Nat.le_of_eq (grp_next _ _ (f::r) (grp_named _ (by simp) hl')).symm)]
    exact ih
theorem Ch.grp:∀ (T:List En) (lo hi fr:Nat),Ch lo T hi→fr≤lo→Ch fr (grp fr T) hi
 |[],lo,hi,fr,h,h1=>Nat.le_trans h1 h
 |e::r,lo,hi,fr,h,h1=>by
  obtain⟨h2,h3,h4⟩:=h
  rw[Go.Proofs.YtcekbbkidipbnaaGreat.rd.grp]
  split
  ·refine⟨Nat.le_refl _,by show fr≤e.t;omega,?_⟩
   show Ch e.t (Go.Proofs.YtcekbbkidipbnaaGreat.rd.grp (nxF fr r) r) hi
   cases r with
   |nil=>exact h4
   |cons f r=>
    have h5:e.t≤f.f:=h4.1
    have:=Ch.grp (f::r) f.f hi f.f ⟨Nat.le_refl _,h4.2.1,h4.2.2⟩ (Nat.le_refl _)
    exact Ch.lower this h5
  ·exact Ch.grp r e.t hi fr h4 (by omega)
 where
 Ch.lower:∀ {T:List En} {lo lo' hi:Nat},Ch lo T hi→lo'≤lo→Ch lo' T hi
  |[],_,_,_,h,h1=>Nat.le_trans h1 h
  |_::_,_,_,_,h,h1=>⟨Nat.le_trans h1 h.1,h.2.1,h.2.2⟩
theorem fit_unfit {R:List Tree}:∀ (T:List En),T≠[]→(∀ e∈T,e.is=false→Kof R e)→fitE T = !unfit R (T.map En.ent)
 |[],h,_=>absurd rfl h
 |[e],_,h=>by
  cases hs:e.is with
  |true=>simp [fitE,unfit,En.ent,hs]
  |false=>simp [fitE,unfit,En.ent,hs]
 |e::f::r,_,h=>by
  have ih:=fit_unfit (R:=R) (f::r) (by simp) (fun x hx=>h x (List.mem_cons_of_mem _ hx))
  have h1:fitE (e::f::r)=((e.is || e.k == 201) && fitE (f::r)):=by
   unfold fitE
   rw[List.getLast?_cons_cons,List.all_cons,Bool.and_assoc]
  have h2:unfit R ((e::f::r).map En.ent)=((!e.is && ((headT (R.drop e.f)).k != 201)) || unfit R ((f::r).map En.ent)):=by
   show((!e.is && (false || ((headT (R.drop e.f)).k != 201))) || unfit R ((f::r).map En.ent))=_
   rw[Bool.false_or]
  rw[h1,h2,ih]
  cases hs:e.is with
  |true=>simp
  |false=>
   have:=(h e (List.mem_cons_self ..) hs).head
   rw[← this]
   simp [bne]
theorem group_each {T:List En} {s:St} {y:Res} (hw:wfE 0 (T.map En.ent) s.R.length=true) (hun:(T.any En.is)=true→unfit s.R (T.map En.ent)=false) (hK:∀ e∈T,e.is=false→Kof s.R e) (h:rGroup (T.map En.ent) (T.any En.is) (.ok s)=some y):cEachAll (if T.any En.is=true then grp (nxF 0 T) T else T) (.ok s)=some y:=by
 cases T with
 |nil=>exact h
 |cons e r=>
  obtain⟨w1,w2,w3,w4⟩:=wfE_cons hw
  have w2':e.f≤e.t:=w2
  have w3':e.t≤s.R.length:=w3
  have hlen:(Res.ok { s with R:=s.R.take e.f,H:=s.H.take e.f }).len=e.f:=by
   show(s.R.take e.f).length=_
   rw[List.length_take]
   omega
  have hw':wfE e.f ((e::r).map En.ent) s.R.length=true:=by
   show(decide (e.f≤e.f) && decide (e.f≤e.t) && wfE e.t (r.map En.ent) s.R.length)=true
   rw[show wfE e.t (r.map En.ent) s.R.length=true from w4]
   simp [w2']
  have h':rGroups s.R s.H ((e::r).any En.is) ((e::r).map En.ent) e.f e.f (.ok { s with R:=s.R.take e.f,H:=s.H.take e.f })=some y:=h
  cases hany:(e::r).any En.is with
  |false=>
   rw[if_neg (by simp)]
   rw[hany] at h'
   have:=each_plain (R:=s.R) (H:=s.H) (e::r) e.f (.ok { s with R:=s.R.take e.f,H:=s.H.take e.f }) y hw' (by rw[hlen];exact h')
   exact this
  |true=>
   rw[if_pos rfl]
   rw[hany] at h'
   have hfit:fitE (e::r)=true:=by rw[fit_unfit (R:=s.R) (e::r) (by simp) hK,hun hany];rfl
   have hl:lastIs (e::r)=true:=by
    unfold fitE at hfit
    rw[Bool.and_eq_true] at hfit
    have:=hfit.2
    unfold lastIs
    cases hg:(e::r).getLast? with
    |none=>rfl
    |some e=>rw[hg] at this;exact this
   have:=each_named (R:=s.R) (H:=s.H) (e::r) e.f e.f e.f (.ok { s with R:=s.R.take e.f,H:=s.H.take e.f }) y (Nat.le_refl _) (Nat.le_refl _) (fun h=>by cases h) hl hw' (by rw[hlen,back_self];exact h')
   have hn:=grp_next e.f s.R.length (e::r) (grp_named (e::r) (by simp) hl)
   show cEachAll (grp e.f (e::r)) (.ok s)=some y
   cases hg:grp e.f (e::r) with
   |nil=>exact absurd hg (grp_named (e::r) (by simp) hl)
   |cons e' r'=>
    rw[hg] at hn this
    have hn':e'.f=e.f:=hn
    show cEach s.R s.H (e'::r') e'.f (.ok { s with R:=s.R.take e'.f,H:=s.H.take e'.f })=some y
    rw[hn']
    exact this
open Go.RowKit
def Res.cut (x:Res) (a:Nat):Res:=match x with
 |.ok s=>.ok { s with R:=s.R.take a,H:=s.H.take a }
 |.fail d0 d1 d2=>.fail d0 d1 d2
def Res.rows (x:Res):List Tree:=match x with|.ok s=>s.R|.fail _ _ _=>[]
def Res.highs (x:Res):List Int:=match x with|.ok s=>s.H|.fail _ _ _=>[]
theorem ces_start {C:Kc} {w W3:World} {b B0 Br Ba a lo oN cap:Nat} {vL vS vc:Value} {oR:Option Addr} {σ:Rc} {x:Res} {D:Nat→Prop} (hr:RcAt w b vL vS (.slice oR oN cap) σ) (ho:Own C.k w b (.slice oR oN cap) (.slice none 0 0) D) (hi:CIs C.low w D σ x) (ha:a≤C.low) (hlo:lo≤a)
  (hB:Below w.heap.size w W3) (h0:W3.heap[B0]? = some (.cells #[.pointer (some ⟨b,0,none⟩)] 25 (0,0))) (h1:W3.heap[Br]? = some (.cells #[vc] 59 (0,0))) (hm:Mine bt W3 w.heap.size vc (σ.R.drop a)) (h2:W3.heap[Ba]? = some (.cells #[.int .i64 (a:Int)] 3 (0,0))) (z0:w.heap.size≤B0) (z1:w.heap.size≤Br) (z2:w.heap.size≤Ba) (hne:Br≠Ba) :
  ∃ (C':Kc) (g:Nat),C'.low=lo∧(∀ w' z,CAt C' w' b z→CAt ⟨C.k,lo⟩ w' b z)∧(∀ k,C.k.K k→C'.k.K k)∧(∀ w' z,CAt C' w' b z→∀ k,C.k.K k→w'.heap[k]? = w.heap[k]?)∧CeK C' D vS Br Ba g σ.R x.rows x.highs (x.bad=false)∧CeS C' (W3.setCell ⟨b,4,none⟩ (.slice oR a cap)) b (x.cut a) D a σ.L vL vS B0 Br Ba g a σ.R (x.bad=false) (fun _ _=>False):=by
 have hbz:b<w.heap.size:=(Array.getElem?_eq_some_iff.1 hr.cells).1
 have hr3:=hr.below hB
 have hlen:C.low≤σ.R.length:=by
  cases x with
  |fail=>exact hi.2.2.2.2.2.2
  |ok s=>
   have:=hi.2.2.2.1.length
   rw[List.length_map] at this
   have:=hi.2.2.2.2.2.2.2.2.2
   omega
 have hon:oN=σ.R.length:=by
  obtain⟨_,_,_,hv,_⟩:=hr.row.shape
  simp only[Value.slice.injEq] at hv
  exact hv.2.1
 subst hon
 obtain⟨W4,hW4⟩:∃ W4,W3.setCell ⟨b,4,none⟩ (.slice oR a cap)=W4:=⟨_,rfl⟩
 have hs:∀ k,k≠b→W4.heap[k]? = W3.heap[k]?:=fun k hk=>by rw[← hW4];exact set_one _ _ _ _ _ hk
 have hsz:W4.heap.size=W3.heap.size:=by rw[← hW4,size_set]
 have hzz:=hB.size
 have hcut:=(hr3.row.upto a (by omega)).2
 have hown:(Value.slice oR a cap).ownBlock=(Value.slice oR σ.R.length cap).ownBlock:=own_len _ _ _ _
 have hRb:=hr3.row.ne hr3.cells (by decide)
 have hold:∀ k,k<w.heap.size→k≠b→W4.heap[k]? = w.heap[k]?:=fun k hk hkb=>(hs k hkb).trans (hB.block k hk)
 have hl3:∀ k,(Value.slice oR σ.R.length cap).ownBlock=some k→k<w.heap.size:=fun k hk=>hr.row.lt k hk
 have hvc:∀ k,vc.ownBlock=some k→w.heap.size≤k∧k<W3.heap.size:=fun k hk=>World.ownsRow.lt hm k hk
 obtain⟨g,hg⟩:∃ g,(vc.ownBlock=some g∨(vc.ownBlock=none∧g=B0)):=by
  cases h:vc.ownBlock with
  |none=>exact⟨B0,.inr ⟨rfl,rfl⟩⟩
  |some k=>exact⟨k,.inl rfl⟩
 have hrow4:RowG W4 g vc (σ.R.drop a):=by
  have hm4:Mine bt W4 w.heap.size vc (σ.R.drop a):=hm.keep (fun k hk _=>hs k (by have:=hvc k hk;omega))
  obtain⟨g',off,o,cap',hc,hv,ho',hcell⟩:=hm4.row
  refine⟨off,o,cap',hc,hv,fun hne=>?_,?_⟩
  ·have e:=ho' hne
   rw[e]
   rcases hg with hg|hg
   ·rw[hv,e] at hg
    simp only[Value.ownBlock,Option.some.injEq] at hg
    rw[hg]
   ·rw[hv,e] at hg
    simp [Value.ownBlock] at hg
  ·by_cases hT:σ.R.drop a=[]
   ·rw[hT]
    intro j u hu
    simp [flat] at hu
   ·have e:=ho' hT
    rcases hg with hg|hg
    ·rw[hv,e] at hg
     simp only[Value.ownBlock,Option.some.injEq] at hg
     rw[← hg]
     exact hcell
    ·rw[hv,e] at hg
     simp [Value.ownBlock] at hg
 have hBr:vc.ownBlock≠some Br:=hm.ne h1 (by decide)
 have hBa:vc.ownBlock≠some Ba:=hm.ne h2 (by decide)
 have hB01:B0≠Br:=by rintro rfl;rw[h0] at h1;simp only[Option.some.injEq,Obj.cells.injEq] at h1;exact absurd h1.2.1 (by decide)
 have hB02:B0≠Ba:=by rintro rfl;rw[h0] at h2;simp only[Option.some.injEq,Obj.cells.injEq] at h2;exact absurd h2.2.1 (by decide)
 have hKlt:∀ k,C.k.K k→k<w.heap.size∧k≠b:=fun k hk=>by
  obtain⟨a1,a2,_⟩:=ho.kept k hk
  have:=ho.size
  exact⟨by omega,a2⟩
 have hDlt:∀ k,D k→k<w.heap.size∧k≠b:=fun k hk=>by
  obtain⟨a1,a2,_⟩:=ho.dead k hk
  exact⟨a1,a2⟩
 have hlt0:B0<W3.heap.size:=(Array.getElem?_eq_some_iff.1 h0).1
 rw[hW4]
 refine⟨⟨⟨W4,fun k=>C.k.K k∨D k∨k=B0∨vc.ownBlock=some k⟩,lo⟩,g,rfl,fun w' z hz=>?_,fun k hk=>.inl hk,fun w' z hz k hk=>?_,?_,?_⟩
 ·obtain⟨vL',vS',vR',σ',D',hr',ho',hi'⟩:=hz
  refine⟨vL',vS',vR',σ',D',hr',⟨?_,?_,?_,?_,fun k hk=>?_,ho'.dead⟩,hi'⟩
  ·refine ho'.os.trans (Eq.trans ?_ ho.os)
   rw[← hW4];exact hB.os
  ·refine ho'.tape.trans (Eq.trans ?_ ho.tape)
   rw[← hW4];exact hB.tape
  ·refine ho'.output.trans (Eq.trans ?_ ho.output)
   rw[← hW4];exact hB.output
  ·have:=ho'.size
   have h4:W4.heap.size≤w'.heap.size:=this
   have:=ho.size
   show C.k.W.heap.size≤w'.heap.size
   omega
  ·obtain⟨a1,a2,a3,a4,a5⟩:=ho.kept k hk
   obtain⟨b1,b2,b3,b4,b5⟩:=ho'.kept k (.inl hk)
   have hk2:=hKlt k hk
   exact⟨a1,b2,b3,b4,b5.trans ((hold k hk2.1 hk2.2).trans a5)⟩
 ·have hk2:=hKlt k hk
  exact(hz.kept k (.inl hk)).1.trans (hold k hk2.1 hk2.2)
 ·refine⟨fun k hk=>.inr (.inl hk),?_,?_,?_,?_,hne,?_,fun hp=>?_,fun hp=>?_⟩
  ·rcases hg with hg|hg
   ·exact .inr (.inr (.inr hg))
   ·exact .inr (.inr (.inl hg.2))
  ·rintro(hk|hk|hk|hk)
   ·have:=(hKlt _ hk).1;omega
   ·have:=(hDlt _ hk).1;omega
   ·exact hB01 hk.symm
   ·exact hBr hk
  ·rintro(hk|hk|hk|hk)
   ·have:=(hKlt _ hk).1;omega
   ·have:=(hDlt _ hk).1;omega
   ·exact hB02 hk.symm
   ·exact hBa hk
  ·intro hk
   have:=hr.sigs.lt _ hk
   omega
  ·have:=c_few hi
   omega
  ·cases x with
   |fail=>cases hp
   |ok s=>exact Ties.keep (fun k hk=>hold k (hDlt k hk).1 (hDlt k hk).2) (fun _ h=>h) _ _ hi.2.2.2.1
  ·cases x with
   |fail=>cases hp
   |ok s=>exact⟨hi.2.2.2.2.1,hi.2.2.2.2.2.2.1⟩
 ·refine⟨⟨D,fun _ h=>h,.slice oR a cap,{ σ with R:=σ.R.take a },⟨?_,?_,?_,?_,hr.read,hr.few⟩,⟨rfl,rfl,rfl,Nat.le_refl _,fun k hk=>?_,fun k hk=>?_⟩,?_,by show(σ.R.take a).length≤a;rw[List.length_take];omega,rfl⟩,(hs B0 (by omega)).trans h0,⟨vc,(hs Br (by omega)).trans h1,hrow4⟩,(hs Ba (by omega)).trans h2,fun h=>?_,fun k cur hk=>hk.elim⟩
  ·rw[← hW4]
   exact heap_setCell_same _ b 4 _ _ _ hr3.cells
  ·exact hr3.toks.keep (fun k hk _=>hs k (fun e=>hr3.toks.ne hr3.cells (by decide) (by rw[← e];exact hk)))
  ·exact hr3.sigs.keep (fun k hk _=>hs k (fun e=>hr3.sigs.ne hr3.cells (by decide) (by rw[← e];exact hk)))
  ·exact hcut.keep (fun k hk _=>hs k (fun e=>hRb (by rw[← e,← hown];exact hk)))
  ·rw[hown]
   rcases hk with hk|hk|hk|hk
   ·obtain⟨a1,a2,a3,a4,a5⟩:=ho.kept k hk
    have:=ho.size
    exact⟨by show k<W4.heap.size;omega,a2,a3,a4,rfl⟩
   ·obtain⟨a1,a2,a3,a4,a5⟩:=ho.dead k hk
    exact⟨by show k<W4.heap.size;omega,a2,a3,a4,rfl⟩
   ·subst hk
    exact⟨by show k<W4.heap.size;omega,by omega,fun e=>by have:=hl3 _ e;omega,by simp [Value.ownBlock],rfl⟩
   ·have:=hvc k hk
    exact⟨by show k<W4.heap.size;omega,by omega,fun e=>by have:=hl3 _ e;omega,by simp [Value.ownBlock],rfl⟩
  ·obtain⟨a1,a2,a3,a4,cur,fz,a5⟩:=ho.dead k hk
   rw[hown]
   exact⟨by omega,a2,a3,a4,cur,fz,(hold k a1 a2).trans a5⟩
  ·cases x with
   |fail d0 d1 d2=>
    obtain⟨i1,i2,i3,i4,i5,i6,i7⟩:=hi
    exact⟨i1,i2,i3,i4,i5,by show(σ.R.take a).length+σ.L.length≤_;rw[List.length_take];omega,by show lo≤(σ.R.take a).length;rw[List.length_take];omega⟩
   |ok s=>
    obtain⟨i1,i2,i3,i4,i5,i6,i7,i8,i9,i10⟩:=hi
    have hl4:=i4.length
    rw[List.length_map] at hl4
    refine⟨i1,i2,i3,?_,?_,i6,fun z hz=>i7 z (List.mem_of_mem_take hz),i8,?_,?_⟩
    ·show Ties W4 D (s.R.take a) ((σ.R.take a).map Bn.rn)
     rw[List.map_take]
     exact Ties.keep (fun k hk=>hold k (hDlt k hk).1 (hDlt k hk).2) (fun _ h=>h) _ _ (i4.take a)
    ·show(σ.R.take a).map Bn.h=s.H.take a
     rw[List.map_take,i5]
    ·show(s.R.take a).length+s.L.length≤_
     rw[List.length_take];omega
    ·show lo≤(s.R.take a).length
     rw[List.length_take];omega
  ·cases x with
   |fail=>exact h
   |ok s=>rfl
open Go.RowKit
section
variable {C:Kc} {w:World} {b:Nat} {x y:Res} {D0:Nat→Prop} {N:Nat} {L:List Tk} {vL vS:Value} {B0 Br Ba g a:Nat} {R0:List Bn} {R:List Tree} {H:List Int} {E:Nat→Array Value→Prop}
theorem bad_close {m k:Int} (hy:rClose m k x=some y) (h:x.bad=true):y=x:=by
 cases x with
 |ok s=>cases h
 |fail a b c=>exact(Option.some.inj hy).symm
theorem CeS.round {bad0:Bool} {i:Nat} (h:CeS C w b x D0 N L vL vS B0 Br Ba g a R0 (bad0=false) E) (hg:C.k.K g) (m m' k:Int) (hm:x.bad=false→m=m') (hlo:x.bad=false→(C.low:Int)≤m') (hy:Hid (rClose m' k x=some y)) (hN:N≤a+(if bad0=true then 0 else i)) :
  Calls Tryz.prog 37 #[.pointer (some ⟨b,0,none⟩),.int .i64 m,.int .i64 k] w fun e w'=>∃ v N',e=.returned v∧N'≤a+(if bad0=true then 0 else i+1)∧CeS C w' b y D0 N' L vL vS B0 Br Ba g a R0 (bad0=false) E:=by
 cases hb:bad0 with
 |false=>
  subst hb
  refine(h.close hg m m' k hm hlo hy).mono ?_
  rintro e w' ⟨v,rfl,h'⟩
  exact⟨v,N+1,rfl,by simp at hN ⊢;omega,h'⟩
 |true=>
  subst hb
  have hx:x.bad=true:=by
   cases hq:x.bad with
   |true=>rfl
   |false=>exact absurd (h.ok hq) (by simp)
  rw[bad_close hy.out hx]
  refine(h.close_bad hg m k hx).mono ?_
  rintro e w' ⟨v,rfl,h'⟩
  exact⟨v,N,rfl,by simp at hN ⊢;omega,h'⟩
theorem CeS.last {P:Prop} (hK:CeK C D0 vS Br Ba g R0 R H P) (h:CeS C w b x D0 N L vL vS B0 Br Ba g a R0 P E) (hN:N+(R0.length - a)+L.length≤549755813889) (hN':x.bad=false→N+(R0.length - a)+L.length≤549755813888) :
  ∃ oR n capR o nr cr,w.cell? ⟨B0,0,none⟩=some (.pointer (some ⟨b,0,none⟩))∧w.cell? ⟨Br,0,none⟩=some (.slice o nr cr)∧w.cell? ⟨b,4,none⟩=some (.slice oR n capR) ∧
   ∀ u,Below w.heap.size w u→∃ v' w',(∀ ty,(Builtin.append_ #[59,59] ty #[.slice oR n capR,.slice o nr cr]).run Tryz.prog u=.ok v' w')∧(∃ o' l' c',v'=.slice o' l' c')∧w'.cell? ⟨B0,0,none⟩=some (.pointer (some ⟨b,0,none⟩))∧w'.cell? ⟨b,4,none⟩=some (.slice oR n capR)∧w'.frozen? ⟨b,4,none⟩=false∧CAt C (w'.setCell ⟨b,4,none⟩ v') b (x.back R H a R0.length):=by
 obtain⟨⟨D,hD,hat⟩,h0,⟨vr,h1,hrow⟩,h2,hok,hge⟩:=h
 have hat':=hat
 obtain⟨vR,σ,hr,ho,hi,hNl,hL⟩:=hat'
 have hll:(R0.drop a).length=R0.length - a:=List.length_drop ..
 have htk:(R0.drop a).take (R0.length - a)=R0.drop a:=List.take_of_length_le (by omega)
 obtain⟨o,n,cr,rfl⟩:=hrow.shape
 obtain⟨_,oR,capR,hvR,_,_⟩:=hr.row.shape
 subst hvR
 obtain⟨⟨_,_,_,_,b4,_⟩,_⟩:=ten_at hr.cells
 have hz0:B0<w.heap.size:=(Array.getElem?_eq_some_iff.1 h0).1
 refine⟨oR,_,capR,o,n,cr,(one_at h0).1,(one_at h1).1,b4,fun u hu=>?_⟩
 obtain⟨v',w',r1,r2,r3,r4,r5,r6,r7⟩:=cpushes_run hr.t hrow.row (by rw[hll];have:=hr.few;omega) u hu
 have ho':=ho.step r7
 refine⟨v',w',r1,r2,(one_at ((r5 _ hz0 (hr.row.ne h0 (by decide))).trans h0)).1,r3,r4,vL,vS,v',_,D,RcT.at r6 rfl,ho',?_⟩
 have hb:=CIs.back hK hok hi (fun hp=>Ties.keep (fun k hk=>(ho'.kept k (hK.dead k hk)).2.2.2.2) hD _ _ (hK.ties hp)) (fun s hs=>by subst hs;exact ho.ties r7 hi.2.2.2.1) R0.length (by rw[htk,hll,hL];omega) (fun h=>by have:=hN' h;rw[htk,hll,hL];omega)
 rw[htk] at hb
 exact hb
end
end Go.Proofs.YtcekbbkidipbnaaGreat.rd
