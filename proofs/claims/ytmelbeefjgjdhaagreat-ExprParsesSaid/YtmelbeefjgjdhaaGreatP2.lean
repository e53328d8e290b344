/-
  Texts put together: Eg, Eh, Ei, Ej, Ek, El, Em.
-/
import Derived.Test.YtmelbeefjgjdhaaGreatP1
import Derived.Deep.RegionLaw
import Derived.Deep.AppendLies
import Derived.Deep.DeepCutAuto
import Derived.Deep.RegionHeld3
set_option maxRecDepth 100000
set_option maxHeartbeats 8000000
namespace Go.Proofs.YtmelbeefjgjdhaaGreat.rd
open Go.RowKit
def Rn.v (N:Rn):Value:=.agg #[.int .i64 N.k,.int .i64 N.i,.int .i64 N.j,.slice N.o N.n N.c]
section
variable {α β:Type} {F:Kd α} {G:Kd β}
theorem Mine.keep {w w':World} {B:Nat} {v:Value} {T:List α} (h:Mine F w B v T) (hs:∀ k,v.ownBlock=some k→k<w.heap.size→w'.heap[k]? = w.heap[k]?):Mine F w' B v T:=by
 refine⟨h.1,?_⟩
 rcases h.2 with hn|⟨q,cap,cur,rfl,hq,hh,rest⟩
 ·exact .inl hn
 ·exact .inr ⟨q,cap,cur,rfl,hq,(hs q rfl (Array.getElem?_eq_some_iff.1 hh).1).trans hh,rest⟩
theorem Mine.differs {w:World} {B B2:Nat} {v v2:Value} {T:List α} {T2:List β} (h:Mine F w B v T) (h2:Mine G w B2 v2 T2) (hne:F.e≠G.e) (k:Nat) (hk:v.ownBlock=some k):v2.ownBlock≠some k:=by
 intro hk2
 rcases h.2 with⟨rfl,_⟩|⟨q,cap,cur,rfl,hq,hh,_⟩
 ·simp [Value.ownBlock] at hk
 ·rcases h2.2 with⟨rfl,_⟩|⟨q2,cap2,cur2,rfl,hq2,hh2,_⟩
  ·simp [Value.ownBlock] at hk2
  ·simp only[Value.ownBlock,Option.some.injEq] at hk hk2
   subst hk hk2
   rw[hh] at hh2
   simp only[Option.some.injEq,Obj.cells.injEq] at hh2
   exact hne hh2.2.1
theorem Mine.ne {w:World} {B b:Nat} {v:Value} {T:List α} {cs:Array Value} {e:TypeId} (h:Mine F w B v T) (hb:w.heap[b]? = some (.cells cs e (0,0))) (hne:e≠F.e):v.ownBlock≠some b:=by
 intro hk
 rcases h.2 with⟨rfl,_⟩|⟨q,cap,cur,rfl,hq,hh,_⟩
 ·simp [Value.ownBlock] at hk
 ·simp only[Value.ownBlock,Option.some.injEq] at hk
  subst hk
  rw[hh] at hb
  simp only[Option.some.injEq,Obj.cells.injEq] at hb
  exact hne hb.2.1.symm
theorem Mine.lt {w:World} {B:Nat} {v:Value} {T:List α} (h:Mine F w B v T) (k:Nat) (hk:v.ownBlock=some k):k<w.heap.size:=(World.ownsRow.lt h k hk).2
theorem Mine.free {w:World} {B g cap m:Nat} {T:List α} (h:Mine F w B (.slice (some ⟨g,0,none⟩) m cap) T) (j:Nat):w.frozen? ⟨g,j,none⟩=false:=by
 have hm:m=T.length:=by
  rcases h.2 with⟨h',_⟩|⟨g',cap',cur,h',_⟩
  ·simp at h'
  ·simp only[Value.slice.injEq] at h'
   exact h'.2.1
 subst hm
 exact World.ownsRow.frozenAt h j
theorem app_lies {w:World} {base:Nat} {v:Value} {T0:List α} {x:α} {ad:Nat} (hown:Mine F w base v T0) (hh:w.heap[ad]? = some (.cells (F.c x).toArray F.e (0,0))) (hb:base≤w.heap.size) (hm:T0.length+1≤maxLen) (hby:(T0.length+1)*F.bytes≤140737488355328) :
  ∃ g cap w',(∀ ty,(Builtin.append_ #[F.t,F.t] ty #[v,.slice (some ⟨ad,0,none⟩) 1 1]).run Tryz.prog w=.ok (.slice (some ⟨g,0,none⟩) (T0.length+1) cap) w')∧Mine F w' base (.slice (some ⟨g,0,none⟩) (T0.length+1) cap) (T0 ++ [x])∧w.grownBy w' v.ownBlock∧(v.ownBlock=some g∨g=w.heap.size):=by
 obtain⟨i0,hi,hz0,hz1,hz2⟩:=info_parts F.hi
 obtain⟨g,cap,w',h1,h2,h3,h4,_⟩:=run_append_lies (P:=Tryz.prog) w F.t 0 base F.e i0 F.z F.k F.bytes F.ht hi hz0 hz1 hz2 F.hz F.hk v T0.length (flat F T0) hown ⟨ad,0,none⟩ 1 1 (flat F [x]) (flat_length F [x]) (fun j u hu=>by
  rw[Addr.add_lit,cell_of_row w ad (0+j) _ _ (0,0) hh,Nat.zero_add]
  simpa [flat] using hu) (flat_one F [x]) (by omega) hm hby hb w.heap.size rfl
 refine⟨g,cap,w',fun ty=>h1,?_,h3,h4⟩
 unfold Mine
 rw[List.length_append,flat_append]
 exact h2
end
theorem flat_set_nd (T:List Rn) (t:Rn):∀ n,n<T.length→flat nd (T.set n t)=((((flat nd T).set (n*4) (.int .i64 t.k)).set (n*4+1) (.int .i64 t.i)).set (n*4+2) (.int .i64 t.j)).set (n*4+3) (.slice t.o t.n t.c):=by
 induction T with
 |nil=>intro n h;simp at h
 |cons d T ih=>
  intro n h
  have e:∀ (d:Rn) (T:List Rn),flat nd (d::T)=.int .i64 d.k :: .int .i64 d.i :: .int .i64 d.j :: .slice d.o d.n d.c::flat nd T:=fun _ _=>rfl
  cases n with
  |zero=>rw[List.set_cons_zero,e,e];rfl
  |succ n=>
   rw[List.set_cons_succ,e,e,ih n (by simpa using h),show(n+1)*4=n*4+1+1+1+1 by omega,show n*4+1+1+1+1+2=n*4+2+1+1+1+1 by omega,show n*4+1+1+1+1+3=n*4+3+1+1+1+1 by omega]
   rfl
theorem Mine.put_nd {w:World} {B g cap m:Nat} {T:List Rn} (h:Mine nd w B (.slice (some ⟨g,0,none⟩) m cap) T) (hm:T.length=m) (n:Nat) (hn:n<T.length) (t:Rn) :
  Mine nd ((((w.setCell ⟨g,n*4,none⟩ (.int .i64 t.k)).setCell ⟨g,n*4+1,none⟩ (.int .i64 t.i)).setCell ⟨g,n*4+2,none⟩ (.int .i64 t.j)).setCell ⟨g,n*4+3,none⟩ (.slice t.o t.n t.c)) B (.slice (some ⟨g,0,none⟩) m cap) (T.set n t):=by
 unfold Mine at *
 rw[List.length_set,flat_set_nd T t n hn,hm]
 rw[hm] at h
 exact((((h.stored _ _).1.stored _ _).1.stored _ _).1.stored _ _).1
theorem RdAt.below {W W':World} {b:Nat} {vL vR vH:Value} {σ:Rd} (h:RdAt W b vL vR vH σ) (hb:Below W.heap.size W W'):RdAt W' b vL vR vH σ:=
 ⟨(hb.block b (Array.getElem?_eq_some_iff.1 h.cells).1).trans h.cells,h.toks.below hb,h.row.below hb,h.high.below hb,h.read,h.few⟩
theorem Nx.below {W W':World} {b:Nat} {vR vH:Value} (hb:Below W.heap.size W W'):Nx W b vR vH W' vR vH:=
 ⟨hb.os,hb.tape,hb.output,hb.size,fun k hk _ _ _=>hb.block k hk,fun _ h=>.inl h,fun _ h=>.inl h⟩
theorem RdAt.pushed {W w' W':World} {b g cap:Nat} {vL vR vH:Value} {σ:Rd} {R':List Rn} {m:Nat} (h:RdAt W b vL vR vH σ) (hg:W.grownBy w' vR.ownBlock) (hat:vR.ownBlock=some g∨W.heap.size≤g) (hgz:g<w'.heap.size)
  (hm:Mine nd W' 0 (.slice (some ⟨g,0,none⟩) m cap) R')
  (hsz:W'.heap.size=w'.heap.size) (ho:W'.os=w'.os) (ht:W'.tape=w'.tape) (hou:W'.output=w'.output)
  (hs:∀ k,k≠b→k≠g→W'.heap[k]? = w'.heap[k]?)
  (hc:∀ cs,w'.heap[b]? = some (.cells cs 64 (0,0))→W'.heap[b]? = some (.cells (cs.setIfInBounds 2 (.slice (some ⟨g,0,none⟩) m cap)) 64 (0,0))) :
  RdAt W' b vL (.slice (some ⟨g,0,none⟩) m cap) vH { σ with R:=R' }∧Nx W b vR vH W' (.slice (some ⟨g,0,none⟩) m cap) vH:=by
 have hbz:=(Array.getElem?_eq_some_iff.1 h.cells).1
 have hRb:vR.ownBlock≠some b:=h.row.ne h.cells (by decide)
 have hLb:vL.ownBlock≠some b:=h.toks.ne h.cells (by decide)
 have hHb:vH.ownBlock≠some b:=h.high.ne h.cells (by decide)
 have far:∀ {γ:Type} {K:Kd γ} {v:Value} {T:List γ},Mine K W 0 v T→K.e≠nd.e→v.ownBlock≠some b→Mine K W' 0 v T:=fun hK hne hvb=>hK.keep (fun k hk hkz=>by
  have hR:vR.ownBlock≠some k:=hK.differs h.row hne k hk
  have h1:k≠b:=fun e=>hvb (e ▸ hk)
  have h2:k≠g:=by
   rintro rfl
   rcases hat with hat|hat
   ·exact hR hat
   ·omega
  rw[hs k h1 h2,hg.block k hkz (fun e=>hR e.symm)])
 refine⟨⟨?_,far h.toks (by decide) hLb,hm,far h.high (by decide) hHb,h.read,h.few⟩,?_⟩
 ·exact hc _ ((hg.block b hbz (fun e=>hRb e.symm)).trans h.cells)
 ·refine⟨ho.trans hg.os,ht.trans hg.tape,hou.trans hg.output,by rw[hsz];exact hg.size,fun k hk hkb hkR hkH=>?_,fun k hk=>?_,fun k hk=>.inl hk⟩
  ·have h2:k≠g:=by
    rintro rfl
    rcases hat with hat|hat
    ·exact hkR hat
    ·omega
   rw[hs k hkb h2,hg.block k hk (fun e=>hkR e.symm)]
  ·simp only[Value.ownBlock,Option.some.injEq] at hk
   subst hk
   exact hat
theorem RdAt.pushedH {W w' W':World} {b g cap:Nat} {vL vR vH:Value} {σ:Rd} {H':List Int} {m:Nat} (h:RdAt W b vL vR vH σ) (hg:W.grownBy w' vH.ownBlock) (hat:vH.ownBlock=some g∨W.heap.size≤g)
  (hm:Mine it W' 0 (.slice (some ⟨g,0,none⟩) m cap) H')
  (hsz:W'.heap.size=w'.heap.size) (ho:W'.os=w'.os) (ht:W'.tape=w'.tape) (hou:W'.output=w'.output)
  (hs:∀ k,k≠b→k≠g→W'.heap[k]? = w'.heap[k]?)
  (hc:∀ cs,w'.heap[b]? = some (.cells cs 64 (0,0))→W'.heap[b]? = some (.cells (cs.setIfInBounds 3 (.slice (some ⟨g,0,none⟩) m cap)) 64 (0,0))) :
  RdAt W' b vL vR (.slice (some ⟨g,0,none⟩) m cap) { σ with H:=H' }∧Nx W b vR vH W' vR (.slice (some ⟨g,0,none⟩) m cap):=by
 have hbz:=(Array.getElem?_eq_some_iff.1 h.cells).1
 have hRb:vR.ownBlock≠some b:=h.row.ne h.cells (by decide)
 have hLb:vL.ownBlock≠some b:=h.toks.ne h.cells (by decide)
 have hHb:vH.ownBlock≠some b:=h.high.ne h.cells (by decide)
 have far:∀ {γ:Type} {K:Kd γ} {v:Value} {T:List γ},Mine K W 0 v T→K.e≠it.e→v.ownBlock≠some b→Mine K W' 0 v T:=fun hK hne hvb=>hK.keep (fun k hk hkz=>by
  have hR:vH.ownBlock≠some k:=hK.differs h.high hne k hk
  have h1:k≠b:=fun e=>hvb (e ▸ hk)
  have h2:k≠g:=by
   rintro rfl
   rcases hat with hat|hat
   ·exact hR hat
   ·omega
  rw[hs k h1 h2,hg.block k hkz (fun e=>hR e.symm)])
 refine⟨⟨?_,far h.toks (by decide) hLb,far h.row (by decide) hRb,hm,h.read,h.few⟩,?_⟩
 ·exact hc _ ((hg.block b hbz (fun e=>hHb e.symm)).trans h.cells)
 ·refine⟨ho.trans hg.os,ht.trans hg.tape,hou.trans hg.output,by rw[hsz];exact hg.size,fun k hk hkb hkR hkH=>?_,fun k hk=>.inl hk,fun k hk=>?_⟩
  ·have h2:k≠g:=by
    rintro rfl
    rcases hat with hat|hat
    ·exact hkH hat
    ·omega
   rw[hs k hkb h2,hg.block k hk (fun e=>hkH e.symm)]
  ·simp only[Value.ownBlock,Option.some.injEq] at hk
   subst hk
   exact hat
open Go.RowKit
theorem step_append_ex {P:Program} {w:World} {ops:Array Oper} {o:Oper} {a:Act} {K:Act→World→Prop} {Q:Exit→Act→World→Prop} {E:Prop} (hgd:o.guard=none) (s x:Operand) (t tn:TypeId)
  (ho:o.op=.call { callee:=.builtin .append,args:=#[s,x],argTypes:=#[t,tn] }) (vs vx:Value) (hs:a.eval s=vs) (hx:a.eval x=vx)
  {R:Value→World→Prop} (hr:∃ v' w',(∀ ty,(Builtin.append_ #[t,tn] ty #[vs,vx]).run P w=.ok v' w')∧R v' w') (h:∀ v' w',R v' w'→K (a.put o.dst v') w') :
  if Region.wanted o (yielded ops a.tmps)=true then Oper.wp P o a w K Q else E:=by
 have hw:Region.wanted o (yielded ops a.tmps)=true:=by simp [Region.wanted,hgd]
 rw[if_pos hw]
 obtain⟨v',w',h1,h2⟩:=hr
 exact Lib.wp_append_run w s x t tn ho vs vx hs hx v' w' (h1 _) (h v' w' h2)
theorem push_any {W:World} {b:Nat} {vL vR vH:Value} {σ:Rd} (h:RdAt W b vL vR vH σ) (N:Rn) (hi:Int) (hfr:σ.R.length≤1099511627776) (hfh:σ.H.length≤1099511627776) :
  Calls Tryz.prog 67 #[.pointer (some ⟨b,0,none⟩),N.v,.int .i64 hi] W (Steps W b vL vR vH { σ with R:=σ.R ++ [N],H:=σ.H ++ [hi] }):=by
 obtain⟨z,x1,x2,xo,xn,xc⟩:=N
 rw[show(Rn.mk z x1 x2 xo xn xc).v=.agg #[.int .i64 z,.int .i64 x1,.int .i64 x2,.slice xo xn xc] from rfl]
 have hbz:b<W.heap.size:=(Array.getElem?_eq_some_iff.1 h.cells).1
 have HFH:=Lib.hid hfh
 have HW:Hid (∀ W',W'.heap[W.heap.size]? = some (.cells #[.int .i64 z,.int .i64 x1,.int .i64 x2,.slice xo xn xc] 43 (0,0))→Below W.heap.size W W'→RdAt W' b vL vR vH σ∧Nx W b vR vH W' vR vH):=Lib.hid (fun W' _ hb=>⟨h.below hb,Nx.below hb⟩)
 clear h hfh
 go_enter Tryz.func67,Tryz.ntmps67
 go_wp2_with fail
 obtain⟨B0,hB0⟩:∃ B0,W.heap.size=B0:=⟨_,rfl⟩
 have hN1:=heap_alloc_last W (.cells #[.int .i64 z,.int .i64 x1,.int .i64 x2,.slice xo xn xc] 43)
 have hz1:(W.alloc (.cells #[.int .i64 z,.int .i64 x1,.int .i64 x2,.slice xo xn xc] 43)).heap.size=W.heap.size+1:=World.size_alloc _ _
 obtain⟨h1,hn1⟩:=HW.out _ hN1 ((Below.refl _ _).alloc (Nat.le_refl _) _)
 generalize W.alloc (.cells #[.int .i64 z,.int .i64 x1,.int .i64 x2,.slice xo xn xc] 43)=W1 at *
 rw[hB0] at hN1 hz1 hbz ⊢
 have n0:W1.cell? ⟨B0,0,none⟩=some (.int .i64 z):=by rw[cell_of_row W1 B0 0 _ _ _ hN1];rfl
 have n1:W1.cell? ⟨B0,1,none⟩=some (.int .i64 x1):=by rw[cell_of_row W1 B0 1 _ _ _ hN1];rfl
 have n2:W1.cell? ⟨B0,2,none⟩=some (.int .i64 x2):=by rw[cell_of_row W1 B0 2 _ _ _ hN1];rfl
 have n3:W1.cell? ⟨B0,3,none⟩=some (.slice xo xn xc):=by rw[cell_of_row W1 B0 3 _ _ _ hN1];rfl
 have hbz1:b<W1.heap.size:=by omega
 have hB1:B0<W1.heap.size:=by omega
 have HZ1:=Lib.hid hz1
 have HN1:=Lib.hid hn1
 have HR1:=Lib.hid h1
 have hcb:=h1.cells
 have HCB:=Lib.hid hcb
 have HRb:=Lib.hid (h1.row.ne hcb (by decide))
 obtain⟨⟨_,_,b2,_,_,_,_,_,_⟩,hfz⟩:=nine_at hcb
 have f2:=hfz 2
 obtain⟨g0,o,cap,hv,_,_⟩:=h1.row.shape
 have HM:=Lib.hid h1.row
 subst hv
 obtain⟨len,hlen⟩:∃ len,σ.R.length=len:=⟨_,rfl⟩
 rw[hlen] at b2 hfr HM HRb HR1 HN1 HCB ⊢
 have HLN:=Lib.hid hlen
 clear hN1 h1 hn1 hcb hfz hlen HW hB0 hz1
 have HA:Hid (∀ u,Below W1.heap.size W1 u→∀ ad,u.heap[ad]? = some (.cells #[.int .i64 0,.int .i64 0,.int .i64 0,.slice none 0 0] 43 (0,0))→∃ v' w',(∀ ty,(Builtin.append_ #[35,35] ty #[.slice o len cap,.slice (some ⟨ad,0,none⟩) 1 1]).run Tryz.prog u=.ok v' w') ∧
   ∃ g cap',v'=.slice (some ⟨g,0,none⟩) (len+1) cap'∧Mine nd w' 0 (.slice (some ⟨g,0,none⟩) (len+1) cap') (σ.R ++ [⟨0,0,0,none,0,0⟩])∧W1.grownBy w' (Value.slice o len cap).ownBlock∧((Value.slice o len cap).ownBlock=some g∨W1.heap.size≤g)∧g≠b∧g<w'.heap.size):=Lib.hid (fun u hu ad had=>by
  have hL:=HLN.out
  obtain⟨g,cap',w',h1,h2,h3,h4⟩:=app_lies (F:=nd) (x:=⟨0,0,0,none,0,0⟩) (HM.out.below hu) had (Nat.zero_le _) (by simp [maxLen,hL];omega) (by show(σ.R.length+1)*48≤_;rw[hL];omega)
  rw[hL] at h1 h2
  have hat:(Value.slice o len cap).ownBlock=some g∨W1.heap.size≤g:=by
   rcases h4 with h4|h4
   ·exact .inl h4
   ·exact .inr (by rw[h4];exact hu.size)
  refine⟨_,w',h1,g,cap',rfl,h2,⟨h3.os.trans hu.os,h3.tape.trans hu.tape,h3.output.trans hu.output,Nat.le_trans hu.size h3.size,fun k hk hne=>(h3.block k (Nat.lt_of_lt_of_le hk hu.size) hne).trans (hu.block k hk)⟩,hat,?_,h2.lt g rfl⟩
  rintro rfl
  rcases hat with hat|hat
  ·exact HRb.out hat
  ·omega)
 have HCC:Hid (∀ w' g cap',Mine nd w' 0 (.slice (some ⟨g,0,none⟩) (len+1) cap') (σ.R ++ [⟨0,0,0,none,0,0⟩])→W1.grownBy w' (Value.slice o len cap).ownBlock→(w'.cell? ⟨g,len*4,none⟩=some (.int .i64 0)∧w'.cell? ⟨g,len*4+1,none⟩=some (.int .i64 0)∧w'.cell? ⟨g,len*4+2,none⟩=some (.int .i64 0)∧w'.cell? ⟨g,len*4+3,none⟩=some (.slice none 0 0))∧(∀ j,w'.frozen? ⟨g,j,none⟩=false)∧w'.cell? ⟨b,2,none⟩=some (.slice o len cap)∧w'.frozen? ⟨b,2,none⟩=false):=Lib.hid (fun w' g cap' hm hg=>by
  have hlt:len<(σ.R ++ [(⟨0,0,0,none,0,0⟩:Rn)]).length:=by rw[List.length_append,HLN.out];simp
  obtain⟨y0,y1,y2,y3⟩:=cells_nd hm.cells len hlt
  rw[show(σ.R ++ [(⟨0,0,0,none,0,0⟩:Rn)])[len]=⟨0,0,0,none,0,0⟩ by rw[List.getElem_append_right (by rw[HLN.out];exact Nat.le_refl _)];simp,Nat.zero_add] at y0 y1 y2 y3
  exact⟨⟨y0,y1,y2,y3⟩,hm.free,hg.cell b2 (fun e=>HRb.out e.symm),(World.frozen?_of_block (hg.block b (by omega) (fun e=>HRb.out e.symm))).trans f2⟩)
 have hl0:(0:Int)≤(len:Int):=by omega
 have hl1:(len:Int)<(len:Int)+1:=by omega
 have HE:Hid (∀ w' g cap',Mine nd w' 0 (.slice (some ⟨g,0,none⟩) (len+1) cap') (σ.R ++ [⟨0,0,0,none,0,0⟩])→W1.grownBy w' (Value.slice o len cap).ownBlock→((Value.slice o len cap).ownBlock=some g∨W1.heap.size≤g)→g≠b→g<w'.heap.size→∀ W',(W'=((((w'.setCell ⟨g,len*4,none⟩ (.int .i64 z)).setCell ⟨g,len*4+1,none⟩ (.int .i64 x1)).setCell ⟨g,len*4+2,none⟩ (.int .i64 x2)).setCell ⟨g,len*4+3,none⟩ (.slice xo xn xc)).setCell ⟨b,2,none⟩ (.slice (some ⟨g,0,none⟩) (len+1) cap') ∨
   W'=((((w'.setCell ⟨b,2,none⟩ (.slice (some ⟨g,0,none⟩) (len+1) cap')).setCell ⟨g,len*4,none⟩ (.int .i64 z)).setCell ⟨g,len*4+1,none⟩ (.int .i64 x1)).setCell ⟨g,len*4+2,none⟩ (.int .i64 x2)).setCell ⟨g,len*4+3,none⟩ (.slice xo xn xc)) →
   RdAt W' b vL (.slice (some ⟨g,0,none⟩) (len+1) cap') vH { σ with R:=σ.R ++ [⟨z,x1,x2,xo,xn,xc⟩] }∧Nx W b (.slice o len cap) vH W' (.slice (some ⟨g,0,none⟩) (len+1) cap') vH):=Lib.hid (fun w' g cap' hm hg hat hgb hgz W' hW=>by
  have hll:(σ.R ++ [(⟨0,0,0,none,0,0⟩:Rn)]).length=len+1:=by rw[List.length_append,HLN.out];rfl
  have hset:(σ.R ++ [(⟨0,0,0,none,0,0⟩:Rn)]).set len ⟨z,x1,x2,xo,xn,xc⟩=σ.R ++ [⟨z,x1,x2,xo,xn,xc⟩]:=by rw[List.set_append_right _ _ (by rw[HLN.out];exact Nat.le_refl _),HLN.out,Nat.sub_self,List.set_cons_zero]
  have main:=RdAt.pushed (W':=W') (g:=g) (cap:=cap') (m:=len+1) (R':=σ.R ++ [⟨z,x1,x2,xo,xn,xc⟩]) HR1.out hg hat hgz ?_ ?_ ?_ ?_ ?_ ?_ ?_
  ·exact⟨main.1,HN1.out.trans main.2⟩
  ·rcases hW with rfl|rfl
   ·have h1:=hm.put_nd hll len (by omega) ⟨z,x1,x2,xo,xn,xc⟩
    rw[hset] at h1
    exact h1.keep (fun k hk _=>set_one _ _ _ _ _ (by simp only[Value.ownBlock,Option.some.injEq] at hk;omega))
   ·have h1:=(hm.keep (w':=w'.setCell ⟨b,2,none⟩ (.slice (some ⟨g,0,none⟩) (len+1) cap')) (fun k hk _=>set_one _ _ _ _ _ (by simp only[Value.ownBlock,Option.some.injEq] at hk;omega))).put_nd hll len (by omega) ⟨z,x1,x2,xo,xn,xc⟩
    rw[hset] at h1
    exact h1
  ·rcases hW with rfl|rfl <;> simp only[size_set]
  ·rcases hW with rfl|rfl <;> rfl
  ·rcases hW with rfl|rfl <;> rfl
  ·rcases hW with rfl|rfl <;> rfl
  ·intro k hk1 hk2
   rcases hW with rfl|rfl
   ·rw[set_one _ _ _ _ _ hk1,set_one _ _ _ _ _ hk2,set_one _ _ _ _ _ hk2,set_one _ _ _ _ _ hk2,set_one _ _ _ _ _ hk2]
   ·rw[set_one _ _ _ _ _ hk2,set_one _ _ _ _ _ hk2,set_one _ _ _ _ _ hk2,set_one _ _ _ _ _ hk2,set_one _ _ _ _ _ hk1]
  ·intro cs hcs
   have hbg:b≠g:=fun e=>hgb e.symm
   rcases hW with rfl|rfl
   ·exact heap_setCell_same _ b 2 _ _ _ (by rw[set_one _ _ _ _ _ hbg,set_one _ _ _ _ _ hbg,set_one _ _ _ _ _ hbg,set_one _ _ _ _ _ hbg];exact hcs)
   ·rw[set_one _ _ _ _ _ hbg,set_one _ _ _ _ _ hbg,set_one _ _ _ _ _ hbg,set_one _ _ _ _ _ hbg]
    exact heap_setCell_same _ b 2 _ _ _ hcs)
 go_cut [13] (fun v' wx=>RdAt wx b vL v' vH { σ with R:=σ.R ++ [⟨z,x1,x2,xo,xn,xc⟩] }∧Nx W b (.slice o len cap) vH wx v' vH)
 case first=>
  go_region_law (refine step_append_ex rfl _ _ _ _ rfl _ _ rfl rfl (HA.out _ ?_ _ ?_) ?_;(first|exact(Below.refl _ _).drew.alloc (Nat.le_refl _) _);(first|exact heap_alloc_last _ _);rintro v' w' ⟨g,cap',rfl,hm',hg',hat',hgb',hgz'⟩;have HM':=Lib.hid hm';have HG':=Lib.hid hg';obtain⟨⟨y0,y1,y2,y3⟩,hfg,hb2,hf2⟩:=HCC.out _ _ _ hm' hg';have fg0:=hfg (len*4);have fg1:=hfg (len*4+1);have fg2:=hfg (len*4+2);have fg3:=hfg (len*4+3);clear hm' hg' hfg)
  all_goals(try go_wp2_with fail)
  all_goals go_meet
  all_goals(first|exact HE.out _ _ _ HM'.out HG'.out hat' hgb' hgz' _ (Or.inl (by with_reducible rfl))|exact HE.out _ _ _ HM'.out HG'.out hat' hgb' hgz' _ (Or.inr (by with_reducible rfl)))
 case rest=>
  obtain⟨hr2,hn2⟩:=hcut
  have HN2:=Lib.hid hn2
  clear hn2 HE HA HCC HN1 HR1 HRb HM HCB b2 f2 n0 n1 n2 n3 hbz hbz1 hB1
  have hcb:=hr2.cells
  have hHb:=hr2.high.ne hcb (by decide)
  have hzc:b<wc.heap.size:=(Array.getElem?_eq_some_iff.1 hcb).1
  obtain⟨⟨_,_,_,b3,_,_,_,_,_⟩,hfz⟩:=nine_at hcb
  have f3:=hfz 3
  obtain⟨g1,o1,cap1,hv1,_,_⟩:=hr2.high.shape
  subst hv1
  have hu:Below wc.heap.size wc (wc.alloc (.cells #[.int .i64 hi] 3)):=(Below.refl _ _).alloc (Nat.le_refl _) _
  obtain⟨g,cap',w',h1,h2,h3,h4⟩:=app_lies (F:=it) (x:=hi) (hr2.high.below hu) (heap_alloc_last wc (.cells #[.int .i64 hi] 3)) (Nat.zero_le _) (by have:=HFH.out;simp [maxLen];omega) (by have:=HFH.out;show(σ.H.length+1)*8≤_;omega)
  have hat:(Value.slice o1 σ.H.length cap1).ownBlock=some g∨wc.heap.size≤g:=by
   rcases h4 with h4|h4
   ·exact .inl h4
   ·exact .inr (by rw[h4];exact hu.size)
  have hg:wc.grownBy w' (Value.slice o1 σ.H.length cap1).ownBlock:=⟨h3.os.trans hu.os,h3.tape.trans hu.tape,h3.output.trans hu.output,Nat.le_trans hu.size h3.size,fun k hk hne=>(h3.block k (Nat.lt_of_lt_of_le hk hu.size) hne).trans (hu.block k hk)⟩
  have hgb:g≠b:=by
   rintro rfl
   rcases hat with hat|hat
   ·exact hHb hat
   ·omega
  have hb3:w'.cell? ⟨b,3,none⟩=some (.slice o1 σ.H.length cap1):=hg.cell b3 (fun e=>hHb e.symm)
  have hf3:w'.frozen? ⟨b,3,none⟩=false:=(World.frozen?_of_block (hg.block b hzc (fun e=>hHb e.symm))).trans f3
  have HRUN:=Lib.hid h1
  have main:=RdAt.pushedH (W':=w'.setCell ⟨b,3,none⟩ (.slice (some ⟨g,0,none⟩) (σ.H.length+1) cap')) (g:=g) (cap:=cap') (m:=σ.H.length+1) (H':=σ.H ++ [hi]) hr2 hg hat (h2.keep (fun k hk _=>set_one _ _ _ _ _ (by simp only[Value.ownBlock,Option.some.injEq] at hk;omega))) (by rw[size_set]) rfl rfl rfl (fun k hk1 _=>set_one _ _ _ _ _ hk1) (fun cs hcs=>heap_setCell_same _ b 3 _ _ _ hcs)
  have HMAIN:=Lib.hid main
  clear hr2 hcb hHb hfz f3 hu h1 h2 h3 h4 hat hg main
  go_wp2_with (at_builtin;refine Lib.wpList_append_run _ rfl _ _ _ _ rfl _ _ rfl rfl _ _ (HRUN.out _) ?_)
  go_end0
  exact⟨_,_,_,rfl,HMAIN.out.1,by rw[HLN.out];exact HN2.out.trans HMAIN.out.2⟩
open Go.RowKit
def leaf (t:Tk):Rn:=⟨t.k,t.i,t.j,none,0,0⟩
def Rd.run (σ:Rd) (n:Nat):Rd:={ σ with at':=σ.at'+n,R:=σ.R ++ ((σ.L.drop σ.at').take n).map leaf,H:=σ.H ++ List.replicate n 0 }
theorem Rd.run_zero (σ:Rd):σ.run 0=σ:=by simp [Rd.run]
theorem Rd.run_succ (σ:Rd) (n:Nat) (h:σ.at'+n<σ.L.length):σ.run (n+1) = { σ.run n with at':=σ.at'+(n+1),R:=(σ.run n).R ++ [leaf σ.L[σ.at'+n]],H:=(σ.run n).H ++ [0] }:=by
 unfold Rd.run
 have h2:(σ.L.drop σ.at').take (n+1)=(σ.L.drop σ.at').take n ++ [σ.L[σ.at'+n]]:=by
  rw[List.take_add_one,List.getElem?_drop,List.getElem?_eq_getElem h]
  rfl
 simp only[h2,List.map_append,List.map_cons,List.map_nil,List.append_assoc,List.replicate_succ']
def Rd.take (σ:Rd):Rd:=if σ.ahead 0=0 then σ else σ.run (σ.next 0+1 - σ.at')
theorem Rd.next_ge (σ:Rd) (n:Nat):σ.at'≤σ.next n:=Nat.le_add_right _ _
theorem Rd.comes_lt {σ:Rd} (n:Nat) (h:σ.ahead n≠0):σ.next n<σ.L.length:=by
 unfold Rd.ahead at h
 cases hf:σ.failed with
 |true=>rw[hf,if_pos rfl] at h;exact absurd rfl h
 |false=>
  rw[hf,if_neg (by simp)] at h
  rcases Nat.lt_or_ge (σ.next n) σ.L.length with hlt|hge
  ·exact hlt
  ·rw[List.getElem?_eq_none hge] at h;exact absurd rfl h
theorem take_any {W:World} {b:Nat} {vL vR vH:Value} {σ:Rd} (h:RdAt W b vL vR vH σ) (hR:σ.R.length+σ.L.length≤1099511627776) (hH:σ.H.length+σ.L.length≤1099511627776) :
  Calls Tryz.prog 32 #[.pointer (some ⟨b,0,none⟩)] W (Steps W b vL vR vH σ.take):=by
 have HRD:=Lib.hid h
 have HK:=Lib.hid (kind_any h)
 have HX:=Lib.hid (next_any h 0 (by decide))
 have HHR:=Lib.hid hR
 have HHH:=Lib.hid hH
 by_cases h0:σ.ahead 0=0
 ·have HT:Hid (σ.take=σ):=Lib.hid (by unfold Rd.take;rw[if_pos h0])
  rw[h0] at HK
  rw[HT.out]
  clear h h0 hR hH
  go_enter Tryz.func32,Tryz.ntmps32
  go_wp2_with (go_at_call 58;refine HK.out.mono ?_;rintro e w' ⟨rfl,rfl⟩)
  go_end0
  exact⟨_,vR,vH,rfl,HRD.out,Nx.refl _ _ _ _⟩
 ·have hlt:=Rd.comes_lt 0 h0
  have hge:=Rd.next_ge σ 0
  have HT:Hid (σ.take=σ.run (σ.next 0+1 - σ.at')):=Lib.hid (by unfold Rd.take;rw[if_neg h0])
  have hk0:(σ.ahead 0 == 0)=false:=beq_eq_false_iff_ne.2 h0
  rw[HT.out]
  generalize σ.ahead 0=k0 at *
  have hfew:=h.few
  obtain⟨gL,oL,capL,hv,ho,_⟩:=h.toks.shape
  have ho:=ho (by intro e;rw[e] at hlt;simp at hlt)
  subst hv ho
  obtain⟨len,hlen⟩:∃ len,σ.L.length=len:=⟨_,rfl⟩
  obtain⟨i0,hi0⟩:∃ i0,σ.next 0=i0:=⟨_,rfl⟩
  rw[hi0] at HX hlt hge ⊢
  rw[hlen] at hlt hfew HRD ⊢
  have HLN:=Lib.hid hlen
  have HH0:=Lib.hid h0
  clear h h0 hR hH hlen HT hi0
  go_enter Tryz.func32,Tryz.ntmps32
  go_wp2_with (first|(go_at_call 58;refine HK.out.mono ?_;rintro e w' ⟨rfl,rfl⟩)|(go_at_call 86;refine HX.out.mono ?_;rintro e w' ⟨rfl,rfl⟩))
  go_loopw [] (fun wr=>∃ (n:Nat) (vR1 vH1:Value),σ.at'+n≤i0+1∧RdAt wr b (.slice (some ⟨gL,0,none⟩) len capL) vR1 vH1 (σ.run n)∧Nx W b vR vH wr vR1 vH1) (fun wr=>i0+1 - (intOf ((wr.cell? ⟨b,1,none⟩).getD undef)).toNat)
  case atStart=>exact⟨0,vR,vH,by omega,by rw[Rd.run_zero];exact HRD.out,Nx.refl _ _ _ _⟩
  case round=>
   obtain⟨n,vR1,vH1,hn1,hr,hn⟩:=hrel
   have HR:=Lib.hid hr
   have HN:=Lib.hid hn
   obtain⟨p,hp⟩:∃ p,σ.at'+n=p:=⟨_,rfl⟩
   obtain⟨⟨b0,b1,_,_,_,_,_,_,_⟩,hfz⟩:=nine_at hr.cells
   replace b1:wr.cell? ⟨b,1,none⟩=some (.int .i64 (p:Int)):=by rw[← hp];exact b1
   have f1:=hfz 1
   have HP:=Lib.hid hp
   by_cases hlp:p≤i0
   ·have hd:decide ((p:Int)≤(i0:Int))=true:=decide_eq_true (by omega)
    have hd':decide (p≤i0)=true:=decide_eq_true hlp
    have hpl:p<len:=by omega
    have hpT:p<(σ.run n).L.length:=by show p<σ.L.length;rw[HLN.out];exact hpl
    obtain⟨c0,c1,c2⟩:=cells_tk hr.toks.cells p hpT
    rw[Nat.zero_add] at c0 c1 c2
    have hq0:(0:Int)≤(p:Int):=by omega
    have hq1:(p:Int)<(len:Int):=by omega
    obtain⟨t,ht⟩:∃ t,(σ.run n).L[p]=t:=⟨_,rfl⟩
    rw[ht] at c0 c1 c2
    have HTK:=Lib.hid ht
    have HLP:=Lib.hid hlp
    clear ht hp hn hfz hlp
    obtain⟨z,x1,x2⟩:=t
    simp only[] at c0 c1 c2
    have hbz:b<wr.heap.size:=(Array.getElem?_eq_some_iff.1 hr.cells).1
    have hgz:gL<wr.heap.size:=World.block_lt_of_cell? _ _ c0
    have HS:Hid (∀ u,Below wr.heap.size wr u→u.cell? ⟨b,0,none⟩=some (.slice (some ⟨gL,0,none⟩) len capL)∧u.cell? ⟨b,1,none⟩=some (.int .i64 (p:Int))∧u.cell? ⟨gL,p*3,none⟩=some (.int .i64 z)∧u.cell? ⟨gL,p*3+1,none⟩=some (.int .i64 x1)∧u.cell? ⟨gL,p*3+2,none⟩=some (.int .i64 x2)):=Lib.hid (fun u hu=>⟨(hu.cell (p:=⟨b,0,none⟩) hbz).trans b0,(hu.cell (p:=⟨b,1,none⟩) hbz).trans b1,(hu.cell (p:=⟨gL,p*3,none⟩) hgz).trans c0,(hu.cell (p:=⟨gL,p*3+1,none⟩) hgz).trans c1,(hu.cell (p:=⟨gL,p*3+2,none⟩) hgz).trans c2⟩)
    clear hr
    go_wp2_with fail
    go_cut [3] (fun v wx=>v=.pointer (some ⟨wr.heap.size,0,none⟩)∧wx.heap[wr.heap.size]? = some (.cells #[.int .i64 z,.int .i64 x1,.int .i64 x2] 55 (0,0))∧Below wr.heap.size wr wx)
    case first=>
     go_region_held3 (fun W'=>W'.cell? ⟨b,0,none⟩=some (.slice (some ⟨gL,0,none⟩) len capL)∧W'.cell? ⟨b,1,none⟩=some (.int .i64 (p:Int))∧W'.cell? ⟨gL,p*3,none⟩=some (.int .i64 z)∧W'.cell? ⟨gL,p*3+1,none⟩=some (.int .i64 x1)∧W'.cell? ⟨gL,p*3+2,none⟩=some (.int .i64 x2))
      (first|exact HS.out _ (Below.refl _ _).drew|exact HS.out _ ((Below.refl _ _).drew.alloc (Nat.le_refl _) _))
      (fail)
     all_goals(try go_wp2_with fail)
     all_goals go_meet
     all_goals exact⟨rfl,heap_alloc_last _ _,((Below.refl _ _).alloc (Nat.le_refl _) _).drew⟩
    case rest=>
     obtain⟨rfl,hcell,hb⟩:=hcut
     have hrc:=HR.out.below hb
     have y0:wc.cell? ⟨wr.heap.size,0,none⟩=some (.int .i64 z):=by rw[cell_of_row wc _ 0 _ _ _ hcell];rfl
     have y1:wc.cell? ⟨wr.heap.size,1,none⟩=some (.int .i64 x1):=by rw[cell_of_row wc _ 1 _ _ _ hcell];rfl
     have y2:wc.cell? ⟨wr.heap.size,2,none⟩=some (.int .i64 x2):=by rw[cell_of_row wc _ 2 _ _ _ hcell];rfl
     have hnL:n<σ.L.length:=by have:=HP.out;have:=HLN.out;omega
     have hlr:(σ.run n).R.length≤1099511627776:=by
      have:=HHR.out
      simp only[Rd.run,List.length_append,List.length_map,List.length_take,List.length_drop]
      omega
     have hlh:(σ.run n).H.length≤1099511627776:=by
      have:=HHH.out
      simp only[Rd.run,List.length_append,List.length_replicate]
      omega
     have hpu:Calls Tryz.prog 67 #[.pointer (some ⟨b,0,none⟩),.agg #[.int .i64 z,.int .i64 x1,.int .i64 x2,.slice none 0 0],.int .i64 0] wc (Steps wc b (.slice (some ⟨gL,0,none⟩) len capL) vR1 vH1 { σ.run n with R:=(σ.run n).R ++ [leaf ⟨z,x1,x2⟩],H:=(σ.run n).H ++ [0] }):=push_any hrc (leaf ⟨z,x1,x2⟩) 0 hlr hlh
     have HPU:=Lib.hid hpu
     have HB:=Lib.hid hb
     clear hpu hlr hlh hrc hcell hb hnL
     go_wp2_with (go_at_call 67;refine HPU.out.mono ?_;rintro e w3 ⟨v,vR2,vH2,rfl,hr3,hn3⟩;have HR3:=Lib.hid hr3;have HN3:=Lib.hid hn3;obtain⟨⟨_,d1,_,_,_,_,_,_,_⟩,hfz3⟩:=nine_at hr3.cells;replace d1:w3.cell? ⟨b,1,none⟩=some (.int .i64 (p:Int)):=(by rw[← HP.out];exact d1);have f1':=hfz3 1;clear hr3 hn3 hfz3)
     go_roundw
     case rel=>
      have hs:∀ k,k<w3.heap.size→k≠b→(w3.setCell ⟨b,1,none⟩ (.int .i64 ((p:Int)+1))).heap[k]? = w3.heap[k]?:=fun k _ hk=>set_one _ _ _ _ _ hk
      refine⟨n+1,vR2,vH2,by have:=HP.out;have:=HLP.out;omega,?_,HN.out.trans ((Nx.below HB.out).trans (HN3.out.trans (Nx.own rfl rfl rfl (by rw[size_set]) hs)))⟩
      obtain rfl:=HP.out
      have hlT:σ.at'+n<σ.L.length:=by rw[HLN.out];exact hpl
      have htk:σ.L[σ.at'+n]=⟨z,x1,x2⟩:=HTK.out
      rw[Rd.run_succ _ _ hlT,htk]
      refine HR3.out.put hs ?_ rfl rfl rfl (by show σ.at'+(n+1)≤σ.L.length;omega)
      have:=heap_setCell_same w3 b 1 _ _ (.int .i64 (((σ.at'+n:Nat):Int)+1)) HR3.out.cells
      rw[this]
      show _=some (Obj.cells #[_,.int .i64 ((σ.at'+(n+1):Nat):Int),_,_,_,_,_,_,_] _ _)
      rw[show((σ.at'+(n+1):Nat):Int)=((σ.at'+n:Nat):Int)+1 by omega]
      rfl
     case measure=>
      have e1:(w3.setCell ⟨b,1,none⟩ (.int .i64 ((p:Int)+1))).cell? ⟨b,1,none⟩=some (.int .i64 ((p:Int)+1)):=by rw[cell_of_row _ b 1 _ _ _ (heap_setCell_same w3 b 1 _ _ _ HR3.out.cells)];rfl
      rw[e1,b1]
      simp only[Option.getD_some,intOf]
      have:=HLP.out
      omega
   ·have hd:decide ((p:Int)≤(i0:Int))=false:=decide_eq_false (by omega)
    have hd':decide (p≤i0)=false:=decide_eq_false hlp
    have HE:Hid (i0+1 - σ.at'=n):=Lib.hid (by omega)
    clear hr hn hp hlp
    go_wp2_with fail
    go_end0
    exact⟨_,vR1,vH1,rfl,by rw[HE.out];exact HR.out,HN.out⟩
open Go.RowKit
def Rd.none (σ:Rd):Rd:=if σ.failed then σ else{ σ with R:=σ.R ++ [⟨200,σ.here,σ.here,Option.none,0,0⟩],H:=σ.H ++ [0] }
def Rd.expect (σ:Rd) (k:Int):Rd × Bool:=if k≠0∧σ.ahead 0=k then(σ.take,true) else(σ.fail 201,false)
theorem expect_any {W:World} {b:Nat} {vL vR vH:Value} {σ:Rd} (h:RdAt W b vL vR vH σ) (k:Int) (hR:σ.R.length+σ.L.length≤1099511627776) (hH:σ.H.length+σ.L.length≤1099511627776) :
  Calls Tryz.prog 34 #[.pointer (some ⟨b,0,none⟩),.int .i64 k] W (StepsB (σ.expect k).2 W b vL vR vH (σ.expect k).1):=by
 have HK:=Lib.hid (kind_any h)
 have HT:=Lib.hid (take_any h hR hH)
 have HF:=Lib.hid (fail_any h 201)
 have HU:Hid (σ.expect k=if k≠0∧σ.ahead 0=k then(σ.take,true) else(σ.fail 201,false)):=Lib.hid rfl
 clear h hR hH
 generalize σ.ahead 0=k0 at *
 by_cases h0:k=0
 ·rw[if_neg (by rintro⟨e,_⟩;exact e h0)] at HU
  rw[HU.out]
  subst h0
  go_enter Tryz.func34,Tryz.ntmps34
  go_wp2_with (go_at_call 46;refine HF.out.mono ?_;rintro e w' ⟨v,vR',vH',rfl,hr',hn'⟩;have HR':=Lib.hid hr';have HN':=Lib.hid hn';clear hr' hn')
  go_ret
  exact⟨vR',vH',rfl,HR'.out,HN'.out⟩
 ·have hd0:(k == 0)=false:=beq_eq_false_iff_ne.2 h0
  have hd0':(k != 0)=true:=by simp [bne,hd0]
  by_cases h1:k0=k
  ·rw[if_pos ⟨h0,h1⟩] at HU
   rw[HU.out]
   subst h1
   clear h0
   go_enter Tryz.func34,Tryz.ntmps34
   go_wp2_with (first|(go_at_call 58;refine HK.out.mono ?_;rintro e w' ⟨rfl,rfl⟩)|(go_at_call 32;refine HT.out.mono ?_;rintro e w' ⟨v,vR',vH',rfl,hr',hn'⟩;have HR':=Lib.hid hr';have HN':=Lib.hid hn';clear hr' hn'))
   go_ret
   exact⟨vR',vH',rfl,HR'.out,HN'.out⟩
  ·rw[if_neg (by rintro⟨_,e⟩;exact h1 e)] at HU
   rw[HU.out]
   have hd1:(k0 == k)=false:=beq_eq_false_iff_ne.2 h1
   clear h0 h1
   go_enter Tryz.func34,Tryz.ntmps34
   go_wp2_with (first|(go_at_call 58;refine HK.out.mono ?_;rintro e w' ⟨rfl,rfl⟩)|(go_at_call 46;refine HF.out.mono ?_;rintro e w' ⟨v,vR',vH',rfl,hr',hn'⟩;have HR':=Lib.hid hr';have HN':=Lib.hid hn';clear hr' hn'))
   go_ret
   exact⟨vR',vH',rfl,HR'.out,HN'.out⟩
open Go.RowKit
theorem none_any {W:World} {b:Nat} {vL vR vH:Value} {σ:Rd} (h:RdAt W b vL vR vH σ) (hR:σ.R.length≤1099511627776) (hH:σ.H.length≤1099511627776) :
  Calls Tryz.prog 36 #[.pointer (some ⟨b,0,none⟩)] W (Steps W b vL vR vH σ.none):=by
 have HRD:=Lib.hid h
 have HE:=Lib.hid (here_any h)
 have hp:Calls Tryz.prog 67 #[.pointer (some ⟨b,0,Option.none⟩),.agg #[.int .i64 200,.int .i64 σ.here,.int .i64 σ.here,.slice Option.none 0 0],.int .i64 0] W (Steps W b vL vR vH { σ with R:=σ.R ++ [⟨200,σ.here,σ.here,Option.none,0,0⟩],H:=σ.H ++ [0] }):=push_any h ⟨200,σ.here,σ.here,Option.none,0,0⟩ 0 hR hH
 have HP:=Lib.hid hp
 clear hp
 obtain⟨⟨_,_,_,_,_,_,_,_,b8⟩,_⟩:=nine_at h.cells
 have HU:Hid (σ.none=if σ.failed then σ else{ σ with R:=σ.R ++ [⟨200,σ.here,σ.here,Option.none,0,0⟩],H:=σ.H ++ [0] }):=Lib.hid rfl
 clear h hR hH
 cases hf:σ.failed with
 |true=>
  rw[hf] at b8
  rw[hf,if_pos rfl] at HU
  rw[HU.out]
  clear hf
  go_enter Tryz.func36,Tryz.ntmps36
  go_wp2_with fail
  go_end0
  exact⟨_,vR,vH,rfl,HRD.out,Nx.refl _ _ _ _⟩
 |false=>
  rw[hf] at b8
  rw[hf,if_neg (by simp)] at HU
  rw[hf] at HP
  rw[HU.out]
  clear hf
  go_enter Tryz.func36,Tryz.ntmps36
  go_wp2_with (first|(go_at_call 89;refine HE.out.mono ?_;rintro e w' ⟨rfl,rfl⟩)|(go_at_call 67;refine HP.out.mono ?_;rintro e w' ⟨v,vR',vH',rfl,hr',hn'⟩;have HR':=Lib.hid hr';have HN':=Lib.hid hn';clear hr' hn'))
  go_end0
  exact⟨_,vR',vH',rfl,HR'.out,HN'.out⟩
open Go.RowKit
def Rn.zero:Rn:=⟨0,0,0,Option.none,0,0⟩
def headSig:List Rn→Rn
 |[]=>Rn.zero
 |t::r=>if sig t.k then t else headSig r
theorem lastNode_any {W:World} {b:Nat} {vL vR vH:Value} {σ:Rd} (h:RdAt W b vL vR vH σ) (m:Nat) (hfew:σ.R.length≤1099511627776) :
  Calls Tryz.prog 106 #[.pointer (some ⟨b,0,none⟩),.int .i64 (m:Int)] W fun e w'=>e=.returned (headSig (σ.R.drop m)).v∧Below W.heap.size W w':=by
 obtain⟨⟨_,_,b2,_,_,_,_,_,_⟩,_⟩:=nine_at h.cells
 obtain⟨g,o,cap,hv,ho,_⟩:=h.row.shape
 have HO:=Lib.hid ho
 have HM:=Lib.hid h.row
 subst hv
 clear h ho
 generalize σ.R=R at *
 obtain⟨len,hlen⟩:∃ len,R.length=len:=⟨_,rfl⟩
 rw[hlen] at HM b2 hfew
 have HLN:=Lib.hid hlen
 clear hlen
 obtain⟨res,hres⟩:∃ res,headSig (R.drop m)=res:=⟨_,rfl⟩
 have HRES:=Lib.hid hres
 rw[hres]
 clear hres
 go_enter Tryz.func106,Tryz.ntmps106
 go_wp2_with fail
 have hN1:=heap_alloc_last W (.cells #[.int .i64 0,.int .i64 0,.int .i64 0,.slice none 0 0] 43)
 have hb1:Below W.heap.size W (W.alloc (.cells #[.int .i64 0,.int .i64 0,.int .i64 0,.slice none 0 0] 43)):=(Below.refl _ _).alloc (Nat.le_refl _) _
 have hz1:W.heap.size<(W.alloc (.cells #[.int .i64 0,.int .i64 0,.int .i64 0,.slice none 0 0] 43)).heap.size:=by rw[World.size_alloc];omega
 have hbz:=World.block_lt_of_cell? _ _ b2
 replace b2:=(hb1.cell (p:=⟨b,2,none⟩) hbz).trans b2
 have HM1:=Lib.hid (HM.out.below hb1)
 generalize W.alloc (.cells #[.int .i64 0,.int .i64 0,.int .i64 0,.slice none 0 0] 43)=W1 at *
 have HB1:=Lib.hid hb1
 have HN1:=Lib.hid hN1
 obtain⟨B0,hB0⟩:∃ B0,W.heap.size=B0:=⟨_,rfl⟩
 rw[hB0] at HN1 HB1 hz1 ⊢
 have HB0:=Lib.hid hB0
 have d0:W1.cell? ⟨B0,0,none⟩=some (.int .i64 0):=by rw[cell_of_row _ _ 0 _ _ _ HN1.out];rfl
 have d1:W1.cell? ⟨B0,1,none⟩=some (.int .i64 0):=by rw[cell_of_row _ _ 1 _ _ _ HN1.out];rfl
 have d2:W1.cell? ⟨B0,2,none⟩=some (.int .i64 0):=by rw[cell_of_row _ _ 2 _ _ _ HN1.out];rfl
 have d3:W1.cell? ⟨B0,3,none⟩=some (.slice none 0 0):=by rw[cell_of_row _ _ 3 _ _ _ HN1.out];rfl
 have f0:W1.frozen? ⟨B0,0,none⟩=false:=frozen_of_row _ _ 0 _ _ HN1.out
 have f1:W1.frozen? ⟨B0,1,none⟩=false:=frozen_of_row _ _ 1 _ _ HN1.out
 have f2:W1.frozen? ⟨B0,2,none⟩=false:=frozen_of_row _ _ 2 _ _ HN1.out
 have f3:W1.frozen? ⟨B0,3,none⟩=false:=frozen_of_row _ _ 3 _ _ HN1.out
 clear hb1 hN1 HM hB0
 go_loopw [5] (fun p wr=>∃ n:Nat,p=.int .i64 (n:Int)∧headSig (R.drop n)=res∧wr=W1) (fun p _=>len - (intOf p).toNat)
 case atStart=>exact⟨m,rfl,HRES.out,rfl⟩
 case round=>
  obtain⟨n,rfl,hrs,hw⟩:=hrel
  have hw2:=hw.symm
  subst hw2
  have HR:=Lib.hid hrs
  clear hrs hw
  by_cases hlt:n<len
  ·have hltT:n<R.length:=by rw[HLN.out];exact hlt
   have ho:=HO.out (by rintro rfl;simp at hltT)
   subst ho
   obtain⟨c0,c1,c2,c3⟩:=cells_nd HM1.out.cells n hltT
   rw[Nat.zero_add] at c0 c1 c2 c3
   rw[List.drop_eq_getElem_cons hltT,headSig] at HR
   have hq0:(0:Int)≤(n:Int):=by omega
   have hd:decide ((n:Int)<(len:Int))=true:=decide_eq_true (by omega)
   have hd':decide (n<len)=true:=decide_eq_true hlt
   generalize R[n]=t at *
   obtain⟨z,x1,x2,xo,xn,xc⟩:=t
   simp only[] at c0 c1 c2 c3 HR
   clear hltT
   cases hs:sig z with
   |true=>
    rw[hs,if_pos rfl] at HR
    have hd2:decide (10≤z)=true:=hs
    clear hs HRES
    go_wp2_with fail
    refine bodyPost_ret (v:=.agg #[.int .i64 z,.int .i64 x1,.int .i64 x2,.slice xo xn xc]) (results_cell_row Tryz.results106 _ _ B0 43 _ (0,0) _ rfl (heap_setCell_same _ B0 3 _ _ _ (heap_setCell_same _ B0 2 _ _ _ (heap_setCell_same _ B0 1 _ _ _ (heap_setCell_same _ B0 0 _ _ _ HN1.out)))) Tryz.underlying43 rfl (by as_aux_lemma=>kernel_rfl)) rfl ⟨by rw[← HR.out];rfl,?_⟩
    rw[HB0.out];exact(((HB1.out.setCell (p:=⟨B0,0,none⟩) (Nat.le_refl _) _).setCell (p:=⟨B0,1,none⟩) (Nat.le_refl _) _).setCell (p:=⟨B0,2,none⟩) (Nat.le_refl _) _).setCell (p:=⟨B0,3,none⟩) (Nat.le_refl _) _
   |false=>
    rw[hs,if_neg (by simp)] at HR
    have hd2:decide (10≤z)=false:=hs
    clear hs
    go_wp2_with fail
    go_roundw
    case rel=>exact⟨n+1,by go_num,HR.out,by trivial⟩
    case measure=>simp [intOf];omega
  ·have hd:decide ((n:Int)<(len:Int))=false:=decide_eq_false (by omega)
   have hd':decide (n<len)=false:=decide_eq_false hlt
   rw[List.drop_of_length_le (by rw[HLN.out];omega),headSig] at HR
   clear HRES
   go_wp2_with fail
   refine bodyPost_ret (v:=.agg #[.int .i64 0,.int .i64 0,.int .i64 0,.slice none 0 0]) (results_cell_row Tryz.results106 _ _ B0 43 _ (0,0) _ rfl (heap_setCell_same _ B0 3 _ _ _ (heap_setCell_same _ B0 2 _ _ _ (heap_setCell_same _ B0 1 _ _ _ (heap_setCell_same _ B0 0 _ _ _ HN1.out)))) Tryz.underlying43 rfl (by as_aux_lemma=>kernel_rfl)) rfl ⟨by rw[← HR.out];rfl,?_⟩
   rw[HB0.out];exact(((HB1.out.setCell (p:=⟨B0,0,none⟩) (Nat.le_refl _) _).setCell (p:=⟨B0,1,none⟩) (Nat.le_refl _) _).setCell (p:=⟨B0,2,none⟩) (Nat.le_refl _) _).setCell (p:=⟨B0,3,none⟩) (Nat.le_refl _) _
open Go.RowKit
def headPart:List Rn→Rn
 |[]=>Rn.zero
 |t::r=>if decide (200≤t.k) then t else headPart r
theorem part_any {W:World} (N:Rn) (R:List Rn) (h:Row nd W (.slice N.o N.n N.c) R) (hfew:R.length≤1099511627776) :
  Calls Tryz.prog 181 #[N.v] W fun e w'=>e=.returned (headPart R).v∧Below W.heap.size W w':=by
 obtain⟨k0,k1,k2,o,len,cap⟩:=N
 rw[show(Rn.mk k0 k1 k2 o len cap).v=.agg #[.int .i64 k0,.int .i64 k1,.int .i64 k2,.slice o len cap] from rfl]
 obtain⟨g,off,o',cap',hc,hv,ho,hcell⟩:=h.lt
 simp only[Value.slice.injEq] at hv
 obtain⟨rfl,hlen,rfl⟩:=hv
 have HO:=Lib.hid ho
 have HC:=Lib.hid hcell
 have HLN:=Lib.hid hlen
 rw[← hlen] at hc hfew
 obtain⟨res,hres⟩:∃ res,headPart R=res:=⟨_,rfl⟩
 have HRES:=Lib.hid hres
 rw[hres]
 clear hres h ho hcell hlen
 go_enter Tryz.func181,Tryz.ntmps181
 go_wp2_with fail
 have hP:=heap_alloc_last W (.cells #[.int .i64 k0,.int .i64 k1,.int .i64 k2,.slice o len cap] 43)
 have hN1:=heap_alloc_last (W.alloc (.cells #[.int .i64 k0,.int .i64 k1,.int .i64 k2,.slice o len cap] 43)) (.cells #[.int .i64 0,.int .i64 0,.int .i64 0,.slice none 0 0] 43)
 have hz0:(W.alloc (.cells #[.int .i64 k0,.int .i64 k1,.int .i64 k2,.slice o len cap] 43)).heap.size=W.heap.size+1:=World.size_alloc _ _
 have hb1:Below W.heap.size W ((W.alloc (.cells #[.int .i64 k0,.int .i64 k1,.int .i64 k2,.slice o len cap] 43)).alloc (.cells #[.int .i64 0,.int .i64 0,.int .i64 0,.slice none 0 0] 43)):=((Below.refl _ _).alloc (Nat.le_refl _) _).alloc (by rw[hz0];omega) _
 have hz1:((W.alloc (.cells #[.int .i64 k0,.int .i64 k1,.int .i64 k2,.slice o len cap] 43)).alloc (.cells #[.int .i64 0,.int .i64 0,.int .i64 0,.slice none 0 0] 43)).heap.size=W.heap.size+2:=by rw[World.size_alloc,hz0]
 have hP1:((W.alloc (.cells #[.int .i64 k0,.int .i64 k1,.int .i64 k2,.slice o len cap] 43)).alloc (.cells #[.int .i64 0,.int .i64 0,.int .i64 0,.slice none 0 0] 43)).heap[W.heap.size]? = some (.cells #[.int .i64 k0,.int .i64 k1,.int .i64 k2,.slice o len cap] 43 (0,0)):=(Below.heap_alloc _ _ _ (by rw[hz0];omega)).trans hP
 rw[hz0] at hN1
 clear hP hz0
 generalize (W.alloc (.cells #[.int .i64 k0,.int .i64 k1,.int .i64 k2,.slice o len cap] 43)).alloc (.cells #[.int .i64 0,.int .i64 0,.int .i64 0,.slice none 0 0] 43)=W1 at *
 have HB1:=Lib.hid hb1
 have HN1:=Lib.hid hN1
 have p3:W1.cell? ⟨W.heap.size,3,none⟩=some (.slice o len cap):=by rw[cell_of_row _ _ 3 _ _ _ hP1];rfl
 obtain⟨B0,hB0⟩:∃ B0,W.heap.size=B0:=⟨_,rfl⟩
 obtain⟨B1,hB1⟩:∃ B1,W.heap.size+1=B1:=⟨_,rfl⟩
 have HB1e:=Lib.hid hB1
 have hBB:B0<B1:=by omega
 have hBB':(B0 == B1)=false:=beq_eq_false_iff_ne.2 (by omega)
 have hlt1:B1<W1.heap.size:=by omega
 rw[hB1] at HN1
 rw[hB0] at p3
 rw[hB1,hB0]
 have f0:W1.frozen? ⟨B1,0,none⟩=false:=frozen_of_row _ _ 0 _ _ HN1.out
 have f1:W1.frozen? ⟨B1,1,none⟩=false:=frozen_of_row _ _ 1 _ _ HN1.out
 have f2:W1.frozen? ⟨B1,2,none⟩=false:=frozen_of_row _ _ 2 _ _ HN1.out
 have f3:W1.frozen? ⟨B1,3,none⟩=false:=frozen_of_row _ _ 3 _ _ HN1.out
 have d0:W1.cell? ⟨B1,0,none⟩=some (.int .i64 0):=by rw[cell_of_row _ _ 0 _ _ _ HN1.out];rfl
 have d1:W1.cell? ⟨B1,1,none⟩=some (.int .i64 0):=by rw[cell_of_row _ _ 1 _ _ _ HN1.out];rfl
 have d2:W1.cell? ⟨B1,2,none⟩=some (.int .i64 0):=by rw[cell_of_row _ _ 2 _ _ _ HN1.out];rfl
 have d3:W1.cell? ⟨B1,3,none⟩=some (.slice none 0 0):=by rw[cell_of_row _ _ 3 _ _ _ HN1.out];rfl
 clear hb1 hN1 hP1 hB0 hB1 hz1
 go_loopw [3] (fun p wr=>∃ n:Nat,n≤len∧p=.int .i64 (n:Int)∧headPart (R.drop n)=res∧wr=W1) (fun p _=>len - (intOf p).toNat)
 case atStart=>exact⟨0,Nat.zero_le _,rfl,HRES.out,rfl⟩
 case round=>
  obtain⟨n,hnl,rfl,hrs,hw⟩:=hrel
  have hw2:=hw.symm
  subst hw2
  have HR:=Lib.hid hrs
  clear hrs hw
  by_cases hlt:n<len
  ·have hltT:n<R.length:=by rw[← HLN.out];exact hlt
   obtain⟨ho,hgz⟩:=HO.out (by rintro rfl;simp at hltT)
   subst ho
   obtain⟨c0,c1,c2,c3⟩:=cells_nd (HC.out.below HB1.out) n hltT
   rw[List.drop_eq_getElem_cons hltT,headPart] at HR
   have hq0:(0:Int)≤(n:Int):=by omega
   have hd:decide ((n:Int)<(len:Int))=true:=decide_eq_true (by omega)
   have hd':decide (n<len)=true:=decide_eq_true hlt
   generalize R[n]=t at *
   obtain⟨z,x1,x2,xo,xn,xc⟩:=t
   simp only[] at c0 c1 c2 c3 HR
   clear hltT
   cases hs:decide (200≤z) with
   |true=>
    rw[hs,if_pos rfl] at HR
    clear HRES
    go_wp2_with fail
    refine bodyPost_ret (v:=.agg #[.int .i64 z,.int .i64 x1,.int .i64 x2,.slice xo xn xc]) (results_cell_row Tryz.results181 _ _ B1 43 _ (0,0) _ rfl (heap_setCell_same _ B1 3 _ _ _ (heap_setCell_same _ B1 2 _ _ _ (heap_setCell_same _ B1 1 _ _ _ (heap_setCell_same _ B1 0 _ _ _ HN1.out)))) Tryz.underlying43 rfl (by as_aux_lemma=>kernel_rfl)) rfl ⟨by rw[← HR.out];rfl,?_⟩
    exact(((HB1.out.setCell (p:=⟨B1,0,none⟩) (by show W.heap.size≤B1;have:=HB1e.out;omega) _).setCell (p:=⟨B1,1,none⟩) (by show W.heap.size≤B1;have:=HB1e.out;omega) _).setCell (p:=⟨B1,2,none⟩) (by show W.heap.size≤B1;have:=HB1e.out;omega) _).setCell (p:=⟨B1,3,none⟩) (by show W.heap.size≤B1;have:=HB1e.out;omega) _
   |false=>
    rw[hs,if_neg (by simp)] at HR
    go_wp2_with fail
    go_roundw
    case rel=>exact⟨n+1,by omega,by go_num,HR.out,by trivial⟩
    case measure=>simp [intOf];omega
  ·have hd:decide ((n:Int)<(len:Int))=false:=decide_eq_false (by omega)
   have hd':decide (n<len)=false:=decide_eq_false hlt
   rw[List.drop_of_length_le (by rw[← HLN.out];omega),headPart] at HR
   clear HRES
   go_wp2_with fail
   refine bodyPost_ret (v:=.agg #[.int .i64 0,.int .i64 0,.int .i64 0,.slice none 0 0]) (results_cell_row Tryz.results181 _ _ B1 43 _ (0,0) _ rfl (heap_setCell_same _ B1 3 _ _ _ (heap_setCell_same _ B1 2 _ _ _ (heap_setCell_same _ B1 1 _ _ _ (heap_setCell_same _ B1 0 _ _ _ HN1.out)))) Tryz.underlying43 rfl (by as_aux_lemma=>kernel_rfl)) rfl ⟨by rw[← HR.out];rfl,?_⟩
   exact(((HB1.out.setCell (p:=⟨B1,0,none⟩) (by show W.heap.size≤B1;have:=HB1e.out;omega) _).setCell (p:=⟨B1,1,none⟩) (by show W.heap.size≤B1;have:=HB1e.out;omega) _).setCell (p:=⟨B1,2,none⟩) (by show W.heap.size≤B1;have:=HB1e.out;omega) _).setCell (p:=⟨B1,3,none⟩) (by show W.heap.size≤B1;have:=HB1e.out;omega) _
end Go.Proofs.YtmelbeefjgjdhaaGreat.rd
