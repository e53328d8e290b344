/-
  Texts put together: Kj, Kd, Kk, Ke, Kl, Jf, Jg, Jh, Ji.
-/
import Derived.Test.YtcekbbkidipbnaaGreatL17
import Derived.Test.YtcekbbkidipbnaaGreatL2
set_option maxRecDepth 100000
set_option maxHeartbeats 8000000
namespace Go.Proofs.YtcekbbkidipbnaaGreat.rd
open Go.RowKit
structure Dn (w3 wr:World) (vr:Value) (l:List Tree) (q:Nat) (R':List Rn) (D':Nat→Prop):Prop where
 below:Below w3.heap.size w3 wr
 row:Mine nd wr w3.heap.size vr R'
 len:R'.length=q
 ties:Ties wr D' (l.take q) R'
 dead:∀ h,D' h→w3.heap.size≤h∧vr.ownBlock≠some h∧∃ cur fz,wr.heap[h]? = some (.cells cur nd.e fz)
theorem Dn.push {w3 wr w9:World} {vr:Value} {l:List Tree} {q:Nat} {R':List Rn} {D' D2:Nat→Prop} {n:Rn} (h:Dn w3 wr vr l q R' D') (hb:Below wr.heap.size wr w9) (hq:q<l.length) (hl:l.length≤1099511627776) (hT:Tie w9 D2 l[q] n) (hD2:∀ g,D2 g→wr.heap.size≤g∧∃ cur fz,w9.heap[g]? = some (.cells cur nd.e fz)) :
  ∃ v' wA,(∀ ty,(Builtin.append_ #[35,35] ty #[vr,.slice (some ⟨w9.heap.size,0,none⟩) 1 1]).run Tryz.prog (w9.alloc (.cells #[.int .i64 n.k,.int .i64 n.i,.int .i64 n.j,.slice n.o n.n n.c] 43))=.ok v' wA)∧(∃ o l' c,v'=.slice o l' c)∧Dn w3 wA v' l (q+1) (R' ++ [n]) (fun h=>D' h∨D2 h):=by
 have hu:Below w9.heap.size w9 (w9.alloc (.cells (nd.c n).toArray nd.e)):=(Below.refl _ _).alloc (Nat.le_refl _) _
 have hz:(w9.alloc (.cells (nd.c n).toArray nd.e)).heap.size=w9.heap.size+1:=World.size_alloc _ _
 have hbu:Below wr.heap.size wr (w9.alloc (.cells (nd.c n).toArray nd.e)):=hb.trans (hu.mono hb.size)
 have hle:=h.len
 have hs3:=h.below.size
 have hs9:=hb.size
 obtain⟨g,cap,wA,h3,h4,h5,h6⟩:=app_lies (F:=nd) (x:=n) (h.row.below hbu) (heap_alloc_last w9 _) (by omega) (by simp [maxLen];omega) (by show(R'.length+1)*48≤_;omega)
 have hgw:w3.heap.size≤g:=by
  rcases h6 with h6|h6
  ·exact(World.ownsRow.lt h.row g h6).1
  ·rw[h6];omega
 have hold:∀ k o,(w9.alloc (.cells (nd.c n).toArray nd.e)).heap[k]? = some o→vr.ownBlock≠some k→wA.heap[k]? = some o:=fun k o hk hv=>(h5.block k (Array.getElem?_eq_some_iff.1 hk).1 (fun e=>hv e.symm)).trans hk
 have hvl:∀ k,vr.ownBlock=some k→w3.heap.size≤k∧k<wr.heap.size:=fun k hk=>World.ownsRow.lt h.row k hk
 have hdd:∀ k,D' k→wA.heap[k]? = wr.heap[k]?:=fun k hk=>by
  obtain⟨a,b,cur,fz,hc⟩:=h.dead k hk
  rw[hc]
  exact hold k _ ((hbu.block k (Array.getElem?_eq_some_iff.1 hc).1).trans hc) b
 have hd2:∀ k,D2 k→wA.heap[k]? = w9.heap[k]?:=fun k hk=>by
  obtain⟨a,cur,fz,hc⟩:=hD2 k hk
  rw[hc]
  exact hold k _ ((hu.block k (Array.getElem?_eq_some_iff.1 hc).1).trans hc) (fun e=>by have:=hvl k e;omega)
 have hbel:Below w3.heap.size w3 wA:=(h.below.trans (hbu.mono hs3)).grown h5 (by omega) (fun k hk=>(hvl k hk).1)
 refine⟨_,wA,h3,⟨_,_,_,rfl⟩,⟨hbel,?_,by rw[List.length_append,hle];rfl,?_,fun k hk=>?_⟩⟩
 ·exact h4
 ·rw[List.take_add_one,List.getElem?_eq_getElem hq]
  exact Ties.append (Ties.keep hdd (fun _ h=>.inl h) _ _ h.ties) (Ties.cons (Tie.keep hd2 (fun _ h=>.inr h) _ _ hT) Ties.nil)
 ·rcases hk with hk|hk
  ·obtain⟨a,b,cur,fz,hc⟩:=h.dead k hk
   refine⟨a,fun e=>?_,cur,fz,by rw[hdd k hk];exact hc⟩
   simp only[Value.ownBlock,Option.some.injEq] at e
   subst e
   rcases h6 with h6|h6
   ·exact b h6
   ·have:=(Array.getElem?_eq_some_iff.1 hc).1
    omega
  ·obtain⟨a,cur,fz,hc⟩:=hD2 k hk
   refine⟨by omega,fun e=>?_,cur,fz,by rw[hd2 k hk];exact hc⟩
   simp only[Value.ownBlock,Option.some.injEq] at e
   subst e
   have hkl:=(Array.getElem?_eq_some_iff.1 hc).1
   rcases h6 with h6|h6
   ·have:=hvl _ h6;omega
   ·omega
theorem cDone_ok {W:World} {b:Nat} {vL vS vR:Value} {σ:Rc} (h:RcAt W b vL vS vR σ) (h0:σ.ahead 0=0) (hf:σ.failed=false) (hfew:σ.R.length+σ.L.length≤1099511627776) (l:List Tree) (D:Nat→Prop) (hT:∀ w3 vR3,Nx W b vR (.slice none 0 0) w3 vR3 (.slice none 0 0)→Ties w3 D l ((Rl σ σ.at' (σ.L.length - σ.at')).map Bn.rn)∧OfNodes w3 D) :
  Calls Tryz.prog 15 #[.pointer (some ⟨b,0,none⟩)] W fun e w'=>∃ (v:Value) (R':List Rn) (D':Nat→Prop) (vR':Value),e=.returned (.tuple #[v,.agg #[.int .i64 0,.int .i64 0,.int .i64 0],.bool true])∧Mine nd w' 0 v R'∧Ties w' D' l R'∧OfNodes w' D'∧Nx W b vR (.slice none 0 0) w' vR' (.slice none 0 0):=by
 have HT:=Lib.hid hT
 clear hT
 have hB1:Below W.heap.size W (W.alloc (.cells #[.int .i64 0,.int .i64 0,.int .i64 0] 37)):=(Below.refl _ _).alloc (Nat.le_refl _) _
 have hX:(W.alloc (.cells #[.int .i64 0,.int .i64 0,.int .i64 0] 37)).heap[W.heap.size]? = some (.cells #[.int .i64 0,.int .i64 0,.int .i64 0] 37 (0,0)):=heap_alloc_last _ _
 obtain⟨W1,hW1⟩:∃ W1,W.alloc (.cells #[.int .i64 0,.int .i64 0,.int .i64 0] 37)=W1:=⟨_,rfl⟩
 rw[hW1] at hB1 hX
 replace h:=h.below hB1
 have HK:=Lib.hid (ckind_any h)
 rw[h0] at HK
 have HW1:=Lib.hid hW1
 have HH:=Lib.hid (And.intro h (And.intro hB1 hX))
 have hread:=h.read
 have hlf:=h.few
 clear h hB1 hX hW1
 go_enter Tryz.func15,Tryz.ntmps15
 go_wp2_with fail
 rw[HW1.out]
 go_at_call 57
 refine HK.out.mono ?_
 rintro e w2 ⟨rfl,hb2⟩
 obtain⟨h,hB1,hX⟩:=HH.out
 have h2:=h.below hb2
 have hX2:=(hb2.block _ (Array.getElem?_eq_some_iff.1 hX).1).trans hX
 have hbx:b≠W.heap.size:=by rintro rfl;rw[h.cells] at hX;simp only[Option.some.injEq,Obj.cells.injEq] at hX;exact absurd hX.2.1 (by decide)
 have hbR:=h.row.ne hX (by decide)
 obtain⟨⟨b0,_,_,_,_,_,_,_,_,b9⟩,_⟩:=ten_at h2.cells
 rw[hf] at b9
 obtain⟨gL,oL,cL,hvL,_,_⟩:=h2.toks.shape
 subst hvL
 have HRT:=Lib.hid (creadTo_any h2.t (σ.L.length - σ.at') (by omega) hfew)
 rw[show σ.at'+(σ.L.length - σ.at')=σ.L.length by omega] at HRT
 have HX2:=Lib.hid (And.intro hX2 (And.intro hbx (And.intro hbR (hB1.trans (hb2.mono hB1.size)))))
 clear h hB1 hX hX2 hbx hbR hb2 h2
 go_wp2_with fail
 go_at_call 65
 refine HRT.out.mono ?_
 rintro e w3 ⟨v3,vR3,rfl,h3,hn3⟩
 obtain⟨⟨_,_,_,_,b4,_⟩,_⟩:=ten_at h3.cells
 obtain⟨gR,oR,cR,hvR,hoR,_⟩:=h3.row.shape
 subst hvR
 have hnW:=(Nx.below HX2.out.2.2.2:Nx W b vR (.slice none 0 0) w2 vR (.slice none 0 0)).trans hn3
 obtain⟨htie,hof⟩:=HT.out _ _ hnW
 have hX3:w3.heap[W.heap.size]? = some (.cells #[.int .i64 0,.int .i64 0,.int .i64 0] 37 (0,0)):=by
  obtain⟨hX2,hbx,hbR,_⟩:=HX2.out
  exact(hn3.block _ (Array.getElem?_eq_some_iff.1 hX2).1 (fun e=>hbx e.symm) hbR (by simp [Value.ownBlock])).trans hX2
 have hcap:(Rl σ σ.at' (σ.L.length - σ.at')).length≤1099511627776:=by
  rw[Rl,List.length_append,List.length_map,List.length_take,List.length_drop]
  omega
 have hll:(Rl σ σ.at' (σ.L.length - σ.at')).length=l.length:=by
  have:=htie.length
  rw[List.length_map] at this
  exact this
 have hrow:Mine bt w3 0 (.slice oR (Rl σ σ.at' (σ.L.length - σ.at')).length cR) (Rl σ σ.at' (σ.L.length - σ.at')):=h3.row
 obtain⟨T,hTT⟩:∃ T,Rl σ σ.at' (σ.L.length - σ.at')=T:=⟨_,rfl⟩
 replace hoR:T≠[]→oR=some ⟨gR,0,none⟩:=by rw[← hTT];exact hoR
 replace b4:w3.cell? ⟨b,4,none⟩=some (.slice oR T.length cR):=by rw[← hTT];exact b4
 rw[hTT] at htie hcap hll hrow
 obtain⟨len,hlen⟩:∃ len,T.length=len:=⟨_,rfl⟩
 rw[hlen] at b4 hcap hll
 have H3:=Lib.hid (And.intro hrow (And.intro hnW (And.intro htie (And.intro hof (And.intro hX3 hoR)))))
 have HLL:=Lib.hid (And.intro hlen hll)
 clear h3 hn3 hnW htie hof hX3 hoR hrow hlen hTT hll
 go_wp2_with fail
 go_loopw [5,33] (fun p5 pv wr=>∃ (q:Nat) (R':List Rn) (D':Nat→Prop),q≤len∧pv=.int .i64 (q:Int)∧Dn w3 wr p5 l q R' D') (fun _ pv _=>len - (intOf pv).toNat)
 case atStart=>exact⟨0,[],fun _=>False,Nat.zero_le _,rfl,Below.refl _ _,Mine.nil _ _,rfl,Ties.nil,fun h hd=>hd.elim⟩
 case round=>
  obtain⟨q,R',D',hql,rfl,hdn⟩:=hrel
  by_cases hlt:q<len
  ·have hqT:q<T.length:=by rw[HLL.out.1];exact hlt
   have hql2:q<l.length:=by rw[← HLL.out.2];exact hlt
   obtain rfl:=H3.out.2.2.2.2.2 (by intro e;rw[e] at hqT;simp at hqT)
   obtain⟨a0,a1,a2,a3,a4⟩:=cells_bt H3.out.1.cells q hqT
   have hgz:gR<w3.heap.size:=H3.out.1.lt gR rfl
   have hb:=hdn.below
   have c0:=(hb.cell (p:=⟨gR,0+q*5,none⟩) hgz).trans a0
   have c1:=(hb.cell (p:=⟨gR,0+q*5+1,none⟩) hgz).trans a1
   have c2:=(hb.cell (p:=⟨gR,0+q*5+2,none⟩) hgz).trans a2
   have c3:=(hb.cell (p:=⟨gR,0+q*5+3,none⟩) hgz).trans a3
   have c4:=(hb.cell (p:=⟨gR,0+q*5+4,none⟩) hgz).trans a4
   have htq:Tie w3 D l[q] T[q].rn:=by
    have:=ties_get' H3.out.2.2.1 hql2 (by rw[List.length_map];exact hqT)
    rw[List.getElem_map] at this
    exact this
   obtain⟨⟨mk,mi,mj,mo,mn,mc,mh⟩,hnode⟩:∃ n,T[q]=n:=⟨_,rfl⟩
   rw[hnode] at c0 c1 c2 c3 c4 htq
   simp only[Nat.zero_add] at c0 c1 c2 c3 c4
   have HCALL:Hid (∀ u,Below wr.heap.size wr u→Calls Tryz.prog 66 #[.agg #[.int .i64 mk,.int .i64 mi,.int .i64 mj,.slice mo mn mc]] u fun e w'=>∃ (n':Rn) (D':Nat→Prop),e=.returned n'.v∧Below u.heap.size u w'∧Tie w' D' l[q] n'∧∀ g,D' g→u.heap.size≤g∧∃ cur fz,w'.heap[g]? = some (.cells cur nd.e fz)):=Lib.hid (fun u hu=>by
    have hbu:Below w3.heap.size w3 u:=hb.trans (hu.mono hb.size)
    exact copied_t l[q] u D ⟨mk,mi,mj,mo,mn,mc⟩ (htq.below H3.out.2.2.2.1 hbu) (H3.out.2.2.2.1.below hbu))
   have HDN:=Lib.hid hdn
   have hal:Below wr.heap.size wr (wr.alloc (.cells #[.int .i64 mk,.int .i64 mi,.int .i64 mj,.slice mo mn mc,.int .i64 mh] 73)):=(Below.refl _ _).alloc (Nat.le_refl _) _
   have hHAL:=Lib.hid hal
   have hq0:(0:Int)≤(q:Int):=by omega
   have hww:(q:Int)+1≤1099511627777:=by omega
   have hd:decide ((q:Int)<(len:Int))=true:=decide_eq_true (by omega)
   have hd':decide (q<len)=true:=decide_eq_true hlt
   have hl40:l.length≤1099511627776:=by rw[← HLL.out.2];exact hcap
   clear a0 a1 a2 a3 a4 hb htq hnode hdn hal
   go_wp2_with fail
   go_at_call 66
   refine(HCALL.out _ hHAL.out).mono ?_
   rintro e w9 ⟨⟨nk,ni,nj,no,nn,nc⟩,D2,rfl,hb9,hT9,hD9⟩
   have hs9:=hHAL.out.size
   obtain⟨v',wA,hrun,⟨o',l',c',rfl⟩,hdn'⟩:=HDN.out.push (hHAL.out.trans (hb9.mono hs9)) hql2 hl40 hT9 (fun g hg=>⟨Nat.le_trans hs9 (hD9 g hg).1,(hD9 g hg).2⟩)
   have HRUN:=Lib.hid hrun
   have HDN2:=Lib.hid hdn'
   clear hrun hdn' hT9 hD9 hb9
   dsimp only [Rn.v]
   go_wp2_with (at_builtin;refine Lib.wpList_append_run _ rfl _ _ _ _ rfl _ _ rfl rfl _ _ (HRUN.out _) ?_)
   go_roundw
   case rel=>exact⟨q+1,_,_,by omega,by go_num,HDN2.out⟩
   case measure=>simp [intOf];omega
  ·have hd:decide ((q:Int)<(len:Int))=false:=decide_eq_false (by omega)
   have hd':decide (q<len)=false:=decide_eq_false hlt
   have hX4:=(hdn.below.block _ (Array.getElem?_eq_some_iff.1 H3.out.2.2.2.2.1).1).trans H3.out.2.2.2.2.1
   obtain⟨⟨x0,x1,x2⟩,fx⟩:=three_at hX4
   have z0:=fx 0
   have z1:=fx 1
   have z2:=fx 2
   have HXX:=Lib.hid hX4
   have HDN:=Lib.hid hdn
   clear hdn hX4 fx
   go_wp2_with fail
   try simp only[Exit.inBlock,Exit.then]
   have hbox:(((wr.setCell ⟨W.heap.size,0,none⟩ (.int .i64 0)).setCell ⟨W.heap.size,1,none⟩ (.int .i64 0)).setCell ⟨W.heap.size,2,none⟩ (.int .i64 0)).heap[W.heap.size]? = some (.cells #[.int .i64 0,.int .i64 0,.int .i64 0] 37 (0,0)):=heap_setCell_same _ _ 2 _ _ _ (heap_setCell_same _ _ 1 _ _ _ (heap_setCell_same _ _ 0 _ _ _ HXX.out))
   refine bodyPost_ret (results_mix rfl _ _ W.heap.size 37 _ (0,0) _ rfl hbox Tryz.underlying37 rfl (by as_aux_lemma=>kernel_rfl)) rfl ?_
   have hdn:=HDN.out
   have hs:∀ k,k≠W.heap.size→(((wr.setCell ⟨W.heap.size,0,none⟩ (.int .i64 0)).setCell ⟨W.heap.size,1,none⟩ (.int .i64 0)).setCell ⟨W.heap.size,2,none⟩ (.int .i64 0)).heap[k]? = wr.heap[k]?:=three_set _ _ _ _ _
   have hz:(((wr.setCell ⟨W.heap.size,0,none⟩ (.int .i64 0)).setCell ⟨W.heap.size,1,none⟩ (.int .i64 0)).setCell ⟨W.heap.size,2,none⟩ (.int .i64 0)).heap.size=wr.heap.size:=by rw[size_set,size_set,size_set]
   have hX3:=(Array.getElem?_eq_some_iff.1 H3.out.2.2.2.2.1).1
   have hnn:=H3.out.2.1.trans (Nx.below hdn.below)
   have htk:l.take q=l:=List.take_of_length_le (by have:=HLL.out.2;omega)
   have hti:=hdn.ties
   rw[htk] at hti
   refine⟨_,R',D',_,rfl,(hdn.row.mono (Nat.zero_le _)).keep (fun k hk _=>hs k (fun e=>by have:=(World.ownsRow.lt hdn.row k hk).1;omega)),Ties.keep (fun g hg=>hs g (by have:=(hdn.dead g hg).1;omega)) (fun _ h=>h) _ _ hti,fun g hg=>?_,⟨hnn.os,hnn.tape,hnn.output,by rw[hz];exact hnn.size,fun k hk a1 a2 a3=>(hs k (by omega)).trans (hnn.block k hk a1 a2 a3),hnn.newR,hnn.newH⟩⟩
   obtain⟨a,_,cur,fz,hc⟩:=hdn.dead g hg
   exact⟨cur,fz,(hs g (by omega)).trans hc⟩
open Go.RowKit
open Go.RowKit
structure Kept (C:Keep) (w:World):Prop where
 os:w.os=C.W.os
 tape:w.tape=C.W.tape
 output:w.output=C.W.output
 size:C.W.heap.size≤w.heap.size
 kept:∀ k,C.K k→w.heap[k]? = C.W.heap[k]?
theorem Own.keeps {C:Keep} {w:World} {b:Nat} {vR vH:Value} {D:Nat→Prop} (h:Own C w b vR vH D):Kept C w:=⟨h.os,h.tape,h.output,h.size,fun k hk=>(h.kept k hk).2.2.2.2⟩
theorem cdone_at {C:Kc} {w:World} {b:Nat} {x y:Res} (h:Hid (CAt C w b x)) (hy:Hid (rDone x=some y)):Calls Tryz.prog 15 #[.pointer (some ⟨b,0,none⟩)] w fun e w'=>Kept C.k w' ∧
  ((∃ d0 d1 d2,y=.fail d0 d1 d2∧e=.returned (tells (.slice none 0 0) (d0,d1,d2) false))∨(∃ t v R D,y=.ok t∧e=.returned (tells v (0,0,0) true)∧Mine nd w' 0 v R∧Ties w' D t.R R∧OfNodes w' D∧t.R.length≤549755813888)):=by
 obtain⟨vL,vS,vR,σ,D,hr,ho,hi⟩:=h.out
 have hfw:=c_few hi
 have hy:=hy.out
 cases x with
 |fail d0 d1 d2=>
  obtain rfl:=Option.some.inj (show some (Res.fail d0 d1 d2)=some y from hy)
  obtain⟨i1,i2,i3,i4,i5⟩:=hi
  refine(cDone_bad hr i1).mono ?_
  rintro e w' ⟨rfl,hb⟩
  exact⟨(ho.step (Nx.below hb)).keeps,.inl ⟨d0,d1,d2,rfl,by rw[i2,i3,i4];rfl⟩⟩
 |ok s=>
  have hi0:=hi
  obtain⟨i1,i2,i3,i4,i5,i6,i7,i8,i9,i10⟩:=hi
  have ha:σ.ahead 0=s.ahead 0:=c_ahead hi0 0
  have hy:chk (if s.ahead 0=0 then .ok (s.run (s.L.length - s.at')) else s.fail 201)=some y:=hy
  by_cases h0:s.ahead 0=0
  ·rw[if_pos h0] at hy
   obtain⟨rfl,hz⟩:=chk_ok hy
   refine(cDone_ok hr (ha.trans h0) i1 (by omega) (s.run (s.L.length - s.at')).R D (fun w3 vR3 hn=>?_)).mono ?_
   ·refine⟨?_,fun g hg=>((ho.step hn).dead g hg).2.2.2.2⟩
    show Ties w3 D (s.R ++ _) _
    rw[Rl,List.map_append,leafB_rn,i2,i3]
    exact(ho.ties hn i4).append (ties_leaves _ _ _)
   ·rintro e w' ⟨v,R',D',vR',rfl,hm,ht,hD,hn⟩
    exact⟨(ho.step hn).keeps,.inr ⟨_,v,R',D',rfl,rfl,hm,ht,hD,by omega⟩⟩
  ·rw[if_neg h0] at hy
   refine(cDone_left hr i1 (by rw[ha];exact h0)).mono ?_
   rintro e w' ⟨vR',rfl,hn⟩
   have e':=chk_fail hy
   subst e'
   obtain⟨j1,j2,j3,j4,_⟩:=cfail_is hi0 w' 201
   exact⟨(ho.step hn).keeps,.inl ⟨_,_,_,rfl,by rw[j2,j3,j4];rfl⟩⟩
open Go.RowKit
structure Made (w W:World) (b:Nat) (vL vS:Value) (T P:List Tk):Prop where
 below:Below w.heap.size w W
 cells:W.heap[b]? = some (.cells #[vL,vS,.int .i64 0,.int .i64 0,.slice none 0 0,.int .i64 0,.int .i64 0,.int .i64 0,.int .i64 0,.bool false] 61 (0,0))
 base:w.heap.size≤b
 toks:Mine tk W w.heap.size vL T
 sigs:Mine it W w.heap.size vS (sigP 0 P)
theorem Made.more {w W W':World} {b:Nat} {vL vS:Value} {T P:List Tk} (h:Made w W b vL vS T P) (hb:Below W.heap.size W W'):Made w W' b vL vS T P:=
 ⟨h.below.trans (hb.mono h.below.size),(hb.block b (Array.getElem?_eq_some_iff.1 h.cells).1).trans h.cells,h.base,h.toks.below hb,h.sigs.below hb⟩
theorem sigP_take {T:List Tk} {i:Nat} (hi:i<T.length):sigP 0 (T.take (i+1))=sigP 0 (T.take i) ++ (if sig T[i].k then[(i:Int)] else[]):=by
 rw[List.take_add_one,List.getElem?_eq_getElem hi,sigP_append]
 have hl:(T.take i).length=i:=by rw[List.length_take];omega
 rw[hl,Nat.zero_add]
 show sigP 0 (T.take i) ++ sigP i [T[i]]=_
 rw[sigP]
 split <;> rfl
theorem Made.push {w W:World} {b i:Nat} {vL vS:Value} {T P:List Tk} (h:Made w W b vL vS T P) (hl:(sigP 0 P).length≤1099511627776) (P':List Tk) (hP:sigP 0 P'=sigP 0 P ++ [(i:Int)]) :
  ∃ v' w',(∀ ty,(Builtin.append_ #[58,58] ty #[vS,.slice (some ⟨W.heap.size,0,none⟩) 1 1]).run Tryz.prog (W.alloc (.cells #[.int .i64 (i:Int)] 3))=.ok v' w')∧(∃ o l c,v'=.slice o l c)∧w'.cell? ⟨b,1,none⟩=some vS∧w'.frozen? ⟨b,1,none⟩=false∧Made w (w'.setCell ⟨b,1,none⟩ v') b vL v' T P':=by
 have hu:Below W.heap.size W (W.alloc (.cells (it.c (i:Int)).toArray it.e)):=(Below.refl _ _).alloc (Nat.le_refl _) _
 have h2:=h.more hu
 have hz:(W.alloc (.cells (it.c (i:Int)).toArray it.e)).heap.size=W.heap.size+1:=World.size_alloc _ _
 obtain⟨g,cap,w',h3,h4,h5,h6⟩:=app_lies (F:=it) (x:=(i:Int)) h2.sigs (heap_alloc_last W _) h2.below.size (by simp [maxLen];omega) (by show((sigP 0 P).length+1)*8≤_;omega)
 have hbS:=h2.sigs.ne h2.cells (by decide)
 have hbz:b<(W.alloc (.cells (it.c (i:Int)).toArray it.e)).heap.size:=(Array.getElem?_eq_some_iff.1 h2.cells).1
 have hcw:=(h5.block b hbz (fun e=>hbS e.symm)).trans h2.cells
 obtain⟨⟨_,b1,_⟩,hfz⟩:=ten_at hcw
 have hgb:g≠b:=by
  rintro rfl
  rcases h6 with h6|h6
  ·exact hbS h6
  ·omega
 have hgw:w.heap.size≤g:=by
  rcases h6 with h6|h6
  ·exact(World.ownsRow.lt h2.sigs g h6).1
  ·rw[h6];exact h2.below.size
 refine⟨_,w',h3,⟨_,_,_,rfl⟩,b1,hfz 1,⟨?_,?_,h.base,?_,?_⟩⟩
 ·have hb3:=h2.below
  refine⟨h5.os.trans hb3.os,h5.tape.trans hb3.tape,h5.output.trans hb3.output,by rw[size_set];exact Nat.le_trans hb3.size h5.size,fun k hk=>?_⟩
  have hkb:=h.base
  have:=hb3.size
  rw[set_one _ _ _ _ _ (by omega),h5.block k (by omega) (fun e=>by have:=(World.ownsRow.lt h2.sigs k e.symm).1;omega)]
  exact hb3.block k hk
 ·exact heap_setCell_same _ b 1 _ _ _ hcw
 ·refine h2.toks.keep (fun k hk hz=>?_)
  rw[set_one _ _ _ _ _ (fun e=>h2.toks.ne h2.cells (by decide) (by rw[← e];exact hk))]
  exact h5.block k hz (fun e=>h2.toks.differs h2.sigs (by decide) k hk e.symm)
 ·rw[hP]
  exact h4.keep (fun k hk _=>set_one _ _ _ _ _ (fun e=>by simp only[Value.ownBlock,Option.some.injEq] at hk;omega))
theorem Made.at {w W:World} {b:Nat} {vL vS:Value} {T:List Tk} (h:Made w W b vL vS T T) (hn:T.length≤549755813888):CAt ⟨allOf w,0⟩ W b (.ok ⟨T,0,[],[],0⟩):=by
 refine⟨vL,vS,.slice none 0 0,{ L:=T,at':=0,R:=[],op:=0,d0:=0,d1:=0,d2:=0,failed:=false },fun _=>False,⟨h.cells,h.toks.mono (Nat.zero_le _),h.sigs.mono (Nat.zero_le _),Mine.nil _ _,Nat.zero_le _,by show T.length≤_;omega⟩,⟨h.below.os,h.below.tape,h.below.output,h.below.size,fun k hk=>?_,fun k hk=>hk.elim⟩,rfl,rfl,rfl,Ties.nil,rfl,rfl,?_,by show 0≤100;decide,by show 0+T.length≤_;omega,Nat.zero_le _⟩
 ·have hk:k<w.heap.size:=hk
  have:=h.base
  exact⟨hk,by omega,by simp [Value.ownBlock],by simp [Value.ownBlock],h.below.block k hk⟩
 ·intro x hx
  cases hx
theorem cnew_any {w:World} {v:Value} {T:List Tk} (hr:Row tk w v T) (hn:T.length≤549755813888) :
  Calls Tryz.prog 9 #[v] w fun e w'=>∃ b,e=.returned (.pointer (some ⟨b,0,none⟩))∧CAt ⟨allOf w,0⟩ w' b (.ok ⟨T,0,[],[],0⟩):=by
 have HCL:=Lib.hid (cloneT_any hr (by omega))
 obtain⟨g,off,o,cap,hc,rfl,ho,hcell⟩:=hr.lt
 have HO:=Lib.hid ho
 have HC:=Lib.hid hcell
 clear hr ho hcell
 obtain⟨len,hlen⟩:∃ len,T.length=len:=⟨_,rfl⟩
 have HLN:=Lib.hid hlen
 rw[hlen] at hc hn HCL ⊢
 clear hlen
 go_enter Tryz.func9,Tryz.ntmps9
 go_wp2_with (go_at_call 29;refine HCL.out.mono ?_;rintro e w1 ⟨v',rfl,hm,hb⟩;obtain⟨gL,oL,cL,rfl,hoL,_⟩:=hm.shape)
 have HM:=Lib.hid hm
 have HB:=Lib.hid hb
 clear hm hb hoL
 obtain⟨b,hbe⟩:∃ b,w1.heap.size=b:=⟨_,rfl⟩
 have HBE:=Lib.hid hbe
 rw[hbe]
 clear hbe
 go_loopw [12] (fun p wr=>∃ (i:Nat) (vS:Value),i≤len∧p=.int .i64 (i:Int)∧Made w wr b (.slice oL T.length cL) vS T (T.take i)) (fun p _=>len - (intOf p).toNat)
 case atStart=>
  have hbl:Below w1.heap.size w1 (w1.alloc (.cells #[.slice oL T.length cL,.slice none 0 0,.int .i64 0,.int .i64 0,.slice none 0 0,.int .i64 0,.int .i64 0,.int .i64 0,.int .i64 0,.bool false] 61)):=(Below.refl _ _).alloc (Nat.le_refl _) _
  exact⟨0,.slice none 0 0,Nat.zero_le _,rfl,HB.out.trans (hbl.mono HB.out.size),by rw[← HBE.out];exact heap_alloc_last _ _,by rw[← HBE.out];exact HB.out.size,HM.out.below hbl,by rw[List.take_zero];exact Mine.nil _ _⟩
 case round=>
  obtain⟨i,vS,hil,rfl,hmd⟩:=hrel
  by_cases hlt:i<len
  ·have hiT:i<T.length:=by rw[HLN.out];exact hlt
   obtain⟨hoo,hgz⟩:=HO.out (by intro e;rw[e] at hiT;simp at hiT)
   subst hoo
   obtain⟨c0,c1,c2⟩:=cells_tk HC.out i hiT
   have d0:=(hmd.below.cell (p:=⟨g,off+i*3,none⟩) hgz).trans c0
   have d1:=(hmd.below.cell (p:=⟨g,off+i*3+1,none⟩) hgz).trans c1
   have d2:=(hmd.below.cell (p:=⟨g,off+i*3+2,none⟩) hgz).trans c2
   have hsp:=sigP_take hiT
   obtain⟨⟨z,x1,x2⟩,ht⟩:∃ t,T[i]=t:=⟨_,rfl⟩
   rw[ht] at d0 d1 d2 hsp
   simp only[] at d0 d1 d2 hsp
   have hal:Below wr.heap.size wr (wr.alloc (.cells #[.int .i64 z,.int .i64 x1,.int .i64 x2] 55)):=(Below.refl _ _).alloc (Nat.le_refl _) _
   have hmd2:=hmd.more hal
   have hq0:(0:Int)≤(i:Int):=by omega
   have hww:(i:Int)+1≤1099511627777:=by omega
   have hd:decide ((i:Int)<(len:Int))=true:=decide_eq_true (by omega)
   have hd':decide (i<len)=true:=decide_eq_true hlt
   have hle:=sigP_le (T.take i) 0
   rw[List.length_take] at hle
   have hbz:b<wr.heap.size:=(Array.getElem?_eq_some_iff.1 hmd.cells).1
   cases hs:sig z with
   |true=>
    rw[hs,if_pos rfl] at hsp
    obtain⟨v2,w2,hrun,⟨o2,l2,cp2,rfl⟩,hb1,hf1,hmd3⟩:=hmd2.push (by omega) _ hsp
    have HRUN:=Lib.hid hrun
    have HMD3:=Lib.hid hmd3
    obtain⟨⟨_,e1,_⟩,_⟩:=ten_at hmd.cells
    have hz2:(wr.alloc (.cells #[.int .i64 z,.int .i64 x1,.int .i64 x2] 55)).heap.size=wr.heap.size+1:=World.size_alloc _ _
    rw[hz2] at HRUN
    clear hrun hmd3 hmd hmd2 c0 c1 c2 ht hsp hal
    go_wp2_with (first|(go_at_call 30;refine(isTrivia_any _ _).mono ?_;rintro e w9 ⟨rfl,rfl⟩;rw[hs])|(at_builtin;refine Lib.wpList_append_run _ rfl _ _ _ _ rfl _ _ rfl rfl _ _ (HRUN.out _) ?_))
    go_roundw
    case rel=>exact⟨i+1,_,by omega,by go_num,HMD3.out⟩
    case measure=>simp [intOf];omega
   |false=>
    rw[hs,if_neg (by simp),List.append_nil] at hsp
    have hmd3:Made w (wr.alloc (.cells #[.int .i64 z,.int .i64 x1,.int .i64 x2] 55)) b (.slice oL T.length cL) vS T (T.take (i+1)):=⟨hmd2.below,hmd2.cells,hmd2.base,hmd2.toks,by rw[hsp];exact hmd2.sigs⟩
    have HMD3:=Lib.hid hmd3
    clear hmd3 hmd hmd2 c0 c1 c2 ht hsp hal
    go_wp2_with (first|(go_at_call 30;refine(isTrivia_any _ _).mono ?_;rintro e w9 ⟨rfl,rfl⟩;rw[hs]))
    go_roundw
    case rel=>exact⟨i+1,_,by omega,by go_num,HMD3.out⟩
    case measure=>simp [intOf];omega
  ·have hTT:T.take i=T:=List.take_of_length_le (by rw[HLN.out];omega)
   rw[hTT] at hmd
   have hfin:=hmd.at (by rw[HLN.out];exact hn)
   have HF:=Lib.hid hfin
   have hd:decide ((i:Int)<(len:Int))=false:=decide_eq_false (by omega)
   have hd':decide (i<len)=false:=decide_eq_false hlt
   clear hmd hfin hTT
   go_wp2_with fail
   go_ret
   exact⟨_,rfl,HF.out⟩
open Go.RowKit
def Ends (o:Option Res) (Q:Res→Prop):Prop:=∃ y,o=some y∧Q y
theorem Ends.bind {o:Option Res} {Q Q':Res→Prop} {f:Res→Option Res} (h:Ends o Q) (hf:∀ y,Q y→Ends (f y) Q'):Ends (o >>= f) Q':=by
 obtain⟨y,rfl,hq⟩:=h
 exact hf y hq
theorem Ends.mono {o:Option Res} {Q Q':Res→Prop} (h:Ends o Q) (hf:∀ y,Q y→Q' y):Ends o Q':=by
 obtain⟨y,h1,h2⟩:=h
 exact⟨y,h1,hf y h2⟩
structure InS (L:List Tk) (a w:Int) (t:St):Prop where
 eq:t.L=L
 le:t.at'≤L.length
 left:(L.length:Int) - (t.at':Int)≤a
 few:(t.R.length:Int)+64*((L.length:Int) - (t.at':Int))≤w
def In (L:List Tk) (a w:Int) (y:Res):Prop:=∀ t,y=.ok t→InS L a w t
section
variable {L:List Tk} {a w B:Int} {x:Res}
theorem In.fail (d0 d1 d2:Int):In L a w (.fail d0 d1 d2):=fun t e=>by cases e
theorem InS.in {s:St} (h:InS L a w s):In L a w (.ok s):=fun t e=>by cases e;exact h
theorem In.mono {a' w':Int} (h:In L a w x) (ha:a≤a') (hw:w≤w'):In L a' w' x:=fun t e=>by
 obtain⟨h1,h2,h3,h4⟩:=h t e
 exact⟨h1,h2,by omega,by omega⟩
theorem InS.rlen {s:St} (h:InS L a w s):(s.R.length:Int)≤w:=by
 have:=h.2;have:=h.4;omega
theorem InS.pos {s:St} (h:InS L a w s):0≤a:=by
 have:=h.2;have:=h.3;omega
theorem chk_ends {s:St} {Q:Res→Prop} (h:s.R.length+s.L.length≤549755813888) (hq:Q (.ok s)):Ends (chk (.ok s)) Q:=⟨.ok s,by unfold chk;simp only[];rw[if_pos h],hq⟩
theorem chk_endf {d0 d1 d2:Int} {Q:Res→Prop} (hq:Q (.fail d0 d1 d2)):Ends (chk (.fail d0 d1 d2)) Q:=⟨_,rfl,hq⟩
theorem lift_ends {f:St→Res} {Q:Res→Prop} (hq:∀ d0 d1 d2,Q (.fail d0 d1 d2)) (h:∀ s,x=.ok s→Ends (chk (f s)) Q):Ends (lift f x) Q:=by
 cases x with
 |fail d0 d1 d2=>exact⟨_,rfl,hq _ _ _⟩
 |ok s=>exact h s rfl
theorem take_in {s:St} (h:InS L a w s):InS L a w s.take∧(s.ahead 0≠0→InS L (a - 1) (w - 63) s.take):=by
 obtain⟨h1,h2,h3,h4⟩:=h
 unfold St.take
 split
 ·rename_i h0
  exact⟨⟨h1,h2,h3,h4⟩,fun h=>absurd h0 h⟩
 ·rename_i h0
  have hlt:s.next 0<s.L.length:=by
   rcases Nat.lt_or_ge (s.next 0) s.L.length with h|h
   ·exact h
   ·exact absurd (by unfold St.ahead;rw[List.getElem?_eq_none h]) h0
  have hge:s.at'≤s.next 0:=Nat.le_add_right _ _
  have hlen:((s.L.drop s.at').take (s.next 0+1 - s.at')).length=s.next 0+1 - s.at':=by rw[List.length_take,List.length_drop];omega
  have hR:(s.run (s.next 0+1 - s.at')).R.length=s.R.length+(s.next 0+1 - s.at'):=by
   show(s.R ++ ((s.L.drop s.at').take _).map Tk.tree).length=_
   rw[List.length_append,List.length_map,hlen]
  have hat:(s.run (s.next 0+1 - s.at')).at'=s.next 0+1:=by
   show s.at'+(s.next 0+1 - s.at')=_
   omega
  rw[h1] at hlt
  exact⟨⟨h1,by rw[hat];omega,by rw[hat];omega,by rw[hat,hR];omega⟩,fun _=>⟨h1,by rw[hat];omega,by rw[hat];omega,by rw[hat,hR];omega⟩⟩
theorem en_take0 (h:In L a w x) (hB:B+(L.length:Int)≤549755813888) (hw:w≤B):Ends (rTake x) (In L a w):=lift_ends (fun _ _ _=>In.fail _ _ _) fun s e=>by
 have hs:=(take_in (h s e)).1
 exact chk_ends (by have:=hs.rlen;have:=hs.eq;rw[hs.eq];omega) hs.in
theorem en_take (h:In L a w x) (hB:B+(L.length:Int)≤549755813888) (hw:w≤B) (hk:x.kind≠0):Ends (rTake x) (In L (a - 1) (w - 63)):=lift_ends (fun _ _ _=>In.fail _ _ _) fun s e=>by
 have hs:=(take_in (h s e)).2 (by subst e;exact hk)
 exact chk_ends (by have:=hs.rlen;rw[hs.eq];omega) hs.in
theorem en_none (h:In L a w x) (hB:B+(L.length:Int)≤549755813888) (hw:w+1≤B):Ends (rNone x) (In L a (w+1)):=lift_ends (fun _ _ _=>In.fail _ _ _) fun s e=>by
 obtain⟨h1,h2,h3,h4⟩:=h s e
 have hl:s.none.R.length=s.R.length+1:=by show(s.R ++ [_]).length=_;rw[List.length_append];rfl
 have hs:InS L a (w+1) s.none:=⟨h1,h2,h3,by rw[hl];show((s.R.length+1:Nat):Int)+64*((L.length:Int) - (s.at':Int))≤_;omega⟩
 exact chk_ends (by have:=hs.rlen;rw[hs.eq];omega) hs.in
theorem closed_len {s:St} (m:Int) (k:Int):(s.closed (s.mark m) k).R.length≤s.R.length+1:=by
 show(s.R.take (s.mark m) ++ [_]).length≤_
 rw[List.length_append,List.length_take]
 simp only[List.length_cons,List.length_nil]
 omega
theorem en_close {m k:Int} (h:In L a w x) (hB:B+(L.length:Int)≤549755813888) (hw:w+1≤B):Ends (rClose m k x) (In L a (w+1)):=lift_ends (fun _ _ _=>In.fail _ _ _) fun s e=>by
 unfold St.close
 split
 ·exact chk_endf (In.fail _ _ _)
 ·obtain⟨h1,h2,h3,h4⟩:=h s e
  have hl:=closed_len (s:=s) m k
  have hs:InS L a (w+1) (s.closed (s.mark m) k):=⟨h1,h2,h3,by show((s.closed (s.mark m) k).R.length:Int)+64*((L.length:Int) - (s.at':Int))≤_;omega⟩
  exact chk_ends (by have:=hs.rlen;rw[hs.eq];omega) hs.in
theorem en_expect {k:Int} (h:In L a w x) (hB:B+(L.length:Int)≤549755813888) (hw:w≤B):Ends (rExpect k x) (In L (a - 1) (w - 63)):=lift_ends (fun _ _ _=>In.fail _ _ _) fun s e=>by
 unfold St.expect
 split
 ·rename_i hk
  have hs:=(take_in (h s e)).2 (by rw[hk.2];exact hk.1)
  exact chk_ends (by have:=hs.rlen;rw[hs.eq];omega) hs.in
 ·exact chk_endf (In.fail _ _ _)
theorem en_fail {c:Int} {Q:Res→Prop} (hQ:∀ d0 d1 d2,Q (.fail d0 d1 d2)):Ends (rFail c x) Q:=lift_ends hQ fun _ _=>chk_endf (hQ _ _ _)
theorem en_down (h:In L a w x) (hB:B+(L.length:Int)≤549755813888) (hw:w≤B):Ends (rDown x) (In L a w):=lift_ends (fun _ _ _=>In.fail _ _ _) fun s e=>by
 unfold St.down
 split
 ·exact chk_endf (In.fail _ _ _)
 ·obtain⟨h1,h2,h3,h4⟩:=h s e
  have hs:InS L a w { s with op:=s.op+1 }:=⟨h1,h2,h3,h4⟩
  exact chk_ends (by have:=hs.rlen;rw[hs.eq];show s.R.length+_≤_;have:((s.R.length:Nat):Int)≤w:=hs.rlen;omega) hs.in
theorem en_up (h:In L a w x) (hB:B+(L.length:Int)≤549755813888) (hw:w≤B):Ends (rUp x) (In L a w):=lift_ends (fun _ _ _=>In.fail _ _ _) fun s e=>by
 obtain⟨h1,h2,h3,h4⟩:=h s e
 have hs:InS L a w s.up:=⟨h1,h2,h3,h4⟩
 exact chk_ends (by have:((s.R.length:Nat):Int)≤w:=hs.rlen;rw[hs.eq];show s.R.length+_≤_;omega) hs.in
theorem en_name (h:In L a w x) (hB:B+(L.length:Int)≤549755813888) (hw:w≤B):Ends (rName x) (In L (a - 1) (w - 62)):=by
 unfold rName
 refine Ends.bind (en_expect h hB hw) fun y hy=>?_
 exact(en_close hy hB (by omega)).mono fun z hz=>hz.mono (by omega) (by omega)
theorem en_qual (h:In L a w x) (hB:B+(L.length:Int)≤549755813888) (hw:w≤B):Ends (rQualified x) (In L (a - 1) (w - 62)):=by
 unfold rQualified
 refine Ends.bind (en_name h hB hw) fun y hy=>?_
 split
 ·refine Ends.bind (en_take hy hB (by omega) (by omega)) fun y2 hy2=>?_
  refine Ends.bind (en_name hy2 hB (by omega)) fun y3 hy3=>?_
  exact(en_close hy3 hB (by omega)).mono fun z hz=>hz.mono (by omega) (by omega)
 ·exact⟨_,rfl,hy⟩
def rk:Pc→Int
 |.type=>10|.array _=>9|.term=>11|.union=>12|.element=>13|.field=>1|.itL _=>14|.operand=>11|.primary _=>12|.primL _ _=>5
 |.unary _=>13|.binary _ _=>14|.X _=>15|.value=>16|.valL=>17|.callL=>16|.list _=>16|.sig=>3|.params=>2|.entry=>20|.tpL=>2|_=>1
def dd:Pc→Int
 |.binL _ _ _=>0|.primL _ _=>0|.idxL=>0|.callL=>0|.valL=>0|.flatL _=>0|.tyL=>0|.itL _=>0|.unionL=>0|.listL _=>0|.names=>0|_=>1
def cc:Pc→Int
 |.binL _ _ _=>0|.primL _ _=>0|.idxL=>0|.callL=>0|.valL=>0|.flatL _=>0|.tyL=>0|.itL _=>0|.unionL=>0|.listL _=>0|.names=>0
 |.values=>-100|.type=>-40|.array _=>-40|.term=>-40|.union=>-40|.params=>-60|.sig=>-40|.entry=>-40|.list _=>-20|_=>-30
def fl:Pc→Bool
 |.period _=>true|.index _=>true|.cut _=>true|.call _=>true|.array _=>true|_=>false
def Tot (L:List Tk) (B:Int) (n:Nat):Prop:=∀ (p:Pc) (s:St) (a w:Int),InS L a w s→(fl p=true→(Res.ok s).kind≠0)→100*a+rk p≤(n:Int)→w+8≤B→Ends (run n p (.ok s)) (In L (a - dd p) (w+cc p))
theorem en_run {n:Nat} (ih:Tot L B n) {p:Pc} (h:In L a w x) (hf:fl p=true→x.kind≠0) (hn:100*a+rk p≤(n:Int)) (hw:w+8≤B):Ends (run n p x) (In L (a - dd p) (w+cc p)):=by
 cases x with
 |fail d0 d1 d2=>exact⟨_,run_fail _ _ _ _ _,In.fail _ _ _⟩
 |ok s=>exact ih p s a w (h s rfl) hf hn hw
theorem tot_zero:Tot L B 0:=fun p s a w h _ hn _=>by
 have:=h.pos
 have:1≤rk p:=by cases p <;> simp [rk]
 simp only[Int.natCast_zero] at hn
 omega
end
theorem wfE_up:∀ (l:List Ent) (lo n n':Nat),wfE lo l n=true→n≤n'→wfE lo l n'=true
 |[],lo,n,n',h,hn=>by
  rw[wfE,decide_eq_true_iff] at h ⊢
  omega
 |e::r,lo,n,n',h,hn=>by
  rw[wfE,Bool.and_eq_true] at h ⊢
  exact⟨h.1,wfE_up r _ _ _ h.2 hn⟩
theorem wfE_snoc:∀ (l:List Ent) (lo m n:Nat) (e:Ent),wfE lo l m=true→m≤e.a→e.a≤e.b→e.b≤n→wfE lo (l ++ [e]) n=true
 |[],lo,m,n,e,h,h1,h2,h3=>by
  rw[wfE,decide_eq_true_iff] at h
  show(decide (lo≤e.a) && decide (e.a≤e.b) && decide (e.b≤n))=true
  rw[decide_eq_true (show lo≤e.a by omega),decide_eq_true h2,decide_eq_true h3]
  rfl
 |f::r,lo,m,n,e,h,h1,h2,h3=>by
  rw[wfE,Bool.and_eq_true] at h
  show(decide (lo≤f.a) && decide (f.a≤f.b) && wfE f.b (r ++ [e]) n)=true
  rw[Bool.and_eq_true]
  exact⟨h.1,wfE_snoc r _ _ _ _ h.2 h1 h2 h3⟩
section
variable {L:List Tk} {B:Int}
theorem en_ents (hB:B+(L.length:Int)≤549755813888) {n:Nat} (ih:Tot L B n) (kp:RunKp n):∀ (k:Nat) (l:List Ent) (x:Res) (a w:Int),In L a w x→100*a+20≤(n:Int)→a+1≤(k:Int)→1≤k→w+8≤B→(∀ s,x=.ok s→wfE 0 l s.R.length=true) →
  ∃ y l',rEnts (run n .entry) k l x=some (y,l')∧In L a (w - (l'.length:Int)+(l.length:Int)) y∧∀ t,y=.ok t→wfE 0 l' t.R.length=true
 |0,l,x,a,w,hx,hn,hk,hk1,hw,hwf=>by omega
 |k+1,l,x,a,w,hx,hn,hk,hk1,hw,hwf=>by
  rw[rEnts]
  cases x with
  |fail d0 d1 d2=>exact⟨_,_,by rw[if_pos (.inl (bad_fail _ _ _))],In.fail _ _ _,fun t e=>by cases e⟩
  |ok s=>
   by_cases h62:(Res.ok s).kind=62
   ·refine⟨_,_,by rw[if_pos (.inr h62)],?_,hwf⟩
    exact hx.mono (Int.le_refl _) (by omega)
   ·rw[if_neg (by rw[bad_ok];simp [h62])]
    have hap:=(hx s rfl).pos
    obtain⟨y1,hy1,hi1⟩:=en_run ih (p:=.entry) hx (fun h=>by cases h) (by show 100*a+20≤_;exact hn) hw
    have hi1:In L (a - 1) (w + -40) y1:=hi1
    have hk1:=kp .entry s y1 s.R.length (Nat.le_refl _) (fun m hm=>by cases hm) hy1
    rw[hy1]
    show ∃ y l',(if y1.kind=60 then(rTake y1).bind fun z=>rEnts (run n .entry) k (l ++ [⟨(Res.ok s).len,y1.len,(Res.ok s).named⟩]) z else some (y1,l ++ [⟨(Res.ok s).len,y1.len,(Res.ok s).named⟩]))=some (y,l')∧_
    have hl1:(l ++ [(⟨(Res.ok s).len,y1.len,(Res.ok s).named⟩:Ent)]).length=l.length+1:=by rw[List.length_append];rfl
    have hwf1:∀ t,y1=.ok t→wfE 0 (l ++ [(⟨(Res.ok s).len,y1.len,(Res.ok s).named⟩:Ent)]) t.R.length=true:=by
     intro t ht
     have hle:=(hk1 t ht).le
     subst ht
     exact wfE_snoc l 0 s.R.length t.R.length _ (hwf s rfl) (Nat.le_refl _) hle (Nat.le_refl _)
    by_cases h60:y1.kind=60
    ·rw[if_pos h60]
     obtain⟨t1,rfl⟩:=ok_of_kind h60 (by decide)
     obtain⟨y2,hy2,hi2⟩:=en_take hi1 hB (by omega) (by rw[h60];decide)
     have hi2b:=hi1 t1 rfl
     have hap1:=hi2b.pos
     have hk2:=kp_take (Lib.hid hy2) (Kp.refl (s:=t1) (Nat.le_refl t1.R.length))
     rw[hy2]
     show ∃ y l',rEnts (run n .entry) k (l ++ [⟨(Res.ok s).len,(Res.ok t1).len,(Res.ok s).named⟩]) y2=some (y,l')∧_
     obtain⟨y,l',e1,e2,e3⟩:=en_ents hB ih kp k (l ++ [⟨(Res.ok s).len,(Res.ok t1).len,(Res.ok s).named⟩]) y2 _ _ hi2 (by omega) (by omega) (by omega) (by omega) (fun t ht=>wfE_up _ _ _ _ (hwf1 t1 rfl) (hk2 t ht).le)
     refine⟨y,l',e1,e2.mono (by omega) (by rw[hl1];omega),e3⟩
    ·rw[if_neg h60]
     exact⟨_,_,rfl,hi1.mono (by omega) (by rw[hl1];omega),hwf1⟩
def Most (s:St) (M:Int) (y:Res):Prop:=∀ t,y=.ok t→t.L=s.L∧t.at'=s.at'∧(t.R.length:Int)≤M
theorem back_len (u:St) (R:List Tree) (H:List Int) {a b:Nat} (h1:a≤b):((u.back R H a b).R.length:Int)≤u.R.length+((b:Int) - (a:Int)):=by
 show((u.R ++ _).length:Int)≤_
 rw[List.length_append,List.length_take]
 omega
theorem en_groups (s:St) {M:Int} (hM:M+(s.L.length:Int)≤549755813888) (R:List Tree) (H:List Int) (any:Bool):∀ (l:List Ent) (m a lo:Nat) (x:Res),wfE lo l R.length=true→a≤lo→Most s (M - ((R.length:Int) - (a:Int)) - (l.length:Int)) x→Ends (rGroups R H any l m a x) (Most s M)
 |[],m,a,lo,x,hwf,ha,hx=>by
  rw[rGroups]
  rw[wfE,decide_eq_true_iff] at hwf
  refine⟨_,rfl,fun t ht=>?_⟩
  obtain⟨h1,h2,h3⟩:=hx t ht
  simp only[List.length_nil] at h3
  exact⟨h1,h2,by omega⟩
 |e::r,m,a,lo,x,hwf,ha,hx=>by
  rw[rGroups.eq_def]
  have hw:=hwf
  rw[wfE,Bool.and_eq_true,Bool.and_eq_true,decide_eq_true_iff,decide_eq_true_iff] at hw
  obtain⟨⟨w1,w2⟩,w4⟩:=hw
  have hlo:∀ (l:List Ent) (lo n:Nat),wfE lo l n=true→lo≤n:=by
   intro l
   induction l with
   |nil=>intro lo n h;rw[wfE,decide_eq_true_iff] at h;exact h
   |cons f r ih=>
    intro lo n h
    rw[wfE,Bool.and_eq_true,Bool.and_eq_true,decide_eq_true_iff,decide_eq_true_iff] at h
    have:=ih _ _ h.2
    omega
  have w3:=hlo _ _ _ w4
  cases x with
  |fail d0 d1 d2=>exact⟨_,rfl,fun t e=>by cases e⟩
  |ok u=>
   obtain⟨h1,h2,h3⟩:=hx u rfl
   have hb:=back_len u R H (show a≤e.b by omega)
   rw[List.length_cons] at h3
   simp only[]
   split
   ·have hc:Ends (rClose (m:Int) 233 (.ok (u.back R H a e.b))) (Most s (M - ((R.length:Int) - (e.b:Int)) - (r.length:Int))):=by
     show Ends (chk (St.close _ _ _)) _
     unfold St.close
     split
     ·exact chk_endf (fun t e=>by cases e)
     ·have hl:=closed_len (s:=u.back R H a e.b) (m:Int) 233
      refine chk_ends ?_ (fun t ht=>?_)
      ·show _+u.L.length≤_
       rw[h1]
       omega
      ·cases ht
       exact⟨h1,h2,by omega⟩
    refine Ends.bind hc fun y hy=>?_
    cases y with
    |fail d0 d1 d2=>exact⟨_,rfl,fun t e=>by cases e⟩
    |ok t=>
     simp only[]
     obtain⟨g1,g2,g3⟩:=hy t rfl
     cases r with
     |nil=>
      have hb2:=back_len t R H w3
      refine en_groups s hM R H any [] _ R.length R.length _ (by rw[wfE,decide_eq_true_iff];exact Nat.le_refl _) (Nat.le_refl _) (fun v hv=>?_)
      cases hv
      refine⟨g1,g2,?_⟩
      show((t.back R H e.b R.length).R.length:Int)≤_
      simp only[List.length_nil] at g3 ⊢
      omega
     |cons f r=>
      have w5:e.b≤f.a:=by
       rw[wfE,Bool.and_eq_true,Bool.and_eq_true,decide_eq_true_iff] at w4
       exact w4.1.1
      have hb2:=back_len t R H w5
      have w6:wfE f.a (f::r) R.length=true:=by
       rw[wfE,Bool.and_eq_true,Bool.and_eq_true,decide_eq_true_iff,decide_eq_true_iff] at w4 ⊢
       exact⟨⟨Nat.le_refl _,w4.1.2⟩,w4.2⟩
      refine en_groups s hM R H any (f::r) _ f.a f.a _ w6 (Nat.le_refl _) (fun v hv=>?_)
      cases hv
      refine⟨g1,g2,?_⟩
      show((t.back R H e.b f.a).R.length:Int)≤_
      omega
   ·refine en_groups s hM R H any r _ e.b e.b _ w4 (Nat.le_refl _) (fun v hv=>?_)
    cases hv
    exact⟨h1,h2,by omega⟩
theorem en_finish (hB:B+(L.length:Int)≤549755813888) {m:Nat} {l:List Ent} {x:Res} {a w:Int} (hx:In L a (w - (l.length:Int)) x) (hw:w+8≤B) (hwf:∀ t,x=.ok t→wfE 0 l t.R.length=true):Ends (rFinish m l x) (In L (a - 1) (w - 62)):=by
 cases x with
 |fail d0 d1 d2=>exact⟨_,rfl,In.fail _ _ _⟩
 |ok s=>
  have hs:=hx s rfl
  have hrl:=hs.rlen
  have hL:=hs.eq
  unfold rFinish
  simp only[]
  rw[if_pos (by rw[hwf s rfl,Bool.true_and,decide_eq_true_iff,hL];omega)]
  split
  ·exact en_fail (fun _ _ _=>In.fail _ _ _)
  ·have hg:Ends (rGroup l (l.any (·.is)) (.ok s)) (In L a w):=by
    unfold rGroup
    cases l with
    |nil=>
     refine⟨_,rfl,hx.mono (Int.le_refl _) ?_⟩
     simp
    |cons e r=>
     simp only[]
     have hw2:=hwf s rfl
     rw[wfE,Bool.and_eq_true,Bool.and_eq_true,decide_eq_true_iff,decide_eq_true_iff] at hw2
     have hw3:wfE e.a (e::r) s.R.length=true:=by
      rw[wfE,Bool.and_eq_true,Bool.and_eq_true,decide_eq_true_iff,decide_eq_true_iff]
      exact⟨⟨Nat.le_refl _,hw2.1.2⟩,hw2.2⟩
     have hm:=en_groups s (M:=(s.R.length:Int)+((e::r).length:Int)) (by rw[hL];omega) s.R s.H ((e::r).any (·.is)) (e::r) e.a e.a e.a (.ok { s with R:=s.R.take e.a,H:=s.H.take e.a }) hw3 (Nat.le_refl _) (fun t ht=>by
      cases ht
      refine⟨rfl,rfl,?_⟩
      show((s.R.take e.a).length:Int)≤_
      rw[List.length_take]
      omega)
     refine hm.mono fun y hy t ht=>?_
     obtain⟨h1,h2,h3⟩:=hy t ht
     obtain⟨i1,i2,i3,i4⟩:=hs
     exact⟨h1.trans i1,by rw[h2];exact i2,by rw[h2];exact i3,by rw[h2];omega⟩
   refine Ends.bind hg fun y hy=>?_
   refine Ends.bind (en_expect hy hB (by omega)) fun y2 hy2=>?_
   exact(en_close hy2 hB (by omega)).mono fun z hz=>hz.mono (by omega) (by omega)
end
theorem Ends.here {L:List Tk} {a w a' w':Int} {x:Res} (h:In L a w x) (ha:a≤a') (hw:w≤w'):Ends (some x) (In L a' w'):=⟨x,rfl,h.mono ha hw⟩
theorem Ends.bad {L:List Tk} {a w:Int} {x:Res} (h:x.bad=true):Ends (some x) (In L a w):=by
 cases x with
 |fail d0 d1 d2=>exact⟨_,rfl,In.fail _ _ _⟩
 |ok s=>cases h
theorem prec_zero:precOf 0=0:=by decide
theorem prec_pos {k p:Int} (h:¬ (precOf k=0∨precOf k<p)):k≠0:=fun e=>h (.inl (by rw[e];exact prec_zero))
theorem tot_most {L:List Tk} {B a w:Int} {n:Nat} {s:St} (p:Pc) (hp:p≠.params) (hB:B+(L.length:Int)≤549755813888) (ih:Tot L B n) (hx:In L a w (.ok s)) (hap:0≤a) (hf:fl p=true→(Res.ok s).kind≠0) (hn:100*a+rk p≤((n+1:Nat):Int)) (hw:w+8≤B):Ends (run (n+1) p (.ok s)) (In L (a - dd p) (w+cc p)):=by
 cases p
 all_goals first|(exact absurd rfl hp)|(as_aux_lemma=>
 clear hp
 have _:=hap
 have _:=hB
 have _:=ih
 first|(have hf:=hf rfl)|clear hf
 rw[run]
 try dsimp only
 dsimp only [rk,dd,cc] at hn ⊢
 iterate 24 (all_goals(first|(with_reducible exact en_fail (fun _ _ _=>In.fail _ _ _))|((with_reducible refine Ends.here ‹_› ?_ ?_) <;> omega)|(with_reducible exact Ends.bad ‹_›)|(with_reducible refine Ends.bind (Q:=In L (a - 1) (w - 63)) (en_fail (fun _ _ _=>In.fail _ _ _)) (fun y hy=>?_))|(with_reducible refine Ends.bind (Ends.here ‹_› (Int.le_refl _) (Int.le_refl _)) (fun y hy=>?_))|((with_reducible refine Ends.bind (en_take ‹_› hB ?_ ?_) (fun y hy=>?_));(focus omega);(focus omega))|((with_reducible refine Ends.bind (en_take ‹_› hB ?_ (prec_pos ‹_›)) (fun y hy=>?_));(focus omega))|((with_reducible refine Ends.bind (en_take0 ‹_› hB ?_) (fun y hy=>?_));(focus omega))|((with_reducible refine Ends.bind (en_none ‹_› hB ?_) (fun y hy=>?_));(focus omega))|((with_reducible refine Ends.bind (en_close ‹_› hB ?_) (fun y hy=>?_));(focus omega))|((with_reducible refine Ends.bind (en_expect ‹_› hB ?_) (fun y hy=>?_));(focus omega))|((with_reducible refine Ends.bind (en_down ‹_› hB ?_) (fun y hy=>?_));(focus omega))|((with_reducible refine Ends.bind (en_up ‹_› hB ?_) (fun y hy=>?_));(focus omega))|((with_reducible refine Ends.bind (en_name ‹_› hB ?_) (fun y hy=>?_));(focus omega))|((with_reducible refine Ends.bind (en_qual ‹_› hB ?_) (fun y hy=>?_));(focus omega))|((refine Ends.bind (en_run ih ‹_› (fun h=>(by first|(cases h;done)|omega)) (by dsimp only [rk];omega) (by omega)) (fun y hy=>?_));dsimp only [dd,cc] at hy)|((with_reducible refine Ends.mono (en_take ‹_› hB ?_ ?_) (fun y hy=>In.mono hy ?_ ?_)) <;> omega)|((with_reducible refine Ends.mono (en_take ‹_› hB ?_ (prec_pos ‹_›)) (fun y hy=>In.mono hy ?_ ?_)) <;> omega)|((with_reducible refine Ends.mono (en_take0 ‹_› hB ?_) (fun y hy=>In.mono hy ?_ ?_)) <;> omega)|((with_reducible refine Ends.mono (en_none ‹_› hB ?_) (fun y hy=>In.mono hy ?_ ?_)) <;> omega)|((with_reducible refine Ends.mono (en_close ‹_› hB ?_) (fun y hy=>In.mono hy ?_ ?_)) <;> omega)|((with_reducible refine Ends.mono (en_expect ‹_› hB ?_) (fun y hy=>In.mono hy ?_ ?_)) <;> omega)|((with_reducible refine Ends.mono (en_down ‹_› hB ?_) (fun y hy=>In.mono hy ?_ ?_)) <;> omega)|((with_reducible refine Ends.mono (en_up ‹_› hB ?_) (fun y hy=>In.mono hy ?_ ?_)) <;> omega)|((with_reducible refine Ends.mono (en_name ‹_› hB ?_) (fun y hy=>In.mono hy ?_ ?_)) <;> omega)|((with_reducible refine Ends.mono (en_qual ‹_› hB ?_) (fun y hy=>In.mono hy ?_ ?_)) <;> omega)|((refine Ends.mono (en_run ih ‹_› (fun h=>(by first|(cases h;done)|omega)) (by dsimp only [rk];omega) (by omega)) (fun y hy=>In.mono hy ?_ ?_)) <;> dsimp only [dd,cc] <;> omega)|split|skip)))
theorem tot_params {L:List Tk} {B a w:Int} {n:Nat} {s:St} (hB:B+(L.length:Int)≤549755813888) (ih:Tot L B n) (kp:RunKp n) (hx:In L a w (.ok s)) (hap:0≤a) (hn:100*a+rk .params≤((n+1:Nat):Int)) (hw:w+8≤B):Ends (run (n+1) .params (.ok s)) (In L (a - dd .params) (w+cc .params)):=by
 rw[run]
 dsimp only
 dsimp only [rk,dd,cc] at hn ⊢
 have _:=hap
 refine Ends.bind (en_expect hx hB (by omega)) (fun y hy=>?_)
 cases y with
 |fail d0 d1 d2=>
  have h1:0<n:=by omega
  obtain⟨k,rfl⟩:∃ k,n=k+1:=⟨n - 1,by omega⟩
  exact⟨_,rfl,In.fail _ _ _⟩
 |ok t=>
  have hp:=(hy t rfl).pos
  obtain⟨y2,l2,e1,e2,e3⟩:=en_ents hB ih kp n [] (.ok t) (a - 1) (w - 63) hy (by omega) (by omega) (by omega) (by omega) (fun u hu=>by cases hu;rw[wfE,decide_eq_true_iff];exact Nat.zero_le _)
  rw[e1]
  show Ends (rFinish _ l2 y2) _
  simp only[List.length_nil,Int.natCast_zero,Int.add_zero] at e2
  exact(en_finish hB e2 (by omega) e3).mono fun z hz=>hz.mono (by omega) (by omega)
theorem tot_all {L:List Tk} {B:Int} (hB:B+(L.length:Int)≤549755813888):∀ n,Tot L B n
 |0=>tot_zero
 |n+1=>fun p s a w hS hf hn hw=>by
  have ih:=tot_all hB n
  have kp:=run_kp n
  by_cases hp:p=.params
  ·subst hp
   exact tot_params hB ih kp hS.in hS.pos hn hw
  ·exact tot_most p hp hB ih hS.in hS.pos hf hn hw
theorem run_ends {L:List Tk} {B a w:Int} (hB:B+(L.length:Int)≤549755813888) (hw:w+8≤B) (p:Pc) (x:Res) (h:In L a w x) (hf:fl p=true→x.kind≠0) (n:Nat) (hn:100*a+20≤(n:Int)):Ends (run n p x) (In L (a - dd p) (w+cc p)):=
 en_run (tot_all hB n) h hf (by have hr:rk p≤20:=(by cases p <;> simp [rk]);omega) hw
end Go.Proofs.YtcekbbkidipbnaaGreat.rd
