/-
  Texts put together: Kb, Kn.
-/
import Derived.Test.YtcekbbkidipbnaaGreatP2
set_option maxRecDepth 100000
set_option maxHeartbeats 8000000
namespace Go.Proofs.YtcekbbkidipbnaaGreat.rd
open Go.RowKit
theorem zrJ {u:World} {v:Value} {R:List Rn} (hr:Row nd u v R) (hn:R.length≤1099511627776) :
  ∃ v' w',(∀ ty,(Builtin.append_ #[35,35] ty #[.slice (some ⟨u.heap.size,0,none⟩) 0 0,v]).run Tryz.prog (u.alloc (.cells #[] 43)).drew=.ok v' w')∧Mine nd w' u.heap.size v' R∧Below u.heap.size u w':=by
 have h0:Mine nd (u.alloc (.cells #[] nd.e)) u.heap.size (.slice (some ⟨u.heap.size,0,none⟩) 0 0) []:=World.ownsRow_made u #[] 0 (Nat.le_refl _) zdD rfl
 have hB:Below u.heap.size u (u.alloc (.cells #[] nd.e)).drew:=((Below.refl _ _).alloc (Nat.le_refl _) _).drew
 obtain⟨v',w',hrun,hown,hgr⟩:=zgO (F:=nd) (h0.below (Below.refl _ _).drew) (hr.below hB) hB.size zdN (by show(0+R.length)*nd.bytes≤_;simp only[nd];omega)
 exact⟨v',w',hrun,hown,hB.grown hgr zdF (fun k hk=>by cases hk;exact Nat.le_refl _)⟩
theorem zhN {P:Program} {fn:Func} {t p u:Tmp} {ty:TypeId} (h:fn.results=#[.tmp t,.cell p ty,.tmp u]) (tmps:Array Value) (w:World) (g:Nat) (e:TypeId) (cs:Array Value) (fr:Nat × Nat) (d:TypeDesc)
  (hp:tmps.getD p undef=.pointer (some ⟨g,0,none⟩)) (hg:w.heap[g]? = some (.cells cs e fr)) (hu:P.underlying ty=some d) (hd:(match d with|.struct _|.array _ _=>true|_=>false)=true) (hi:(P.info? ty).map (·.size)=some cs.size) :
  (results fn tmps).run P w=.ok (.tuple #[tmps.getD t undef,.agg cs,tmps.getD u undef]) w:=by
 have hp':tmps[p]?.getD undef=.pointer (some ⟨g,0,none⟩):=by simpa using hp
 simp [results,h,hp',asAddr,run_loadVar_row w g e ty cs fr d hg hu hd hi]
theorem zhz {P:Program} {fn:Func} {q p u:Tmp} {ty ty2:TypeId} (h:fn.results=#[.cell q ty2,.cell p ty,.tmp u]) (tmps:Array Value) (w:World) (g g2:Nat) (e e2:TypeId) (cs cs2:Array Value) (fr fr2:Nat × Nat) (d d2:TypeDesc)
  (hp:tmps.getD p undef=.pointer (some ⟨g,0,none⟩)) (hg:w.heap[g]? = some (.cells cs e fr)) (hu:P.underlying ty=some d) (hd:(match d with|.struct _|.array _ _=>true|_=>false)=true) (hi:(P.info? ty).map (·.size)=some cs.size)
  (hp2:tmps.getD q undef=.pointer (some ⟨g2,0,none⟩)) (hg2:w.heap[g2]? = some (.cells cs2 e2 fr2)) (hu2:P.underlying ty2=some d2) (hd2:(match d2 with|.struct _|.array _ _=>true|_=>false)=true) (hi2:(P.info? ty2).map (·.size)=some cs2.size) :
  (results fn tmps).run P w=.ok (.tuple #[.agg cs2,.agg cs,tmps.getD u undef]) w:=by
 have hp':tmps[p]?.getD undef=.pointer (some ⟨g,0,none⟩):=by simpa using hp
 have hp2':tmps[q]?.getD undef=.pointer (some ⟨g2,0,none⟩):=by simpa using hp2
 simp [results,h,hp',hp2',asAddr,run_loadVar_row w g e ty cs fr d hg hu hd hi,run_loadVar_row w g2 e2 ty2 cs2 fr2 d2 hg2 hu2 hd2 hi2]
theorem zgq (w:World) (X:Nat) (x0 x1 x2:Value):∀ k,k≠X→(((w.setCell ⟨X,0,none⟩ x0).setCell ⟨X,1,none⟩ x1).setCell ⟨X,2,none⟩ x2).heap[k]? = w.heap[k]?:=fun k hk=>by
 rw[zfy _ _ _ _ _ hk,zfy _ _ _ _ _ hk,zfy _ _ _ _ _ hk]
theorem RdAt.beside {w w':World} {b X:Nat} {vL vR vH:Value} {σ:Rd} (h:RdAt w b vL vR vH σ) (hX:∃ cs,w.heap[X]? = some (.cells cs 37 (0,0))) (hs:∀ k,k≠X→w'.heap[k]? = w.heap[k]?):RdAt w' b vL vR vH σ:=by
 obtain⟨cs,hX⟩:=hX
 have hbx:b≠X:=by rintro rfl;rw[h.cells] at hX;simp only[Option.some.injEq,Obj.cells.injEq] at hX;exact absurd hX.2.1 zdD
 refine⟨(hs b hbx).trans h.cells,h.toks.keep (fun k hk _=>hs k (fun e=>h.toks.ne hX zdD zdO)),h.row.keep (fun k hk _=>hs k (fun e=>h.row.ne hX zdD zdO)),h.high.keep (fun k hk _=>hs k (fun e=>h.high.ne hX zdD zdO)),h.read,h.few⟩
theorem zpx {W W1 wr w' w'':World} {b:Nat} {vR vH vR1 vH1:Value} (hB1:Below W.heap.size W W1) (hn:Nx W1 b vR vH wr vR1 vH1) (hb':Below wr.heap.size wr w') (hs:∀ k,k≠W.heap.size→w''.heap[k]? = w'.heap[k]?) (hz:w''.heap.size=w'.heap.size) (ho:w''.os=w'.os) (ht:w''.tape=w'.tape) (hp:w''.output=w'.output):Nx W b vR vH w'' vR1 vH1:=by
 have h1:=(Nx.below hB1:Nx W b vR vH W1 vR vH).trans (hn.trans (Nx.below hb'))
 refine⟨ho.trans h1.os,ht.trans h1.tape,hp.trans h1.output,by rw[hz];exact h1.size,fun k hk a b c=>(hs k zdC).trans (h1.block k hk a b c),h1.newR,h1.newH⟩
theorem zrE {W:World} {b:Nat} {vL vR vH:Value} {σ:Rd} (h:RdAt W b vL vR vH σ) (h0:σ.ahead 0=0) (hf:σ.failed=false) (hR:σ.R.length+σ.L.length≤1099511627776) (hH:σ.H.length+σ.L.length≤1099511627776) :
  Calls Tryz.prog 16 #[.pointer (some ⟨b,0,none⟩)] W fun e w'=>∃ v vR' vH',e=.returned (.tuple #[v,.agg #[.int .i64 0,.int .i64 0,.int .i64 0],.bool true])∧RdAt w' b vL vR' vH' (σ.run (σ.L.length - σ.at'))∧Nx W b vR vH w' vR' vH'∧Mine nd w' 0 v (σ.run (σ.L.length - σ.at')).R:=by
 have hB1:Below W.heap.size W (W.alloc (.cells #[.int .i64 0,.int .i64 0,.int .i64 0] 37)):=(Below.refl _ _).alloc (Nat.le_refl _) _
 have hX:(W.alloc (.cells #[.int .i64 0,.int .i64 0,.int .i64 0] 37)).heap[W.heap.size]? = some (.cells #[.int .i64 0,.int .i64 0,.int .i64 0] 37 (0,0)):=heap_alloc_last _ _
 obtain⟨W1,hW1⟩:∃ W1,W.alloc (.cells #[.int .i64 0,.int .i64 0,.int .i64 0] 37)=W1:=⟨_,rfl⟩
 rw[hW1] at hB1 hX
 have HB1:=Lib.hid hB1
 have HX:=Lib.hid hX
 replace h:=h.below hB1
 have hbx:b≠W.heap.size:=by rintro rfl;rw[h.cells] at hX;simp only[Option.some.injEq,Obj.cells.injEq] at hX;exact absurd hX.2.1 zdD
 have hbR:=h.row.ne hX zdD
 have hbH:=h.high.ne hX zdD
 have HRD:=Lib.hid h
 have HK:=Lib.hid (zhS h)
 have HHR:=Lib.hid hR
 have HHH:=Lib.hid hH
 have hge:=h.read
 rw[h0] at HK
 have hfew:=h.few
 obtain⟨⟨_,_,_,_,_,_,_,_,b8⟩,_⟩:=zgd h.cells
 rw[hf] at b8
 obtain⟨gL,oL,capL,hv,ho,_⟩:=h.toks.shape
 subst hv
 have HOL:=Lib.hid ho
 clear ho
 obtain⟨len,hlen⟩:∃ len,σ.L.length=len:=⟨_,rfl⟩
 rw[hlen] at hge hfew HRD ⊢
 have HLN:=Lib.hid hlen
 have HW1:=Lib.hid hW1
 clear h h0 hR hH hlen hB1 hX hW1
 go_enter Tryz.func16,Tryz.ntmps16
 go_wp2_with (first|(go_at_call 58;rw[HW1.out];refine HK.out.mono ?_;rintro e w' ⟨rfl,rfl⟩))
 clear b8
 go_loopw [] (fun wr=>∃ (n:Nat) (vR1 vH1:Value),σ.at'+n≤len∧RdAt wr b (.slice oL len capL) vR1 vH1 (σ.run n)∧Nx W1 b vR vH wr vR1 vH1) (fun wr=>len - (intOf ((wr.cell? ⟨b,1,none⟩).getD undef)).toNat)
 case atStart=>exact⟨0,vR,vH,by omega,by rw[Rd.run_zero];exact HRD.out,Nx.refl _ _ _ _⟩
 case round=>
  obtain⟨n,vR1,vH1,hn1,hr,hn⟩:=hrel
  have HR:=Lib.hid hr
  have HN:=Lib.hid hn
  obtain⟨p,hp⟩:∃ p,σ.at'+n=p:=⟨_,rfl⟩
  obtain⟨⟨b0,b1,_,_,_,_,_,_,_⟩,hfz⟩:=zgd hr.cells
  replace b1:wr.cell? ⟨b,1,none⟩=some (.int .i64 (p:Int)):=by rw[← hp];exact b1
  have f1:=hfz 1
  have HP:=Lib.hid hp
  by_cases hlp:p<len
  ·have hd:decide ((p:Int)<(len:Int))=true:=decide_eq_true zdC
   have hd':decide (p<len)=true:=decide_eq_true hlp
   have hpl:p<len:=by omega
   have hpT:p<(σ.run n).L.length:=by show p<σ.L.length;rw[HLN.out];exact hpl
   obtain rfl:=HOL.out (by intro e;rw[show(σ.run n).L=σ.L from rfl,e] at hpT;simp at hpT)
   obtain⟨c0,c1,c2⟩:=zgl hr.toks.cells p hpT
   rw[Nat.zero_add] at c0 c1 c2
   have hq0:(0:Int)≤(p:Int):=by omega
   have hq1:(p:Int)<(len:Int):=by omega
   obtain⟨t,ht⟩:∃ t,(σ.run n).L[p]=t:=⟨_,rfl⟩
   rw[ht] at c0 c1 c2
   have HTK:=Lib.hid ht
   have HLP:=Lib.hid hlp
   clear ht hp hn hfz hlp
   obtain⟨z,x1,x2⟩:=t
   simp only[] at c0 c1 c2
   have hbz:b<wr.heap.size:=(Array.getElem?_eq_some_iff.1 hr.cells).1
   have hgz:gL<wr.heap.size:=World.block_lt_of_cell? _ _ c0
   have HS:Hid (∀ u,Below wr.heap.size wr u→u.cell? ⟨b,0,none⟩=some (.slice (some ⟨gL,0,none⟩) len capL)∧u.cell? ⟨b,1,none⟩=some (.int .i64 (p:Int))∧u.cell? ⟨gL,p*3,none⟩=some (.int .i64 z)∧u.cell? ⟨gL,p*3+1,none⟩=some (.int .i64 x1)∧u.cell? ⟨gL,p*3+2,none⟩=some (.int .i64 x2)):=Lib.hid (fun u hu=>⟨(hu.cell (p:=⟨b,0,none⟩) hbz).trans b0,(hu.cell (p:=⟨b,1,none⟩) hbz).trans b1,(hu.cell (p:=⟨gL,p*3,none⟩) hgz).trans c0,(hu.cell (p:=⟨gL,p*3+1,none⟩) hgz).trans c1,(hu.cell (p:=⟨gL,p*3+2,none⟩) hgz).trans c2⟩)
   clear hr
   go_wp2_with fail
   go_region
   go_wp2_with fail
   go_cut [5] (fun v wx=>v=.pointer (some ⟨wr.heap.size,0,none⟩)∧wx.heap[wr.heap.size]? = some (.cells #[.int .i64 z,.int .i64 x1,.int .i64 x2] 55 (0,0))∧Below wr.heap.size wr wx)
   case first=>
    go_region_held3 (fun W'=>W'.cell? ⟨b,0,none⟩=some (.slice (some ⟨gL,0,none⟩) len capL)∧W'.cell? ⟨b,1,none⟩=some (.int .i64 (p:Int))∧W'.cell? ⟨gL,p*3,none⟩=some (.int .i64 z)∧W'.cell? ⟨gL,p*3+1,none⟩=some (.int .i64 x1)∧W'.cell? ⟨gL,p*3+2,none⟩=some (.int .i64 x2))
     (first|exact HS.out _ (Below.refl _ _).drew.drew|exact HS.out _ ((Below.refl _ _).drew.drew.alloc (Nat.le_refl _) _)|exact HS.out _ (Below.refl _ _).drew|exact HS.out _ ((Below.refl _ _).drew.alloc (Nat.le_refl _) _))
     (fail)
    all_goals(try go_wp2_with fail)
    all_goals go_meet
    all_goals exact⟨rfl,heap_alloc_last _ _,(by first|exact((Below.refl _ _).alloc (Nat.le_refl _) _).drew.drew|exact(((Below.refl _ _).drew.alloc (Nat.le_refl _) _)).drew|exact((Below.refl _ _).alloc (Nat.le_refl _) _).drew)⟩
   case rest=>exact zaN
  ·have hd:decide ((p:Int)<(len:Int))=false:=decide_eq_false zdC
   have hd':decide (p<len)=false:=decide_eq_false hlp
   have HE:Hid (len - σ.at'=n):=Lib.hid zdC
   have hlr:(σ.run n).R.length≤1099511627776:=by
    have:=HHR.out
    simp only[Rd.run,List.length_append,List.length_map,List.length_take,List.length_drop]
    omega
   obtain⟨⟨_,_,b2,_,_,_,_,_,_⟩,_⟩:=zgd hr.cells
   have hbz:b<wr.heap.size:=(Array.getElem?_eq_some_iff.1 hr.cells).1
   obtain⟨v',w',hrun,hm',hb'⟩:=zrJ hr.row.row hlr
   have HRUN:=Lib.hid hrun
   have HM:=Lib.hid hm'
   have HB:=Lib.hid hb'
   obtain⟨gR,oR,capR,hvR,_,_⟩:=hr.row.shape
   subst hvR
   have hxr:wr.heap[W.heap.size]? = some (.cells #[.int .i64 0,.int .i64 0,.int .i64 0] 37 (0,0)):=(hn.block _ (Array.getElem?_eq_some_iff.1 HX.out).1 (fun e=>hbx e.symm) hbR hbH).trans HX.out
   have hx':w'.heap[W.heap.size]? = some (.cells #[.int .i64 0,.int .i64 0,.int .i64 0] 37 (0,0)):=(hb'.block _ (Array.getElem?_eq_some_iff.1 hxr).1).trans hxr
   have x0:w'.cell? ⟨W.heap.size,0,none⟩=some (.int .i64 0):=by rw[cell_of_row w' _ 0 _ _ _ hx'];rfl
   have x1:w'.cell? ⟨W.heap.size,1,none⟩=some (.int .i64 0):=by rw[cell_of_row w' _ 1 _ _ _ hx'];rfl
   have x2:w'.cell? ⟨W.heap.size,2,none⟩=some (.int .i64 0):=by rw[cell_of_row w' _ 2 _ _ _ hx'];rfl
   have z0:=frozen_of_row w' W.heap.size 0 _ _ hx'
   have z1:=frozen_of_row w' W.heap.size 1 _ _ hx'
   have z2:=frozen_of_row w' W.heap.size 2 _ _ hx'
   have HXX:=Lib.hid hx'
   have HFN:Hid (∀ w'',(∀ k,k≠W.heap.size→w''.heap[k]? = w'.heap[k]?)→w''.heap.size=w'.heap.size→w''.os=w'.os→w''.tape=w'.tape→w''.output=w'.output→RdAt w'' b (.slice oL len capL) (.slice oR (σ.run n).R.length capR) vH1 (σ.run (len - σ.at'))∧Nx W b vR vH w'' (.slice oR (σ.run n).R.length capR) vH1∧Mine nd w'' 0 v' (σ.run (len - σ.at')).R):=Lib.hid (fun w'' hs hz ho ht hp'=>by
    rw[HE.out]
    exact⟨(hr.below hb').beside ⟨_,hx'⟩ hs,zpx HB1.out hn hb' hs hz ho ht hp',(hm'.mono (Nat.zero_le _)).keep (fun k hk _=>hs k (fun e=>hm'.ne hx' zdD zdO))⟩)
   clear hr hn hp hlp hrun hm' hb' hlr hxr hx'
   go_wp2_with fail
   go_region
   go_wp2_with (at_builtin;refine Lib.wpList_append_run _ rfl _ _ _ _ rfl _ _ rfl rfl _ _ (HRUN.out _) ?_)
   try simp only[Exit.inBlock,Exit.then]
   have hbox:(((w'.setCell ⟨W.heap.size,0,none⟩ (.int .i64 0)).setCell ⟨W.heap.size,1,none⟩ (.int .i64 0)).setCell ⟨W.heap.size,2,none⟩ (.int .i64 0)).heap[W.heap.size]? = some (.cells #[.int .i64 0,.int .i64 0,.int .i64 0] 37 (0,0)):=heap_setCell_same _ _ 2 _ _ _ (heap_setCell_same _ _ 1 _ _ _ (heap_setCell_same _ _ 0 _ _ _ HXX.out))
   refine bodyPost_ret (zhN rfl _ _ W.heap.size 37 _ (0,0) _ rfl hbox Tryz.underlying37 rfl (by as_aux_lemma=>kernel_rfl)) rfl ?_
   exact⟨_,_,_,rfl,HFN.out _ (zgq _ _ _ _ _) zdP rfl rfl rfl⟩
theorem zpK {W:World} {b:Nat} {vL vR vH:Value} {σ:Rd} (h:RdAt W b vL vR vH σ) (hf:σ.failed=true) :
  Calls Tryz.prog 16 #[.pointer (some ⟨b,0,none⟩)] W fun e w'=>∃ vR' vH',e=.returned (.tuple #[.slice none 0 0,.agg #[.int .i64 (σ).d0,.int .i64 (σ).d1,.int .i64 (σ).d2],.bool false])∧RdAt w' b vL vR' vH' (σ)∧Nx W b vR vH w' vR' vH':=by
 have hB1:Below W.heap.size W (W.alloc (.cells #[.int .i64 0,.int .i64 0,.int .i64 0] 37)):=(Below.refl _ _).alloc (Nat.le_refl _) _
 have hX:(W.alloc (.cells #[.int .i64 0,.int .i64 0,.int .i64 0] 37)).heap[W.heap.size]? = some (.cells #[.int .i64 0,.int .i64 0,.int .i64 0] 37 (0,0)):=heap_alloc_last _ _
 obtain⟨W1,hW1⟩:∃ W1,W.alloc (.cells #[.int .i64 0,.int .i64 0,.int .i64 0] 37)=W1:=⟨_,rfl⟩
 rw[hW1] at hB1 hX
 have HB1:=Lib.hid hB1
 have HX:=Lib.hid hX
 replace h:=h.below hB1
 have hbx:b≠W.heap.size:=by rintro rfl;rw[h.cells] at hX;simp only[Option.some.injEq,Obj.cells.injEq] at hX;exact absurd hX.2.1 zdD
 have hbR:=h.row.ne hX zdD
 have hbH:=h.high.ne hX zdD
 have HRD:=Lib.hid h
 have HK:=Lib.hid (zhS h)
 have h0:σ.ahead 0=0:=by unfold Rd.ahead;rw[hf];rfl
 rw[h0] at HK
 have HW1:=Lib.hid hW1
 clear h h0 hB1 hX hW1
 have h2:=HRD.out
 have hn2:Nx W1 b vR vH W1 vR vH:=Nx.refl _ _ _ _
 have hf2:=hf
 obtain⟨⟨_,_,_,_,_,b5,b6,b7,b8⟩,_⟩:=zgd h2.cells
 rw[hf2] at b8
 have hxr:W1.heap[W.heap.size]? = some (.cells #[.int .i64 0,.int .i64 0,.int .i64 0] 37 (0,0)):=(hn2.block _ (Array.getElem?_eq_some_iff.1 HX.out).1 (fun e=>hbx e.symm) hbR hbH).trans HX.out
 have x0:W1.cell? ⟨W.heap.size,0,none⟩=some (.int .i64 0):=by rw[cell_of_row W1 _ 0 _ _ _ hxr];rfl
 have x1:W1.cell? ⟨W.heap.size,1,none⟩=some (.int .i64 0):=by rw[cell_of_row W1 _ 1 _ _ _ hxr];rfl
 have x2:W1.cell? ⟨W.heap.size,2,none⟩=some (.int .i64 0):=by rw[cell_of_row W1 _ 2 _ _ _ hxr];rfl
 have z0:=frozen_of_row W1 W.heap.size 0 _ _ hxr
 have z1:=frozen_of_row W1 W.heap.size 1 _ _ hxr
 have z2:=frozen_of_row W1 W.heap.size 2 _ _ hxr
 have HXX:=Lib.hid hxr
 have HFN:Hid (∀ w'',(∀ k,k≠W.heap.size→w''.heap[k]? = W1.heap[k]?)→w''.heap.size=W1.heap.size→w''.os=W1.os→w''.tape=W1.tape→w''.output=W1.output→RdAt w'' b vL vR vH (σ)∧Nx W b vR vH w'' vR vH):=Lib.hid (fun w'' hs hz ho ht hp'=>
  ⟨h2.beside ⟨_,hxr⟩ hs,zpx HB1.out hn2 (Below.refl _ _) hs hz ho ht hp'⟩)
 clear h2 hn2 hxr
 go_enter Tryz.func16,Tryz.ntmps16
 go_wp2_with (first|(go_at_call 58;rw[HW1.out];refine HK.out.mono ?_;rintro e w2 ⟨rfl,rfl⟩))
 go_region
 all_goals(try go_wp2_with fail)
 try simp only[Exit.inBlock,Exit.then]
 have hbox:(((W1.setCell ⟨W.heap.size,0,none⟩ (.int .i64 (σ).d0)).setCell ⟨W.heap.size,1,none⟩ (.int .i64 (σ).d1)).setCell ⟨W.heap.size,2,none⟩ (.int .i64 (σ).d2)).heap[W.heap.size]? = some (.cells #[(.int .i64 (σ).d0),(.int .i64 (σ).d1),(.int .i64 (σ).d2)] 37 (0,0)):=heap_setCell_same _ _ 2 _ _ _ (heap_setCell_same _ _ 1 _ _ _ (heap_setCell_same _ _ 0 _ _ _ HXX.out))
 exact zbL
theorem zpk {W:World} {b:Nat} {vL vR vH:Value} {σ:Rd} (h:RdAt W b vL vR vH σ) (hf:σ.failed=false) (hk:σ.ahead 0≠0) :
  Calls Tryz.prog 16 #[.pointer (some ⟨b,0,none⟩)] W fun e w'=>∃ vR' vH',e=.returned (.tuple #[.slice none 0 0,.agg #[.int .i64 (σ.fail 201).d0,.int .i64 (σ.fail 201).d1,.int .i64 (σ.fail 201).d2],.bool false])∧RdAt w' b vL vR' vH' (σ.fail 201)∧Nx W b vR vH w' vR' vH':=by
 have hB1:Below W.heap.size W (W.alloc (.cells #[.int .i64 0,.int .i64 0,.int .i64 0] 37)):=(Below.refl _ _).alloc (Nat.le_refl _) _
 have hX:(W.alloc (.cells #[.int .i64 0,.int .i64 0,.int .i64 0] 37)).heap[W.heap.size]? = some (.cells #[.int .i64 0,.int .i64 0,.int .i64 0] 37 (0,0)):=heap_alloc_last _ _
 obtain⟨W1,hW1⟩:∃ W1,W.alloc (.cells #[.int .i64 0,.int .i64 0,.int .i64 0] 37)=W1:=⟨_,rfl⟩
 rw[hW1] at hB1 hX
 have HB1:=Lib.hid hB1
 have HX:=Lib.hid hX
 replace h:=h.below hB1
 have hbx:b≠W.heap.size:=by rintro rfl;rw[h.cells] at hX;simp only[Option.some.injEq,Obj.cells.injEq] at hX;exact absurd hX.2.1 zdD
 have hbR:=h.row.ne hX zdD
 have hbH:=h.high.ne hX zdD
 have HRD:=Lib.hid h
 have HK:=Lib.hid (zhS h)
 have HF:=Lib.hid (zja h 201)
 have hf2:(σ.fail 201).failed=true:=by unfold Rd.fail;rw[hf];rfl
 have hk0:(σ.ahead 0 == 0)=false:=beq_eq_false_iff_ne.2 hk
 generalize σ.ahead 0=k0 at *
 have HW1:=Lib.hid hW1
 clear h hB1 hX hW1
 go_enter Tryz.func16,Tryz.ntmps16
 go_wp2_with (first|(go_at_call 58;rw[HW1.out];refine HK.out.mono ?_;rintro e w2 ⟨rfl,rfl⟩))
 go_at_call 46
 refine HF.out.mono ?_
 rintro e w2 ⟨v2,vR2,vH2,rfl,h2,hn2⟩
 obtain⟨⟨_,_,_,_,_,b5,b6,b7,b8⟩,_⟩:=zgd h2.cells
 rw[hf2] at b8
 have hxr:w2.heap[W.heap.size]? = some (.cells #[.int .i64 0,.int .i64 0,.int .i64 0] 37 (0,0)):=(hn2.block _ (Array.getElem?_eq_some_iff.1 HX.out).1 (fun e=>hbx e.symm) hbR hbH).trans HX.out
 have x0:w2.cell? ⟨W.heap.size,0,none⟩=some (.int .i64 0):=by rw[cell_of_row w2 _ 0 _ _ _ hxr];rfl
 have x1:w2.cell? ⟨W.heap.size,1,none⟩=some (.int .i64 0):=by rw[cell_of_row w2 _ 1 _ _ _ hxr];rfl
 have x2:w2.cell? ⟨W.heap.size,2,none⟩=some (.int .i64 0):=by rw[cell_of_row w2 _ 2 _ _ _ hxr];rfl
 have z0:=frozen_of_row w2 W.heap.size 0 _ _ hxr
 have z1:=frozen_of_row w2 W.heap.size 1 _ _ hxr
 have z2:=frozen_of_row w2 W.heap.size 2 _ _ hxr
 have HXX:=Lib.hid hxr
 have HFN:Hid (∀ w'',(∀ k,k≠W.heap.size→w''.heap[k]? = w2.heap[k]?)→w''.heap.size=w2.heap.size→w''.os=w2.os→w''.tape=w2.tape→w''.output=w2.output→RdAt w'' b vL vR2 vH2 (σ.fail 201)∧Nx W b vR vH w'' vR2 vH2):=Lib.hid (fun w'' hs hz ho ht hp'=>
  ⟨h2.beside ⟨_,hxr⟩ hs,zpx HB1.out hn2 (Below.refl _ _) hs hz ho ht hp'⟩)
 clear h2 hn2 hxr
 go_wp2_with fail
 go_region
 all_goals(try go_wp2_with fail)
 try simp only[Exit.inBlock,Exit.then]
 have hbox:(((w2.setCell ⟨W.heap.size,0,none⟩ (.int .i64 (σ.fail 201).d0)).setCell ⟨W.heap.size,1,none⟩ (.int .i64 (σ.fail 201).d1)).setCell ⟨W.heap.size,2,none⟩ (.int .i64 (σ.fail 201).d2)).heap[W.heap.size]? = some (.cells #[(.int .i64 (σ.fail 201).d0),(.int .i64 (σ.fail 201).d1),(.int .i64 (σ.fail 201).d2)] 37 (0,0)):=heap_setCell_same _ _ 2 _ _ _ (heap_setCell_same _ _ 1 _ _ _ (heap_setCell_same _ _ 0 _ _ _ HXX.out))
 exact zbL
open Go.RowKit
end Go.Proofs.YtcekbbkidipbnaaGreat.rd
