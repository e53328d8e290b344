/-
  Texts put together: Kb, Kn, Ko, Fc.
-/
import Derived.Test.YtmelbeefjgjdhaaGreatP2
import Derived.Test.YtmelbeefjgjdhaaGreatP3
set_option maxRecDepth 100000
set_option maxHeartbeats 8000000
namespace Go.Proofs.YtmelbeefjgjdhaaGreat.rd
open Go.RowKit
theorem copy_nodes {u:World} {v:Value} {R:List Rn} (hr:Row nd u v R) (hn:R.length≤1099511627776) :
  ∃ v' w',(∀ ty,(Builtin.append_ #[35,35] ty #[.slice (some ⟨u.heap.size,0,none⟩) 0 0,v]).run Tryz.prog (u.alloc (.cells #[] 43)).drew=.ok v' w')∧Mine nd w' u.heap.size v' R∧Below u.heap.size u w':=by
 have h0:Mine nd (u.alloc (.cells #[] nd.e)) u.heap.size (.slice (some ⟨u.heap.size,0,none⟩) 0 0) []:=World.ownsRow_made u #[] 0 (Nat.le_refl _) (by decide) rfl
 have hB:Below u.heap.size u (u.alloc (.cells #[] nd.e)).drew:=((Below.refl _ _).alloc (Nat.le_refl _) _).drew
 obtain⟨v',w',hrun,hown,hgr⟩:=run_append_row (F:=nd) (h0.below (Below.refl _ _).drew) (hr.below hB) hB.size (by simp [maxLen];omega) (by show(0+R.length)*nd.bytes≤_;simp only[nd];omega)
 exact⟨v',w',hrun,hown,hB.grown hgr (by simp) (fun k hk=>by cases hk;exact Nat.le_refl _)⟩
theorem results_mix {P:Program} {fn:Func} {t p u:Tmp} {ty:TypeId} (h:fn.results=#[.tmp t,.cell p ty,.tmp u]) (tmps:Array Value) (w:World) (g:Nat) (e:TypeId) (cs:Array Value) (fr:Nat × Nat) (d:TypeDesc)
  (hp:tmps.getD p undef=.pointer (some ⟨g,0,none⟩)) (hg:w.heap[g]? = some (.cells cs e fr)) (hu:P.underlying ty=some d) (hd:(match d with|.struct _|.array _ _=>true|_=>false)=true) (hi:(P.info? ty).map (·.size)=some cs.size) :
  (results fn tmps).run P w=.ok (.tuple #[tmps.getD t undef,.agg cs,tmps.getD u undef]) w:=by
 have hp':tmps[p]?.getD undef=.pointer (some ⟨g,0,none⟩):=by simpa using hp
 simp [results,h,hp',asAddr,run_loadVar_row w g e ty cs fr d hg hu hd hi]
theorem results_mix2 {P:Program} {fn:Func} {q p u:Tmp} {ty ty2:TypeId} (h:fn.results=#[.cell q ty2,.cell p ty,.tmp u]) (tmps:Array Value) (w:World) (g g2:Nat) (e e2:TypeId) (cs cs2:Array Value) (fr fr2:Nat × Nat) (d d2:TypeDesc)
  (hp:tmps.getD p undef=.pointer (some ⟨g,0,none⟩)) (hg:w.heap[g]? = some (.cells cs e fr)) (hu:P.underlying ty=some d) (hd:(match d with|.struct _|.array _ _=>true|_=>false)=true) (hi:(P.info? ty).map (·.size)=some cs.size)
  (hp2:tmps.getD q undef=.pointer (some ⟨g2,0,none⟩)) (hg2:w.heap[g2]? = some (.cells cs2 e2 fr2)) (hu2:P.underlying ty2=some d2) (hd2:(match d2 with|.struct _|.array _ _=>true|_=>false)=true) (hi2:(P.info? ty2).map (·.size)=some cs2.size) :
  (results fn tmps).run P w=.ok (.tuple #[.agg cs2,.agg cs,tmps.getD u undef]) w:=by
 have hp':tmps[p]?.getD undef=.pointer (some ⟨g,0,none⟩):=by simpa using hp
 have hp2':tmps[q]?.getD undef=.pointer (some ⟨g2,0,none⟩):=by simpa using hp2
 simp [results,h,hp',hp2',asAddr,run_loadVar_row w g e ty cs fr d hg hu hd hi,run_loadVar_row w g2 e2 ty2 cs2 fr2 d2 hg2 hu2 hd2 hi2]
theorem three_set (w:World) (X:Nat) (x0 x1 x2:Value):∀ k,k≠X→(((w.setCell ⟨X,0,none⟩ x0).setCell ⟨X,1,none⟩ x1).setCell ⟨X,2,none⟩ x2).heap[k]? = w.heap[k]?:=fun k hk=>by
 rw[set_one _ _ _ _ _ hk,set_one _ _ _ _ _ hk,set_one _ _ _ _ _ hk]
theorem RdAt.beside {w w':World} {b X:Nat} {vL vR vH:Value} {σ:Rd} (h:RdAt w b vL vR vH σ) (hX:∃ cs,w.heap[X]? = some (.cells cs 37 (0,0))) (hs:∀ k,k≠X→w'.heap[k]? = w.heap[k]?):RdAt w' b vL vR vH σ:=by
 obtain⟨cs,hX⟩:=hX
 have hbx:b≠X:=by rintro rfl;rw[h.cells] at hX;simp only[Option.some.injEq,Obj.cells.injEq] at hX;exact absurd hX.2.1 (by decide)
 refine⟨(hs b hbx).trans h.cells,h.toks.keep (fun k hk _=>hs k (fun e=>h.toks.ne hX (by decide) (by rw[← e];exact hk))),h.row.keep (fun k hk _=>hs k (fun e=>h.row.ne hX (by decide) (by rw[← e];exact hk))),h.high.keep (fun k hk _=>hs k (fun e=>h.high.ne hX (by decide) (by rw[← e];exact hk))),h.read,h.few⟩
theorem nx_box {W W1 wr w' w'':World} {b:Nat} {vR vH vR1 vH1:Value} (hB1:Below W.heap.size W W1) (hn:Nx W1 b vR vH wr vR1 vH1) (hb':Below wr.heap.size wr w') (hs:∀ k,k≠W.heap.size→w''.heap[k]? = w'.heap[k]?) (hz:w''.heap.size=w'.heap.size) (ho:w''.os=w'.os) (ht:w''.tape=w'.tape) (hp:w''.output=w'.output):Nx W b vR vH w'' vR1 vH1:=by
 have h1:=(Nx.below hB1:Nx W b vR vH W1 vR vH).trans (hn.trans (Nx.below hb'))
 refine⟨ho.trans h1.os,ht.trans h1.tape,hp.trans h1.output,by rw[hz];exact h1.size,fun k hk a b c=>(hs k (by omega)).trans (h1.block k hk a b c),h1.newR,h1.newH⟩
theorem refDone_ok {W:World} {b:Nat} {vL vR vH:Value} {σ:Rd} (h:RdAt W b vL vR vH σ) (h0:σ.ahead 0=0) (hf:σ.failed=false) (hR:σ.R.length+σ.L.length≤1099511627776) (hH:σ.H.length+σ.L.length≤1099511627776) :
  Calls Tryz.prog 16 #[.pointer (some ⟨b,0,none⟩)] W fun e w'=>∃ v vR' vH',e=.returned (.tuple #[v,.agg #[.int .i64 0,.int .i64 0,.int .i64 0],.bool true])∧RdAt w' b vL vR' vH' (σ.run (σ.L.length - σ.at'))∧Nx W b vR vH w' vR' vH'∧Mine nd w' 0 v (σ.run (σ.L.length - σ.at')).R:=by
 have hB1:Below W.heap.size W (W.alloc (.cells #[.int .i64 0,.int .i64 0,.int .i64 0] 37)):=(Below.refl _ _).alloc (Nat.le_refl _) _
 have hX:(W.alloc (.cells #[.int .i64 0,.int .i64 0,.int .i64 0] 37)).heap[W.heap.size]? = some (.cells #[.int .i64 0,.int .i64 0,.int .i64 0] 37 (0,0)):=heap_alloc_last _ _
 obtain⟨W1,hW1⟩:∃ W1,W.alloc (.cells #[.int .i64 0,.int .i64 0,.int .i64 0] 37)=W1:=⟨_,rfl⟩
 rw[hW1] at hB1 hX
 have HB1:=Lib.hid hB1
 have HX:=Lib.hid hX
 replace h:=h.below hB1
 have hbx:b≠W.heap.size:=by rintro rfl;rw[h.cells] at hX;simp only[Option.some.injEq,Obj.cells.injEq] at hX;exact absurd hX.2.1 (by decide)
 have hbR:=h.row.ne hX (by decide)
 have hbH:=h.high.ne hX (by decide)
 have HRD:=Lib.hid h
 have HK:=Lib.hid (kind_any h)
 have HHR:=Lib.hid hR
 have HHH:=Lib.hid hH
 have hge:=h.read
 rw[h0] at HK
 have hfew:=h.few
 obtain⟨⟨_,_,_,_,_,_,_,_,b8⟩,_⟩:=nine_at h.cells
 rw[hf] at b8
 obtain⟨gL,oL,capL,hv,ho,_⟩:=h.toks.shape
 subst hv
 have HOL:=Lib.hid ho
 clear ho
 obtain⟨len,hlen⟩:∃ len,σ.L.length=len:=⟨_,rfl⟩
 rw[hlen] at hge hfew HRD ⊢
 have HLN:=Lib.hid hlen
 have HW1:=Lib.hid hW1
 clear h h0 hR hH hlen hB1 hX hW1
 go_enter Tryz.func16,Tryz.ntmps16
 go_wp2_with (first|(go_at_call 58;rw[HW1.out];refine HK.out.mono ?_;rintro e w' ⟨rfl,rfl⟩))
 clear b8
 go_loopw [] (fun wr=>∃ (n:Nat) (vR1 vH1:Value),σ.at'+n≤len∧RdAt wr b (.slice oL len capL) vR1 vH1 (σ.run n)∧Nx W1 b vR vH wr vR1 vH1) (fun wr=>len - (intOf ((wr.cell? ⟨b,1,none⟩).getD undef)).toNat)
 case atStart=>exact⟨0,vR,vH,by omega,by rw[Rd.run_zero];exact HRD.out,Nx.refl _ _ _ _⟩
 case round=>
  obtain⟨n,vR1,vH1,hn1,hr,hn⟩:=hrel
  have HR:=Lib.hid hr
  have HN:=Lib.hid hn
  obtain⟨p,hp⟩:∃ p,σ.at'+n=p:=⟨_,rfl⟩
  obtain⟨⟨b0,b1,_,_,_,_,_,_,_⟩,hfz⟩:=nine_at hr.cells
  replace b1:wr.cell? ⟨b,1,none⟩=some (.int .i64 (p:Int)):=by rw[← hp];exact b1
  have f1:=hfz 1
  have HP:=Lib.hid hp
  by_cases hlp:p<len
  ·have hd:decide ((p:Int)<(len:Int))=true:=decide_eq_true (by omega)
   have hd':decide (p<len)=true:=decide_eq_true hlp
   have hpl:p<len:=by omega
   have hpT:p<(σ.run n).L.length:=by show p<σ.L.length;rw[HLN.out];exact hpl
   obtain rfl:=HOL.out (by intro e;rw[show(σ.run n).L=σ.L from rfl,e] at hpT;simp at hpT)
   obtain⟨c0,c1,c2⟩:=cells_tk hr.toks.cells p hpT
   rw[Nat.zero_add] at c0 c1 c2
   have hq0:(0:Int)≤(p:Int):=by omega
   have hq1:(p:Int)<(len:Int):=by omega
   obtain⟨t,ht⟩:∃ t,(σ.run n).L[p]=t:=⟨_,rfl⟩
   rw[ht] at c0 c1 c2
   have HTK:=Lib.hid ht
   have HLP:=Lib.hid hlp
   clear ht hp hn hfz hlp
   obtain⟨z,x1,x2⟩:=t
   simp only[] at c0 c1 c2
   have hbz:b<wr.heap.size:=(Array.getElem?_eq_some_iff.1 hr.cells).1
   have hgz:gL<wr.heap.size:=World.block_lt_of_cell? _ _ c0
   have HS:Hid (∀ u,Below wr.heap.size wr u→u.cell? ⟨b,0,none⟩=some (.slice (some ⟨gL,0,none⟩) len capL)∧u.cell? ⟨b,1,none⟩=some (.int .i64 (p:Int))∧u.cell? ⟨gL,p*3,none⟩=some (.int .i64 z)∧u.cell? ⟨gL,p*3+1,none⟩=some (.int .i64 x1)∧u.cell? ⟨gL,p*3+2,none⟩=some (.int .i64 x2)):=Lib.hid (fun u hu=>⟨(hu.cell (p:=⟨b,0,none⟩) hbz).trans b0,(hu.cell (p:=⟨b,1,none⟩) hbz).trans b1,(hu.cell (p:=⟨gL,p*3,none⟩) hgz).trans c0,(hu.cell (p:=⟨gL,p*3+1,none⟩) hgz).trans c1,(hu.cell (p:=⟨gL,p*3+2,none⟩) hgz).trans c2⟩)
   clear hr
   go_wp2_with fail
   go_region
   go_wp2_with fail
   go_cut [5] (fun v wx=>v=.pointer (some ⟨wr.heap.size,0,none⟩)∧wx.heap[wr.heap.size]? = some (.cells #[.int .i64 z,.int .i64 x1,.int .i64 x2] 55 (0,0))∧Below wr.heap.size wr wx)
   case first=>
    go_region_held3 (fun W'=>W'.cell? ⟨b,0,none⟩=some (.slice (some ⟨gL,0,none⟩) len capL)∧W'.cell? ⟨b,1,none⟩=some (.int .i64 (p:Int))∧W'.cell? ⟨gL,p*3,none⟩=some (.int .i64 z)∧W'.cell? ⟨gL,p*3+1,none⟩=some (.int .i64 x1)∧W'.cell? ⟨gL,p*3+2,none⟩=some (.int .i64 x2))
     (first|exact HS.out _ (Below.refl _ _).drew.drew|exact HS.out _ ((Below.refl _ _).drew.drew.alloc (Nat.le_refl _) _)|exact HS.out _ (Below.refl _ _).drew|exact HS.out _ ((Below.refl _ _).drew.alloc (Nat.le_refl _) _))
     (fail)
    all_goals(try go_wp2_with fail)
    all_goals go_meet
    all_goals exact⟨rfl,heap_alloc_last _ _,(by first|exact((Below.refl _ _).alloc (Nat.le_refl _) _).drew.drew|exact(((Below.refl _ _).drew.alloc (Nat.le_refl _) _)).drew|exact((Below.refl _ _).alloc (Nat.le_refl _) _).drew)⟩
   case rest=>
    obtain⟨rfl,hcell,hb⟩:=hcut
    have hrc:=HR.out.below hb
    have y0:wc.cell? ⟨wr.heap.size,0,none⟩=some (.int .i64 z):=by rw[cell_of_row wc _ 0 _ _ _ hcell];rfl
    have y1:wc.cell? ⟨wr.heap.size,1,none⟩=some (.int .i64 x1):=by rw[cell_of_row wc _ 1 _ _ _ hcell];rfl
    have y2:wc.cell? ⟨wr.heap.size,2,none⟩=some (.int .i64 x2):=by rw[cell_of_row wc _ 2 _ _ _ hcell];rfl
    have hnL:n<σ.L.length:=by have:=HP.out;have:=HLN.out;omega
    have hlr:(σ.run n).R.length≤1099511627776:=by
     have:=HHR.out
     simp only[Rd.run,List.length_append,List.length_map,List.length_take,List.length_drop]
     omega
    have hlh:(σ.run n).H.length≤1099511627776:=by
     have:=HHH.out
     simp only[Rd.run,List.length_append,List.length_replicate]
     omega
    have hpu:Calls Tryz.prog 67 #[.pointer (some ⟨b,0,none⟩),.agg #[.int .i64 z,.int .i64 x1,.int .i64 x2,.slice none 0 0],.int .i64 0] wc (Steps wc b (.slice (some ⟨gL,0,none⟩) len capL) vR1 vH1 { σ.run n with R:=(σ.run n).R ++ [leaf ⟨z,x1,x2⟩],H:=(σ.run n).H ++ [0] }):=push_any hrc (leaf ⟨z,x1,x2⟩) 0 hlr hlh
    have HPU:=Lib.hid hpu
    have HB:=Lib.hid hb
    clear hpu hlr hlh hrc hcell hb hnL
    go_wp2_with (go_at_call 67;refine HPU.out.mono ?_;rintro e w3 ⟨v,vR2,vH2,rfl,hr3,hn3⟩;have HR3:=Lib.hid hr3;have HN3:=Lib.hid hn3;obtain⟨⟨_,d1,_,_,_,_,_,_,_⟩,hfz3⟩:=nine_at hr3.cells;replace d1:w3.cell? ⟨b,1,none⟩=some (.int .i64 (p:Int)):=(by rw[← HP.out];exact d1);have f1':=hfz3 1;clear hr3 hn3 hfz3)
    go_roundw
    case rel=>
     have hs:∀ k,k<w3.heap.size→k≠b→(w3.setCell ⟨b,1,none⟩ (.int .i64 ((p:Int)+1))).heap[k]? = w3.heap[k]?:=fun k _ hk=>set_one _ _ _ _ _ hk
     refine⟨n+1,vR2,vH2,by have:=HP.out;have:=HLP.out;omega,?_,HN.out.trans ((Nx.below HB.out).trans (HN3.out.trans (Nx.own rfl rfl rfl (by rw[size_set]) hs)))⟩
     obtain rfl:=HP.out
     have hlT:σ.at'+n<σ.L.length:=by rw[HLN.out];exact hpl
     have htk:σ.L[σ.at'+n]=⟨z,x1,x2⟩:=HTK.out
     rw[Rd.run_succ _ _ hlT,htk]
     refine HR3.out.put hs ?_ rfl rfl rfl (by show σ.at'+(n+1)≤σ.L.length;omega)
     have:=heap_setCell_same w3 b 1 _ _ (.int .i64 (((σ.at'+n:Nat):Int)+1)) HR3.out.cells
     rw[this]
     show _=some (Obj.cells #[_,.int .i64 ((σ.at'+(n+1):Nat):Int),_,_,_,_,_,_,_] _ _)
     rw[show((σ.at'+(n+1):Nat):Int)=((σ.at'+n:Nat):Int)+1 by omega]
     rfl
    case measure=>
     have e1:(w3.setCell ⟨b,1,none⟩ (.int .i64 ((p:Int)+1))).cell? ⟨b,1,none⟩=some (.int .i64 ((p:Int)+1)):=by rw[cell_of_row _ b 1 _ _ _ (heap_setCell_same w3 b 1 _ _ _ HR3.out.cells)];rfl
     rw[e1,b1]
     simp only[Option.getD_some,intOf]
     have:=HLP.out
     omega
  ·have hd:decide ((p:Int)<(len:Int))=false:=decide_eq_false (by omega)
   have hd':decide (p<len)=false:=decide_eq_false hlp
   have HE:Hid (len - σ.at'=n):=Lib.hid (by omega)
   have hlr:(σ.run n).R.length≤1099511627776:=by
    have:=HHR.out
    simp only[Rd.run,List.length_append,List.length_map,List.length_take,List.length_drop]
    omega
   obtain⟨⟨_,_,b2,_,_,_,_,_,_⟩,_⟩:=nine_at hr.cells
   have hbz:b<wr.heap.size:=(Array.getElem?_eq_some_iff.1 hr.cells).1
   obtain⟨v',w',hrun,hm',hb'⟩:=copy_nodes hr.row.row hlr
   have HRUN:=Lib.hid hrun
   have HM:=Lib.hid hm'
   have HB:=Lib.hid hb'
   obtain⟨gR,oR,capR,hvR,_,_⟩:=hr.row.shape
   subst hvR
   have hxr:wr.heap[W.heap.size]? = some (.cells #[.int .i64 0,.int .i64 0,.int .i64 0] 37 (0,0)):=(hn.block _ (Array.getElem?_eq_some_iff.1 HX.out).1 (fun e=>hbx e.symm) hbR hbH).trans HX.out
   have hx':w'.heap[W.heap.size]? = some (.cells #[.int .i64 0,.int .i64 0,.int .i64 0] 37 (0,0)):=(hb'.block _ (Array.getElem?_eq_some_iff.1 hxr).1).trans hxr
   have x0:w'.cell? ⟨W.heap.size,0,none⟩=some (.int .i64 0):=by rw[cell_of_row w' _ 0 _ _ _ hx'];rfl
   have x1:w'.cell? ⟨W.heap.size,1,none⟩=some (.int .i64 0):=by rw[cell_of_row w' _ 1 _ _ _ hx'];rfl
   have x2:w'.cell? ⟨W.heap.size,2,none⟩=some (.int .i64 0):=by rw[cell_of_row w' _ 2 _ _ _ hx'];rfl
   have z0:=frozen_of_row w' W.heap.size 0 _ _ hx'
   have z1:=frozen_of_row w' W.heap.size 1 _ _ hx'
   have z2:=frozen_of_row w' W.heap.size 2 _ _ hx'
   have HXX:=Lib.hid hx'
   have HFN:Hid (∀ w'',(∀ k,k≠W.heap.size→w''.heap[k]? = w'.heap[k]?)→w''.heap.size=w'.heap.size→w''.os=w'.os→w''.tape=w'.tape→w''.output=w'.output→RdAt w'' b (.slice oL len capL) (.slice oR (σ.run n).R.length capR) vH1 (σ.run (len - σ.at'))∧Nx W b vR vH w'' (.slice oR (σ.run n).R.length capR) vH1∧Mine nd w'' 0 v' (σ.run (len - σ.at')).R):=Lib.hid (fun w'' hs hz ho ht hp'=>by
    rw[HE.out]
    exact⟨(hr.below hb').beside ⟨_,hx'⟩ hs,nx_box HB1.out hn hb' hs hz ho ht hp',(hm'.mono (Nat.zero_le _)).keep (fun k hk _=>hs k (fun e=>hm'.ne hx' (by decide) (by rw[← e];exact hk)))⟩)
   clear hr hn hp hlp hrun hm' hb' hlr hxr hx'
   go_wp2_with fail
   go_region
   go_wp2_with (at_builtin;refine Lib.wpList_append_run _ rfl _ _ _ _ rfl _ _ rfl rfl _ _ (HRUN.out _) ?_)
   try simp only[Exit.inBlock,Exit.then]
   have hbox:(((w'.setCell ⟨W.heap.size,0,none⟩ (.int .i64 0)).setCell ⟨W.heap.size,1,none⟩ (.int .i64 0)).setCell ⟨W.heap.size,2,none⟩ (.int .i64 0)).heap[W.heap.size]? = some (.cells #[.int .i64 0,.int .i64 0,.int .i64 0] 37 (0,0)):=heap_setCell_same _ _ 2 _ _ _ (heap_setCell_same _ _ 1 _ _ _ (heap_setCell_same _ _ 0 _ _ _ HXX.out))
   refine bodyPost_ret (results_mix rfl _ _ W.heap.size 37 _ (0,0) _ rfl hbox Tryz.underlying37 rfl (by as_aux_lemma=>kernel_rfl)) rfl ?_
   exact⟨_,_,_,rfl,HFN.out _ (three_set _ _ _ _ _) (by first|(rw[size_set,size_set,size_set];done)|(show(World.setCell _ _ _).heap.size=_;rw[size_set,size_set,size_set])) rfl rfl rfl⟩
theorem refDone_bad {W:World} {b:Nat} {vL vR vH:Value} {σ:Rd} (h:RdAt W b vL vR vH σ) (hf:σ.failed=true) :
  Calls Tryz.prog 16 #[.pointer (some ⟨b,0,none⟩)] W fun e w'=>∃ vR' vH',e=.returned (.tuple #[.slice none 0 0,.agg #[.int .i64 (σ).d0,.int .i64 (σ).d1,.int .i64 (σ).d2],.bool false])∧RdAt w' b vL vR' vH' (σ)∧Nx W b vR vH w' vR' vH':=by
 have hB1:Below W.heap.size W (W.alloc (.cells #[.int .i64 0,.int .i64 0,.int .i64 0] 37)):=(Below.refl _ _).alloc (Nat.le_refl _) _
 have hX:(W.alloc (.cells #[.int .i64 0,.int .i64 0,.int .i64 0] 37)).heap[W.heap.size]? = some (.cells #[.int .i64 0,.int .i64 0,.int .i64 0] 37 (0,0)):=heap_alloc_last _ _
 obtain⟨W1,hW1⟩:∃ W1,W.alloc (.cells #[.int .i64 0,.int .i64 0,.int .i64 0] 37)=W1:=⟨_,rfl⟩
 rw[hW1] at hB1 hX
 have HB1:=Lib.hid hB1
 have HX:=Lib.hid hX
 replace h:=h.below hB1
 have hbx:b≠W.heap.size:=by rintro rfl;rw[h.cells] at hX;simp only[Option.some.injEq,Obj.cells.injEq] at hX;exact absurd hX.2.1 (by decide)
 have hbR:=h.row.ne hX (by decide)
 have hbH:=h.high.ne hX (by decide)
 have HRD:=Lib.hid h
 have HK:=Lib.hid (kind_any h)
 have h0:σ.ahead 0=0:=by unfold Rd.ahead;rw[hf];rfl
 rw[h0] at HK
 have HW1:=Lib.hid hW1
 clear h h0 hB1 hX hW1
 have h2:=HRD.out
 have hn2:Nx W1 b vR vH W1 vR vH:=Nx.refl _ _ _ _
 have hf2:=hf
 obtain⟨⟨_,_,_,_,_,b5,b6,b7,b8⟩,_⟩:=nine_at h2.cells
 rw[hf2] at b8
 have hxr:W1.heap[W.heap.size]? = some (.cells #[.int .i64 0,.int .i64 0,.int .i64 0] 37 (0,0)):=(hn2.block _ (Array.getElem?_eq_some_iff.1 HX.out).1 (fun e=>hbx e.symm) hbR hbH).trans HX.out
 have x0:W1.cell? ⟨W.heap.size,0,none⟩=some (.int .i64 0):=by rw[cell_of_row W1 _ 0 _ _ _ hxr];rfl
 have x1:W1.cell? ⟨W.heap.size,1,none⟩=some (.int .i64 0):=by rw[cell_of_row W1 _ 1 _ _ _ hxr];rfl
 have x2:W1.cell? ⟨W.heap.size,2,none⟩=some (.int .i64 0):=by rw[cell_of_row W1 _ 2 _ _ _ hxr];rfl
 have z0:=frozen_of_row W1 W.heap.size 0 _ _ hxr
 have z1:=frozen_of_row W1 W.heap.size 1 _ _ hxr
 have z2:=frozen_of_row W1 W.heap.size 2 _ _ hxr
 have HXX:=Lib.hid hxr
 have HFN:Hid (∀ w'',(∀ k,k≠W.heap.size→w''.heap[k]? = W1.heap[k]?)→w''.heap.size=W1.heap.size→w''.os=W1.os→w''.tape=W1.tape→w''.output=W1.output→RdAt w'' b vL vR vH (σ)∧Nx W b vR vH w'' vR vH):=Lib.hid (fun w'' hs hz ho ht hp'=>
  ⟨h2.beside ⟨_,hxr⟩ hs,nx_box HB1.out hn2 (Below.refl _ _) hs hz ho ht hp'⟩)
 clear h2 hn2 hxr
 go_enter Tryz.func16,Tryz.ntmps16
 go_wp2_with (first|(go_at_call 58;rw[HW1.out];refine HK.out.mono ?_;rintro e w2 ⟨rfl,rfl⟩))
 go_region
 all_goals(try go_wp2_with fail)
 try simp only[Exit.inBlock,Exit.then]
 have hbox:(((W1.setCell ⟨W.heap.size,0,none⟩ (.int .i64 (σ).d0)).setCell ⟨W.heap.size,1,none⟩ (.int .i64 (σ).d1)).setCell ⟨W.heap.size,2,none⟩ (.int .i64 (σ).d2)).heap[W.heap.size]? = some (.cells #[(.int .i64 (σ).d0),(.int .i64 (σ).d1),(.int .i64 (σ).d2)] 37 (0,0)):=heap_setCell_same _ _ 2 _ _ _ (heap_setCell_same _ _ 1 _ _ _ (heap_setCell_same _ _ 0 _ _ _ HXX.out))
 refine bodyPost_ret (results_mix rfl _ _ W.heap.size 37 _ (0,0) _ rfl hbox Tryz.underlying37 rfl (by as_aux_lemma=>kernel_rfl)) rfl ?_
 exact⟨_,_,rfl,HFN.out _ (three_set _ _ _ _ _) (by first|(rw[size_set,size_set,size_set];done)|(show(World.setCell _ _ _).heap.size=_;rw[size_set,size_set,size_set])) rfl rfl rfl⟩
theorem refDone_left {W:World} {b:Nat} {vL vR vH:Value} {σ:Rd} (h:RdAt W b vL vR vH σ) (hf:σ.failed=false) (hk:σ.ahead 0≠0) :
  Calls Tryz.prog 16 #[.pointer (some ⟨b,0,none⟩)] W fun e w'=>∃ vR' vH',e=.returned (.tuple #[.slice none 0 0,.agg #[.int .i64 (σ.fail 201).d0,.int .i64 (σ.fail 201).d1,.int .i64 (σ.fail 201).d2],.bool false])∧RdAt w' b vL vR' vH' (σ.fail 201)∧Nx W b vR vH w' vR' vH':=by
 have hB1:Below W.heap.size W (W.alloc (.cells #[.int .i64 0,.int .i64 0,.int .i64 0] 37)):=(Below.refl _ _).alloc (Nat.le_refl _) _
 have hX:(W.alloc (.cells #[.int .i64 0,.int .i64 0,.int .i64 0] 37)).heap[W.heap.size]? = some (.cells #[.int .i64 0,.int .i64 0,.int .i64 0] 37 (0,0)):=heap_alloc_last _ _
 obtain⟨W1,hW1⟩:∃ W1,W.alloc (.cells #[.int .i64 0,.int .i64 0,.int .i64 0] 37)=W1:=⟨_,rfl⟩
 rw[hW1] at hB1 hX
 have HB1:=Lib.hid hB1
 have HX:=Lib.hid hX
 replace h:=h.below hB1
 have hbx:b≠W.heap.size:=by rintro rfl;rw[h.cells] at hX;simp only[Option.some.injEq,Obj.cells.injEq] at hX;exact absurd hX.2.1 (by decide)
 have hbR:=h.row.ne hX (by decide)
 have hbH:=h.high.ne hX (by decide)
 have HRD:=Lib.hid h
 have HK:=Lib.hid (kind_any h)
 have HF:=Lib.hid (fail_any h 201)
 have hf2:(σ.fail 201).failed=true:=by unfold Rd.fail;rw[hf];rfl
 have hk0:(σ.ahead 0 == 0)=false:=beq_eq_false_iff_ne.2 hk
 generalize σ.ahead 0=k0 at *
 have HW1:=Lib.hid hW1
 clear h hB1 hX hW1
 go_enter Tryz.func16,Tryz.ntmps16
 go_wp2_with (first|(go_at_call 58;rw[HW1.out];refine HK.out.mono ?_;rintro e w2 ⟨rfl,rfl⟩))
 go_at_call 46
 refine HF.out.mono ?_
 rintro e w2 ⟨v2,vR2,vH2,rfl,h2,hn2⟩
 obtain⟨⟨_,_,_,_,_,b5,b6,b7,b8⟩,_⟩:=nine_at h2.cells
 rw[hf2] at b8
 have hxr:w2.heap[W.heap.size]? = some (.cells #[.int .i64 0,.int .i64 0,.int .i64 0] 37 (0,0)):=(hn2.block _ (Array.getElem?_eq_some_iff.1 HX.out).1 (fun e=>hbx e.symm) hbR hbH).trans HX.out
 have x0:w2.cell? ⟨W.heap.size,0,none⟩=some (.int .i64 0):=by rw[cell_of_row w2 _ 0 _ _ _ hxr];rfl
 have x1:w2.cell? ⟨W.heap.size,1,none⟩=some (.int .i64 0):=by rw[cell_of_row w2 _ 1 _ _ _ hxr];rfl
 have x2:w2.cell? ⟨W.heap.size,2,none⟩=some (.int .i64 0):=by rw[cell_of_row w2 _ 2 _ _ _ hxr];rfl
 have z0:=frozen_of_row w2 W.heap.size 0 _ _ hxr
 have z1:=frozen_of_row w2 W.heap.size 1 _ _ hxr
 have z2:=frozen_of_row w2 W.heap.size 2 _ _ hxr
 have HXX:=Lib.hid hxr
 have HFN:Hid (∀ w'',(∀ k,k≠W.heap.size→w''.heap[k]? = w2.heap[k]?)→w''.heap.size=w2.heap.size→w''.os=w2.os→w''.tape=w2.tape→w''.output=w2.output→RdAt w'' b vL vR2 vH2 (σ.fail 201)∧Nx W b vR vH w'' vR2 vH2):=Lib.hid (fun w'' hs hz ho ht hp'=>
  ⟨h2.beside ⟨_,hxr⟩ hs,nx_box HB1.out hn2 (Below.refl _ _) hs hz ho ht hp'⟩)
 clear h2 hn2 hxr
 go_wp2_with fail
 go_region
 all_goals(try go_wp2_with fail)
 try simp only[Exit.inBlock,Exit.then]
 have hbox:(((w2.setCell ⟨W.heap.size,0,none⟩ (.int .i64 (σ.fail 201).d0)).setCell ⟨W.heap.size,1,none⟩ (.int .i64 (σ.fail 201).d1)).setCell ⟨W.heap.size,2,none⟩ (.int .i64 (σ.fail 201).d2)).heap[W.heap.size]? = some (.cells #[(.int .i64 (σ.fail 201).d0),(.int .i64 (σ.fail 201).d1),(.int .i64 (σ.fail 201).d2)] 37 (0,0)):=heap_setCell_same _ _ 2 _ _ _ (heap_setCell_same _ _ 1 _ _ _ (heap_setCell_same _ _ 0 _ _ _ HXX.out))
 refine bodyPost_ret (results_mix rfl _ _ W.heap.size 37 _ (0,0) _ rfl hbox Tryz.underlying37 rfl (by as_aux_lemma=>kernel_rfl)) rfl ?_
 exact⟨_,_,rfl,HFN.out _ (three_set _ _ _ _ _) (by first|(rw[size_set,size_set,size_set];done)|(show(World.setCell _ _ _).heap.size=_;rw[size_set,size_set,size_set])) rfl rfl rfl⟩
open Go.RowKit
def marks:List Tk:=[⟨-7,0,0⟩,⟨-8,0,0⟩]
theorem copy_toks {u:World} {v:Value} {T:List Tk} (hr:Row tk u v T) (hn:T.length≤1099511627776) :
  ∃ v' w',(∀ ty,(Builtin.append_ #[22,22] ty #[.slice (some ⟨u.heap.size,0,none⟩) 0 0,v]).run Tryz.prog (u.alloc (.cells #[] 55))=.ok v' w')∧Mine tk w' u.heap.size v' T∧Below u.heap.size u w':=by
 have h0:Mine tk (u.alloc (.cells #[] tk.e)) u.heap.size (.slice (some ⟨u.heap.size,0,none⟩) 0 0) []:=World.ownsRow_made u #[] 0 (Nat.le_refl _) (by decide) rfl
 have hB:Below u.heap.size u (u.alloc (.cells #[] tk.e)):=(Below.refl _ _).alloc (Nat.le_refl _) _
 obtain⟨v',w',hrun,hown,hgr⟩:=run_append_row (F:=tk) h0 (hr.below hB) hB.size (by simp [maxLen];omega) (by show(0+T.length)*tk.bytes≤_;simp only[tk];omega)
 exact⟨v',w',hrun,hown,hB.grown hgr (by simp) (fun k hk=>by cases hk;exact Nat.le_refl _)⟩
theorem lent_any {w:World} {v:Value} {T:List Tk} (hr:Row tk w v T) (hn:T.length≤549755813888) :
  Calls Tryz.prog 8 #[v] w fun e w'=>∃ v',e=.returned v'∧Mine tk w' w.heap.size v' (T ++ marks)∧Below w.heap.size w w':=by
 obtain⟨v1,w1,hrun1,hm1,hb1⟩:=copy_toks hr (by omega)
 have HRUN1:=Lib.hid hrun1
 have HM1:=Lib.hid (And.intro hm1 hb1)
 have hB2:Below w1.heap.size w1 (w1.alloc (.cells #[.int .i64 (-7),.int .i64 0,.int .i64 0,.int .i64 (-8),.int .i64 0,.int .i64 0] 55)):=(Below.refl _ _).alloc (Nat.le_refl _) _
 have hmk:Row tk (w1.alloc (.cells #[.int .i64 (-7),.int .i64 0,.int .i64 0,.int .i64 (-8),.int .i64 0,.int .i64 0] 55)) (.slice (some ⟨w1.heap.size,0,none⟩) 2 2) marks:=⟨w1.heap.size,0,_,2,Nat.le_refl _,rfl,fun _=>rfl,fun j u hu=>by
  rw[Nat.zero_add,cell_of_row _ _ j _ _ _ (heap_alloc_last w1 _),show(#[(.int .i64 (-7):Value),.int .i64 0,.int .i64 0,.int .i64 (-8),.int .i64 0,.int .i64 0])=(flat tk marks).toArray from rfl,List.getElem?_toArray]
  exact hu⟩
 obtain⟨v2,w2,hrun2,hm2,hg2⟩:=run_append_row (F:=tk) (hm1.below hB2) hmk (Nat.le_trans hb1.size hB2.size) (by simp [maxLen,marks];omega) (by simp [tk,marks];omega)
 have HRUN2:=Lib.hid hrun2
 have HM2:=Lib.hid (And.intro hm2 (Mine.more (F:=tk) (hm1.below hB2) (hb1.trans (hB2.mono hb1.size)) (Nat.le_refl _) (Nat.le_trans hb1.size hB2.size) hg2))
 obtain⟨_,_,o,cap,_,rfl,_,_⟩:=hr
 obtain⟨_,o1,c1,rfl,_,_⟩:=hm1.shape
 clear hrun1 hm1 hb1 hB2 hmk hrun2 hm2 hg2
 go_enter Tryz.func8,Tryz.ntmps8
 go_wp2_with (first
  |(at_builtin;refine Lib.wpList_append_run _ rfl _ _ _ _ rfl _ _ rfl rfl _ _ (HRUN1.out _) ?_;clear HRUN1)
  |(at_builtin;refine Lib.wpList_append_run _ rfl _ _ _ _ rfl _ _ rfl rfl _ _ (HRUN2.out _) ?_))
 go_ret
 exact⟨_,rfl,HM2.out.1,HM2.out.2⟩
open Go.RowKit
theorem flat_set_tk (T:List Tk) (t:Tk):∀ n,n<T.length→flat tk (T.set n t)=(((flat tk T).set (n*3) (.int .i64 t.k)).set (n*3+1) (.int .i64 t.i)).set (n*3+2) (.int .i64 t.j):=by
 induction T with
 |nil=>intro n h;simp at h
 |cons d T ih=>
  intro n h
  have e:∀ (d:Tk) (T:List Tk),flat tk (d::T)=.int .i64 d.k :: .int .i64 d.i :: .int .i64 d.j::flat tk T:=fun _ _=>rfl
  cases n with
  |zero=>rw[List.set_cons_zero,e,e];rfl
  |succ n=>
   rw[List.set_cons_succ,e,e,ih n (by simpa using h),show(n+1)*3=n*3+1+1+1 by omega,show n*3+1+1+1+2=n*3+2+1+1+1 by omega]
   rfl
theorem Mine.put_tk {w:World} {B g cap m:Nat} {T:List Tk} (h:Mine tk w B (.slice (some ⟨g,0,none⟩) m cap) T) (hm:T.length=m) (n:Nat) (hn:n<T.length) (t:Tk) :
  Mine tk (((w.setCell ⟨g,n*3,none⟩ (.int .i64 t.k)).setCell ⟨g,n*3+1,none⟩ (.int .i64 t.i)).setCell ⟨g,n*3+2,none⟩ (.int .i64 t.j)) B (.slice (some ⟨g,0,none⟩) m cap) (T.set n t):=by
 unfold Mine at *
 rw[List.length_set,flat_set_tk T t n hn,hm]
 rw[hm] at h
 exact(((h.stored _ _).1.stored _ _).1.stored _ _).1
structure Spoilt (w wx:World) (g:Nat):Prop where
 os:wx.os=w.os
 tape:wx.tape=w.tape
 output:wx.output=w.output
 size:w.heap.size≤wx.heap.size
 block:∀ k,k<w.heap.size→k≠g→wx.heap[k]? = w.heap[k]?
theorem still_any {w:World} {B g cap:Nat} {v:Value} {T:List Tk} (hx:Mine tk w B (.slice (some ⟨g,0,none⟩) (T.length+2) cap) (T ++ marks)) (hl:Row tk w v T) (hn:T.length≤549755813888) (hg:∀ o n c,v=.slice (some o) n c→T≠[]→o.block≠g) :
  Calls Tryz.prog 11 #[.slice (some ⟨g,0,none⟩) (T.length+2) cap,v] w fun e w'=>e=.returned (.bool true)∧Spoilt w w' g:=by
 have hm1:=cells_tk hx.cells T.length (by rw[List.length_append];simp [marks])
 have hm2:=cells_tk hx.cells (T.length+1) (by rw[List.length_append];simp [marks])
 have e1:(T ++ marks)[T.length]'(by rw[List.length_append];simp [marks])=⟨-7,0,0⟩:=by rw[List.getElem_append_right (Nat.le_refl _)];simp [marks]
 have e2:(T ++ marks)[T.length+1]'(by rw[List.length_append];simp [marks])=⟨-8,0,0⟩:=by rw[List.getElem_append_right (by omega)];simp [marks]
 rw[e1] at hm1
 rw[e2] at hm2
 obtain⟨a0,_,_⟩:=hm1
 obtain⟨b0,_,_⟩:=hm2
 simp only[Nat.zero_add] at a0 b0
 have HX:=Lib.hid (And.intro hx (And.intro hl hg))
 obtain⟨gl,offl,ol,cl,hcl,rfl,hol,hcell⟩:=hl.lt
 obtain⟨len,hlen⟩:∃ len,T.length=len:=⟨_,rfl⟩
 have HLN:=Lib.hid hlen
 rw[hlen] at a0 b0 hn hcl HX ⊢
 clear hx hl hg hol hcell e1 e2 hlen
 have hq0:(0:Int)≤(len:Int):=by omega
 have hq1:(len:Int)<(len:Int)+2:=by omega
 have hq2:(0:Int)≤(len:Int)+1:=by omega
 have hq3:(len:Int)+1<(len:Int)+2:=by omega
 have hq4:((len:Int)+1).toNat=len+1:=by omega
 have hww:(len:Int)+1≤1099511627777:=by omega
 go_enter Tryz.func11,Tryz.ntmps11
 go_wp2_with fail
 go_loopw [6,7] (fun p6 pv wr=>∃ i:Nat,i≤len∧pv=.int .i64 (i:Int)∧p6=.bool true∧Below w.heap.size w wr) (fun _ pv _=>len - (intOf pv).toNat)
 case atStart=>exact⟨0,Nat.zero_le _,rfl,rfl,Below.refl _ _⟩
 case round=>
  obtain⟨i,hil,rfl,rfl,hb⟩:=hrel
  by_cases hlt:i<len
  ·have hiT:i<T.length:=by rw[HLN.out];exact hlt
   obtain⟨hx,hl,hg⟩:=HX.out
   obtain⟨gl,offl,ol',cl',hcl',hv',hol,hcell⟩:=hl.lt
   simp only[Value.slice.injEq] at hv'
   obtain⟨rfl,_,rfl⟩:=hv'
   obtain⟨hoo,hgl⟩:=hol (by intro e;rw[e] at hiT;simp at hiT)
   subst hoo
   have hgz:g<w.heap.size:=hx.lt g rfl
   have hxc:=cells_tk hx.cells i (by rw[List.length_append];omega)
   rw[List.getElem_append_left hiT] at hxc
   obtain⟨a0',a1',a2'⟩:=hxc
   obtain⟨s0,s1,s2⟩:=cells_tk hcell i hiT
   simp only[Nat.zero_add] at a0' a1' a2'
   have c0:=(hb.cell (p:=⟨g,i*3,none⟩) hgz).trans a0'
   have c1:=(hb.cell (p:=⟨g,i*3+1,none⟩) hgz).trans a1'
   have c2:=(hb.cell (p:=⟨g,i*3+2,none⟩) hgz).trans a2'
   have d0:=(hb.cell (p:=⟨gl,offl+i*3,none⟩) hgl).trans s0
   have d1:=(hb.cell (p:=⟨gl,offl+i*3+1,none⟩) hgl).trans s1
   have d2:=(hb.cell (p:=⟨gl,offl+i*3+2,none⟩) hgl).trans s2
   obtain⟨⟨tk1,ti,tj⟩,ht⟩:∃ t,T[i]=t:=⟨_,rfl⟩
   rw[ht] at c0 c1 c2 d0 d1 d2
   simp only[] at c0 c1 c2 d0 d1 d2
   have HB:=Lib.hid hb
   have hi0:(0:Int)≤(i:Int):=by omega
   have hi1:(i:Int)<(len:Int)+2:=by omega
   have hi2:(i:Int)<(len:Int):=by omega
   have hwi:(i:Int)+1≤1099511627777:=by omega
   have hd:decide ((i:Int)<(len:Int))=true:=decide_eq_true (by omega)
   have hd':decide (i<len)=true:=decide_eq_true hlt
   clear hx hl hg hol hcell a0' a1' a2' s0 s1 s2 ht hb
   go_wp2_with fail
   go_region
   all_goals(try go_wp2_with fail)
   all_goals exact⟨⟨i+1,by omega,by go_num,rfl,HB.out.drew⟩,by simp [intOf];omega⟩
  ·have hd:decide ((i:Int)<(len:Int))=false:=decide_eq_false (by omega)
   have hd':decide (i<len)=false:=decide_eq_false hlt
   have HB:=Lib.hid hb
   clear hb a0 b0
   go_wp2_with fail
   have hst:Mine tk wr B (.slice (some ⟨g,0,none⟩) (len+2) cap) (T ++ marks):=HX.out.1.below HB.out
   have hll:(T ++ marks).length=len+2:=by rw[List.length_append,HLN.out];rfl
   have HST:=Lib.hid (And.intro hst hll)
   clear hst hll
   go_loopw [8] (fun pv wx=>∃ (q:Nat) (L':List Tk),q≤len+2∧pv=.int .i64 (q:Int)∧L'.length=len+2∧Mine tk wx B (.slice (some ⟨g,0,none⟩) (len+2) cap) L'∧Spoilt w wx g) (fun pv _=>len+2 - (intOf pv).toNat)
   case atStart=>exact⟨0,_,Nat.zero_le _,rfl,HST.out.2,HST.out.1,⟨HB.out.os,HB.out.tape,HB.out.output,HB.out.size,fun k hk _=>HB.out.block k hk⟩⟩
   case round=>
    obtain⟨q,L',hql,rfl,hlL,hm,hsp⟩:=hrel
    by_cases hlq:q<len+2
    ·have hqL:q<L'.length:=by omega
     obtain⟨s0,s1,s2⟩:=cells_tk hm.cells q hqL
     simp only[Nat.zero_add] at s0 s1 s2
     obtain⟨⟨zk,zi,zj⟩,hzt⟩:∃ t,L'[q]=t:=⟨_,rfl⟩
     rw[hzt] at s0 s1 s2
     simp only[] at s0 s1 s2
     clear hzt
     have f0:=hm.free (q*3)
     have f1:=hm.free (q*3+1)
     have f2:=hm.free (q*3+2)
     have hput:=hm.put_tk hlL q hqL ⟨-9,0,0⟩
     have hs:∀ k,k≠g→(((wr.setCell ⟨g,q*3,none⟩ (.int .i64 (-9))).setCell ⟨g,q*3+1,none⟩ (.int .i64 0)).setCell ⟨g,q*3+2,none⟩ (.int .i64 0)).heap[k]? = wr.heap[k]?:=fun k hk=>by rw[set_one _ _ _ _ _ hk,set_one _ _ _ _ _ hk,set_one _ _ _ _ _ hk]
     have hz:(((wr.setCell ⟨g,q*3,none⟩ (.int .i64 (-9))).setCell ⟨g,q*3+1,none⟩ (.int .i64 0)).setCell ⟨g,q*3+2,none⟩ (.int .i64 0)).heap.size=wr.heap.size:=by rw[size_set,size_set,size_set]
     have HP:=Lib.hid (And.intro hput (And.intro hs (And.intro hz (And.intro hsp hlL))))
     have hi0:(0:Int)≤(q:Int):=by omega
     have hi1:(q:Int)<(len:Int)+2:=by omega
     have hwi:(q:Int)+1≤1099511627777:=by omega
     have hd2:decide ((q:Int)<(len:Int)+2)=true:=decide_eq_true (by omega)
     have hd2':decide (q<len+2)=true:=decide_eq_true hlq
     clear hput hs hz hsp hlL hm
     go_wp2_with fail
     go_roundw
     case rel=>
      obtain⟨hput,hs,hz,hsp,hlL⟩:=HP.out
      exact⟨q+1,_,by omega,by go_num,by rw[List.length_set];exact hlL,hput,⟨hsp.os,hsp.tape,hsp.output,by rw[hz];exact hsp.size,fun k hk hk2=>(hs k hk2).trans (hsp.block k hk hk2)⟩⟩
     case measure=>simp [intOf];omega
    ·have hd2:decide ((q:Int)<(len:Int)+2)=false:=decide_eq_false (by omega)
     have hd2':decide (q<len+2)=false:=decide_eq_false hlq
     have HSP:=Lib.hid hsp
     clear hm hsp hlL
     go_wp2_with fail
     go_ret
     exact⟨rfl,HSP.out⟩
open Go.RowKit
section
variable {C:Keep} {w:World} {b:Nat} {x y:Res}
theorem Post.of {vL vR vH:Value} {σ':Rd} {D:Nat→Prop} {e:Ending} {w':World} (ho:Own C w b vR vH D) (hs:Steps w b vL vR vH σ' e w') (hi:∀ vR' vH',Nx w b vR vH w' vR' vH'→Is w' D σ' y):Post C b y e w':=by
 obtain⟨v,vR',vH',rfl,hr,hn⟩:=hs
 exact⟨v,rfl,Lib.hid ⟨vL,vR',vH',σ',D,hr,ho.step hn,hi vR' vH' hn⟩⟩
theorem PostB.of {vL vR vH:Value} {σ':Rd} {D:Nat→Prop} {e:Ending} {w':World} {t:Bool} (ho:Own C w b vR vH D) (hs:StepsB t w b vL vR vH σ' e w') (hi:∀ vR' vH',Nx w b vR vH w' vR' vH'→Is w' D σ' y):PostB C b y t e w':=by
 obtain⟨vR',vH',rfl,hr,hn⟩:=hs
 exact⟨rfl,Lib.hid ⟨vL,vR',vH',σ',D,hr,ho.step hn,hi vR' vH' hn⟩⟩
theorem next_same {σ:Rd} {s:St} (h2:σ.L=s.L) (h3:σ.at'=s.at') (n:Nat):σ.next n=s.next n:=by unfold Rd.next St.next;rw[h2,h3]
theorem here_same {σ:Rd} {s:St} (h2:σ.L=s.L) (h3:σ.at'=s.at'):σ.here=s.here:=by unfold Rd.here St.here;rw[next_same h2 h3,h2,h3];rfl
theorem piece_same {σ:Rd} {s:St} (h2:σ.L=s.L) (h3:σ.at'=s.at'):σ.piece=s.piece:=by unfold Rd.piece St.piece;rw[next_same h2 h3,here_same h2 h3,h2];rfl
theorem ahead_same {σ:Rd} {s:St} (h1:σ.failed=false) (h2:σ.L=s.L) (h3:σ.at'=s.at') (n:Nat):σ.ahead n=s.ahead n:=by
 unfold Rd.ahead St.ahead
 rw[h1,next_same h2 h3,h2]
 rfl
theorem fail_is {D:Nat→Prop} {σ:Rd} {s:St} (h:Is w D σ (.ok s)) (w':World) (c:Int):Is w' D (σ.fail c) (s.fail c):=by
 obtain⟨h1,h2,h3,h4,h5,h6,h7,h8,h9,h10⟩:=h
 rw[Rd.fail_not h1,piece_same h2 h3]
 have:=h4.length
 exact⟨rfl,rfl,rfl,rfl,by show σ.H.length=σ.R.length;rw[h5,this,h7],by show σ.op≤100;omega,by show σ.R.length+σ.L.length≤_;rw[h2];omega⟩
theorem take_is {D:Nat→Prop} {σ:Rd} {s:St} {w':World} (h:Is w D σ (.ok s)) (hk:Ties w' D s.R σ.R) (hy:s.take.R.length+s.L.length≤549755813888):Is w' D σ.take (.ok s.take):=by
 obtain⟨h1,h2,h3,h4,h5,h6,h7,h8,h9,h10⟩:=h
 unfold Rd.take
 unfold St.take at hy ⊢
 rw[ahead_same h1 h2 h3]
 split
 ·exact⟨h1,h2,h3,hk,h5,h6,h7,h8,h9,h10⟩
 ·rw[if_neg ‹_›] at hy
  rw[next_same h2 h3,h3]
  unfold Rd.run St.run
  unfold St.run at hy
  refine⟨h1,h2,by show σ.at'+_=_;rw[h3],?_,?_,h6,?_,?_,h9,hy⟩
  ·show Ties w' D (s.R ++ _) (σ.R ++ _)
   rw[h2,h3]
   exact hk.append (ties_leaves _ _ _)
  ·show σ.H ++ _=s.H ++ _
   rw[h5]
  ·show(s.H ++ _).length=(s.R ++ _).length
   rename_i hne
   have hlt:s.next 0<s.L.length:=by
    rcases Nat.lt_or_ge (s.next 0) s.L.length with h|h
    ·exact h
    ·exact absurd (by unfold St.ahead;rw[List.getElem?_eq_none h]) hne
   have hge:s.at'≤s.next 0:=Nat.le_add_right _ _
   rw[List.length_append,List.length_append,h7,List.length_replicate,List.length_map,List.length_take,List.length_drop]
   omega
  ·intro x hx
   rcases List.mem_append.1 hx with hx|hx
   ·exact h8 x hx
   ·rw[(List.mem_replicate.1 hx).2]
    omega
theorem fail_at (h:Hid (At C w b x)) (c:Int) (hy:Hid (rFail c x=some y)):Calls Tryz.prog 46 #[.pointer (some ⟨b,0,none⟩),.int .i64 c] w (Post C b y):=by
 obtain⟨vL,vR,vH,σ,D,hr,ho,hi⟩:=h.out
 refine(fail_any hr c).mono fun e w' hs=>Post.of ho hs fun vR' vH' hn=>?_
 have hy:=hy.out
 cases x with
 |fail a b c=>cases hy;rw[Rd.fail_failed hi.1];exact hi
 |ok s=>cases chk_fail hy;exact fail_is hi w' c
theorem up_at (h:Hid (At C w b x)) (hy:Hid (rUp x=some y)):Calls Tryz.prog 44 #[.pointer (some ⟨b,0,none⟩)] w (Post C b y):=by
 obtain⟨vL,vR,vH,σ,D,hr,ho,hi⟩:=h.out
 have hy:=hy.out
 cases x with
 |fail a b c=>
  cases hy
  obtain⟨h1,h2,h3,h4,h5,h6,h7⟩:=hi
  exact(up_any hr (by omega)).mono fun e w' hs=>Post.of ho hs fun vR' vH' hn=>⟨h1,h2,h3,h4,h5,by show σ.op - 1≤100;omega,h7⟩
 |ok s=>
  obtain⟨rfl,hz⟩:=chk_ok hy
  obtain⟨h1,h2,h3,h4,h5,h6,h7,h8,h9,h10⟩:=hi
  exact(up_any hr (by omega)).mono fun e w' hs=>Post.of ho hs fun vR' vH' hn=>⟨h1,h2,h3,ho.ties hn h4,h5,by show σ.op - 1=s.op - 1;rw[h6],h7,h8,by show s.op - 1≤100;omega,h10⟩
theorem down_at (h:Hid (At C w b x)) (hy:Hid (rDown x=some y)):Calls Tryz.prog 42 #[.pointer (some ⟨b,0,none⟩)] w (PostB C b y (!y.bad)):=by
 obtain⟨vL,vR,vH,σ,D,hr,ho,hi⟩:=h.out
 have hy:=hy.out
 cases x with
 |fail a b c=>
  cases hy
  have hi0:=hi
  obtain⟨h1,h2,h3,h4,h5,h6,h7⟩:=hi
  refine(down_any hr (by omega)).mono fun e w' hs=>?_
  unfold Rd.down at hs
  rw[if_pos h1] at hs
  exact PostB.of ho hs fun vR' vH' hn=>hi0
 |ok s=>
  have hi0:=hi
  obtain⟨h1,h2,h3,h4,h5,h6,h7,h8,h9,h10⟩:=hi
  refine(down_any hr (by omega)).mono fun e w' hs=>?_
  unfold Rd.down at hs
  rw[if_neg (by rw[h1];simp)] at hs
  unfold rDown lift St.down at hy
  simp only[] at hy
  by_cases hop:100≤s.op
  ·rw[if_pos hop] at hy
   rw[if_pos (by omega)] at hs
   cases chk_fail hy
   exact PostB.of ho hs fun vR' vH' hn=>fail_is hi0 w' 202
  ·rw[if_neg hop] at hy
   rw[if_neg (by omega)] at hs
   obtain⟨rfl,hz⟩:=chk_ok hy
   exact PostB.of ho hs fun vR' vH' hn=>⟨h1,h2,h3,ho.ties hn h4,h5,by show σ.op+1=s.op+1;rw[h6],h7,h8,by show s.op+1≤100;omega,h10⟩
theorem few_of {D:Nat→Prop} {σ:Rd} (hi:Is w D σ x):σ.R.length+σ.L.length≤549755813889∧σ.H.length=σ.R.length:=by
 cases x with
 |fail a b c=>
  obtain⟨h1,h2,h3,h4,h5,h6,h7⟩:=hi
  exact⟨h7,h5⟩
 |ok s=>
  obtain⟨h1,h2,h3,h4,h5,h6,h7,h8,h9,h10⟩:=hi
  have:=h4.length
  exact⟨by rw[h2];omega,by rw[h5,this,h7]⟩
theorem take_at (h:Hid (At C w b x)) (hy:Hid (rTake x=some y)):Calls Tryz.prog 32 #[.pointer (some ⟨b,0,none⟩)] w (Post C b y):=by
 obtain⟨vL,vR,vH,σ,D,hr,ho,hi⟩:=h.out
 obtain⟨hf1,hf2⟩:=few_of hi
 refine(take_any hr (by omega) (by omega)).mono fun e w' hs=>Post.of ho hs fun vR' vH' hn=>?_
 have hy:=hy.out
 cases x with
 |fail a b c=>
  cases hy
  have:σ.take=σ:=by unfold Rd.take;rw[if_pos (Rd.ahead_failed hi.1 0)]
  rw[this]
  exact hi
 |ok s=>
  obtain⟨rfl,hz⟩:=chk_ok hy
  refine take_is hi (ho.ties hn hi.2.2.2.1) ?_
  have:s.take.L=s.L:=by unfold St.take;split <;> rfl
  rw[this] at hz
  exact hz
theorem expect_at (h:Hid (At C w b x)) (k:Int) (hy:Hid (rExpect k x=some y)):Calls Tryz.prog 34 #[.pointer (some ⟨b,0,none⟩),.int .i64 k] w (PostB C b y (!y.bad)):=by
 obtain⟨vL,vR,vH,σ,D,hr,ho,hi⟩:=h.out
 obtain⟨hf1,hf2⟩:=few_of hi
 refine(expect_any hr k (by omega) (by omega)).mono fun e w' hs=>?_
 have hy:=hy.out
 unfold Rd.expect at hs
 cases x with
 |fail a b c=>
  cases hy
  rw[if_neg (by rintro⟨h1,h2⟩;rw[Rd.ahead_failed hi.1] at h2;exact h1 h2.symm),Rd.fail_failed hi.1] at hs
  exact PostB.of ho hs fun vR' vH' hn=>hi
 |ok s=>
  unfold rExpect lift St.expect at hy
  simp only[] at hy
  rw[ahead_same hi.1 hi.2.1 hi.2.2.1] at hs
  by_cases hk:k≠0∧s.ahead 0=k
  ·rw[if_pos hk] at hy hs
   obtain⟨rfl,hz⟩:=chk_ok hy
   refine PostB.of ho hs fun vR' vH' hn=>take_is hi (ho.ties hn hi.2.2.2.1) ?_
   have:s.take.L=s.L:=by unfold St.take;split <;> rfl
   rw[this] at hz
   exact hz
  ·rw[if_neg hk] at hy hs
   cases chk_fail hy
   exact PostB.of ho hs fun vR' vH' hn=>fail_is hi w' 201
theorem none_at (h:Hid (At C w b x)) (hy:Hid (rNone x=some y)):Calls Tryz.prog 36 #[.pointer (some ⟨b,0,none⟩)] w (Post C b y):=by
 obtain⟨vL,vR,vH,σ,D,hr,ho,hi⟩:=h.out
 obtain⟨hf1,hf2⟩:=few_of hi
 refine(none_any hr (by omega) (by omega)).mono fun e w' hs=>Post.of ho hs fun vR' vH' hn=>?_
 have hy:=hy.out
 unfold Rd.none
 cases x with
 |fail a b c=>
  cases hy
  rw[if_pos hi.1]
  exact hi
 |ok s=>
  obtain⟨rfl,hz⟩:=chk_ok hy
  obtain⟨h1,h2,h3,h4,h5,h6,h7,h8,h9,h10⟩:=hi
  rw[if_neg (by rw[h1];simp),here_same h2 h3]
  refine⟨h1,h2,h3,(ho.ties hn h4).append (Ties.cons (tie_none _ _ _ _ _) Ties.nil),?_,h6,?_,?_,h9,hz⟩
  ·show σ.H ++ [0]=s.H ++ [0]
   rw[h5]
  ·show(s.H ++ [0]).length=(s.R ++ [_]).length
   simp [h7]
  ·intro x hx
   rcases List.mem_append.1 hx with hx|hx
   ·exact h8 x hx
   ·rw[List.mem_singleton.1 hx]
    omega
end
end Go.Proofs.YtmelbeefjgjdhaaGreat.rd
