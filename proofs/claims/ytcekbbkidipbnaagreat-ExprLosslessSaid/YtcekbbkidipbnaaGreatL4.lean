/-
  Texts put together: Gh, Gi, Gg.
-/
import Derived.Test.YtcekbbkidipbnaaGreatL3
set_option maxRecDepth 100000
set_option maxHeartbeats 8000000
namespace Go.Proofs.YtcekbbkidipbnaaGreat.rd
open Go.RowKit
theorem cwithin_any {W:World} {b:Nat} {vL vS vR:Value} {σ:Rc} (h:RcAt W b vL vS vR σ) (m:Int) (hfew:σ.R.length≤1099511627776) :
  Calls Tryz.prog 90 #[.pointer (some ⟨b,0,none⟩),.int .i64 m] W fun e w'=>e=.returned (.int .i64 (clampR m σ.R.length:Int))∧W=w':=by
 have HM:=Lib.hid (cmark_any h)
 clear h
 generalize σ.R.length=len at *
 obtain⟨m0,hm0⟩:∃ m0,clampR m len=m0:=⟨_,rfl⟩
 have hm0':(m0:Int)=max 0 (min m (len:Int)):=by rw[← hm0];unfold clampR;omega
 rw[hm0]
 have HZ:=Lib.hid hm0'
 clear hm0 hm0'
 rcases Int.lt_or_le m 0 with h1|h1
 ·have hd1:decide (m<0)=true:=decide_eq_true h1
  have hd2:decide (0<m)=false:=decide_eq_false (by omega)
  have hd3:decide (0≤m)=false:=decide_eq_false (by omega)
  have hd4:decide (m≤0)=true:=decide_eq_true (by omega)
  go_enter Tryz.func90,Tryz.ntmps90
  go_wp2_with (go_at_call 61;refine HM.out.mono ?_;rintro e w' ⟨rfl,rfl⟩)
  all_goals go_ret
  all_goals exact⟨by have:=HZ.out;first|(congr 2;omega)|(simp;omega),rfl⟩
 ·have hd1:decide (m<0)=false:=decide_eq_false (by omega)
  have hd3:decide (0≤m)=true:=decide_eq_true (by omega)
  rcases Int.lt_or_le (len:Int) m with h2|h2
  ·have hd5:decide ((len:Int)<m)=true:=decide_eq_true h2
   have hd6:decide (m≤(len:Int))=false:=decide_eq_false (by omega)
   have hd7:decide (m<(len:Int))=false:=decide_eq_false (by omega)
   go_enter Tryz.func90,Tryz.ntmps90
   go_wp2_with (go_at_call 61;refine HM.out.mono ?_;rintro e w' ⟨rfl,rfl⟩)
   all_goals go_ret
   all_goals exact⟨by have:=HZ.out;first|(congr 2;omega)|(simp;omega),rfl⟩
  ·have hd5:decide ((len:Int)<m)=false:=decide_eq_false (by omega)
   have hd6:decide (m≤(len:Int))=true:=decide_eq_true (by omega)
   go_enter Tryz.func90,Tryz.ntmps90
   go_wp2_with (go_at_call 61;refine HM.out.mono ?_;rintro e w' ⟨rfl,rfl⟩)
   all_goals go_ret
   all_goals exact⟨by have:=HZ.out;first|(congr 2;omega)|(simp;omega),rfl⟩
theorem fromK_snoc (h:Int) (l:List Rn) (x:Rn):fromK h (l ++ [x])=if l=[] then x.i else fromK h l:=by
 cases l with
 |nil=>simp [fromK]
 |cons a l=>rfl
theorem toK_snoc (h:Int) (l:List Rn) (x:Rn):toK h (l ++ [x])=x.j:=by simp [toK]
theorem hiFrom_snoc (a:Int) (l:List Int) (x:Int):hiFrom a (l ++ [x])=max (hiFrom a l) (x+1):=by simp [hiFrom]
theorem over_step {u0:World} {B0 B1:Nat} {vK:Value} {T:List Rn} {c0 c1:Array Value} {z x1 x2:Int} {xo:Option Addr} {xn xc:Nat} (hM:Mine nd u0 (B0+1) vK T) (h0:u0.heap[B0]? = some (.cells c0 73 (0,0))) (h1:u0.heap[B1]? = some (.cells c1 73 (0,0))) (hne:vK.ownBlock≠some B1) (hl:T.length≤1099511627776) :
  ∃ v' w',(∀ ty,(Builtin.append_ #[35,35] ty #[vK,.slice (some ⟨u0.heap.size,0,none⟩) 1 1]).run Tryz.prog (u0.alloc (.cells #[.int .i64 z,.int .i64 x1,.int .i64 x2,.slice xo xn xc] 43))=.ok v' w') ∧
   (∃ g cap',v'=.slice (some ⟨g,0,none⟩) (T.length+1) cap')∧w'.heap[B0]? = some (.cells c0 73 (0,0))∧w'.heap[B1]? = some (.cells c1 73 (0,0))∧Mine nd w' (B0+1) v' (T ++ [⟨z,x1,x2,xo,xn,xc⟩])∧Below B0 u0 w':=by
 have hz0:B0<u0.heap.size:=(Array.getElem?_eq_some_iff.1 h0).1
 have hz1:B1<u0.heap.size:=(Array.getElem?_eq_some_iff.1 h1).1
 have hu:Below u0.heap.size u0 (u0.alloc (.cells #[.int .i64 z,.int .i64 x1,.int .i64 x2,.slice xo xn xc] 43)):=(Below.refl _ _).alloc (Nat.le_refl _) _
 obtain⟨g,cap',w',a1,a2,a3,a4⟩:=app_lies (F:=nd) (x:=⟨z,x1,x2,xo,xn,xc⟩) (hM.below hu) (heap_alloc_last u0 _) (by have:=hu.size;omega) (by simp [maxLen];omega) (by show(T.length+1)*48≤_;omega)
 have hown:∀ k,vK.ownBlock=some k→B0+1≤k:=fun k hk=>(World.ownsRow.lt hM k hk).1
 have hsame:∀ k,k<u0.heap.size→vK.ownBlock≠some k→w'.heap[k]? = u0.heap[k]?:=fun k hk hn=>(a3.block k (Nat.lt_of_lt_of_le hk hu.size) (fun e=>hn e.symm)).trans (hu.block k hk)
 refine⟨_,w',a1,⟨g,cap',rfl⟩,(hsame B0 hz0 (fun e=>by have:=hown _ e;omega)).trans h0,(hsame B1 hz1 hne).trans h1,a2,⟨a3.os.trans hu.os,a3.tape.trans hu.tape,a3.output.trans hu.output,Nat.le_trans hu.size a3.size,fun k hk=>hsame k (by omega) (fun e=>by have:=hown _ e;omega)⟩⟩
theorem over_any {W:World} {b:Nat} {vL vS vR vK:Value} {σ:Rc} (h:RcAt W b vL vS vR σ) (T:List Bn) (hk:Row bt W vK T) (kind:Int) (hfew:T.length≤1099511627776) (hH:∀ x∈T,0≤x.h∧x.h≤200) :
  Calls Tryz.prog 91 #[.pointer (some ⟨b,0,none⟩),vK,.int .i64 kind] W fun e w'=>∃ ok ck,e=.returned (.agg #[.int .i64 kind,.int .i64 (fromK σ.here (T.map Bn.rn)),.int .i64 (toK σ.here (T.map Bn.rn)),.slice ok T.length ck,.int .i64 (hiFrom 1 (T.map Bn.h))])∧Below W.heap.size W w'∧Mine nd w' (W.heap.size+1) (.slice ok T.length ck) (T.map Bn.rn):=by
 have HE:Hid (∀ u,Below W.heap.size W u→Calls Tryz.prog 88 #[.pointer (some ⟨b,0,none⟩)] u fun e w'=>e=.returned (.int .i64 σ.here)∧Below u.heap.size u w'):=Lib.hid (fun u hu=>chere_any (h.below hu))
 obtain⟨g,off,o,cap,hc,hv,ho,hcell⟩:=hk.lt
 subst hv
 have HO:=Lib.hid ho
 have HC:=Lib.hid hcell
 have HH:=Lib.hid hH
 clear h hk ho hcell hH
 obtain⟨hr,hhr⟩:∃ hr,σ.here=hr:=⟨_,rfl⟩
 rw[hhr] at HE ⊢
 clear hhr
 obtain⟨len,hlen⟩:∃ len,T.length=len:=⟨_,rfl⟩
 have HLN:=Lib.hid hlen
 rw[hlen] at hc hfew ⊢
 clear hlen
 go_enter Tryz.func91,Tryz.ntmps91
 go_wp2_with fail
 have hb1:Below W.heap.size W (W.alloc (.cells #[.int .i64 0,.int .i64 0,.int .i64 0,.slice none 0 0,.int .i64 0] 73)):=(Below.refl _ _).alloc (Nat.le_refl _) _
 have hR1:=heap_alloc_last W (.cells #[.int .i64 0,.int .i64 0,.int .i64 0,.slice none 0 0,.int .i64 0] 73)
 have hz1:W.heap.size<(W.alloc (.cells #[.int .i64 0,.int .i64 0,.int .i64 0,.slice none 0 0,.int .i64 0] 73)).heap.size:=by rw[World.size_alloc];omega
 generalize W.alloc (.cells #[.int .i64 0,.int .i64 0,.int .i64 0,.slice none 0 0,.int .i64 0] 73)=w1 at *
 go_at_call 88
 refine(HE.out _ hb1).mono ?_
 rintro e w2 ⟨rfl,hb2⟩
 have hb02:Below W.heap.size W w2:=hb1.trans (hb2.mono (Nat.le_of_lt hz1))
 have hR2:w2.heap[W.heap.size]? = _:=(hb2.block _ hz1).trans hR1
 have hz2:W.heap.size<w2.heap.size:=Nat.lt_of_lt_of_le hz1 hb2.size
 have HB02:=Lib.hid hb02
 have HR2:=Lib.hid hR2
 clear hb1 hR1 hz1 hb2 hb02 hR2 HE
 go_wp2_with fail
 obtain⟨w3,hw3⟩:∃ w3,w2.alloc (.cells #[.int .i64 kind,.int .i64 hr,.int .i64 hr,.slice none 0 0,.int .i64 1] 73)=w3:=⟨_,rfl⟩
 have hbx:w3.heap[w2.heap.size]? = some (.cells #[.int .i64 kind,.int .i64 hr,.int .i64 hr,.slice none 0 0,.int .i64 1] 73 (0,0)):=by rw[← hw3];exact heap_alloc_last _ _
 have hb3:Below w2.heap.size w2 w3:=by rw[← hw3];exact(Below.refl _ _).alloc (Nat.le_refl _) _
 rw[hw3]
 clear hw3
 obtain⟨B0,hB0⟩:∃ B0,w2.heap.size=B0:=⟨_,rfl⟩
 have HB0:=Lib.hid hB0
 rw[hB0] at hbx hb3 hz2 ⊢
 have HBX:=Lib.hid hbx
 have HB3:=Lib.hid hb3
 clear hB0 hbx hb3
 go_loopw [20] (fun p wr=>∃ (n:Nat) (f t hN:Int) (vK:Value),n≤len∧p=.int .i64 (n:Int)∧(f=fromK hr ((T.take n).map Bn.rn)∧t=toK hr ((T.take n).map Bn.rn)∧hN=hiFrom 1 ((T.take n).map Bn.h))∧(1≤hN∧hN≤201)∧wr.heap[B0]? = some (.cells #[.int .i64 kind,.int .i64 f,.int .i64 t,vK,.int .i64 hN] 73 (0,0))∧Mine nd wr (B0+1) vK ((T.take n).map Bn.rn)∧Below B0 w2 wr) (fun p _=>len - (intOf p).toNat)
 case atStart=>exact⟨0,hr,hr,1,_,Nat.zero_le _,rfl,⟨by simp [fromK],by simp [toK],by simp [hiFrom]⟩,by omega,HBX.out,by rw[List.take_zero];exact Mine.nil _ _,HB3.out⟩
 case round=>
  obtain⟨n,f,t,hN,vK,hnl,rfl,hft,hNb,hbox,hmine,hbel⟩:=hrel
  obtain⟨gK,oK,cK,hvK,_,_⟩:=hmine.shape
  rw[List.length_map,List.length_take,Nat.min_eq_left (by rw[HLN.out];exact hnl)] at hvK
  subst hvK
  have HFT:=Lib.hid hft
  have HMI:=Lib.hid hmine
  have HBE:=Lib.hid hbel
  have HBO:=Lib.hid hbox
  have hBr:B0<wr.heap.size:=(Array.getElem?_eq_some_iff.1 hbox).1
  have e1:wr.cell? ⟨B0,1,none⟩=some (.int .i64 f):=by rw[cell_of_row wr _ 1 _ _ _ hbox];rfl
  have e2:wr.cell? ⟨B0,2,none⟩=some (.int .i64 t):=by rw[cell_of_row wr _ 2 _ _ _ hbox];rfl
  have e3:wr.cell? ⟨B0,3,none⟩=some (.slice oK n cK):=by rw[cell_of_row wr _ 3 _ _ _ hbox];rfl
  have e4:wr.cell? ⟨B0,4,none⟩=some (.int .i64 hN):=by rw[cell_of_row wr _ 4 _ _ _ hbox];rfl
  have ef1:wr.frozen? ⟨B0,1,none⟩=false:=frozen_of_row _ _ 1 _ _ hbox
  have ef2:wr.frozen? ⟨B0,2,none⟩=false:=frozen_of_row _ _ 2 _ _ hbox
  clear hft hmine hbel hbox
  by_cases hlt:n<len
  ·have hltT:n<T.length:=by rw[HLN.out];exact hlt
   obtain⟨ho,hgz⟩:=HO.out (by rintro rfl;simp at hltT)
   subst ho
   obtain⟨c0,c1,c2,c3,c4⟩:=cells_bt HC.out n hltT
   obtain⟨x,hx⟩:∃ x,T[n]=x:=⟨_,rfl⟩
   rw[hx] at c0 c1 c2 c3 c4
   have hxh:=HH.out x (by rw[← hx];exact List.getElem_mem hltT)
   have HX:Hid (T.take (n+1)=T.take n ++ [x]):=Lib.hid (by rw[List.take_add_one,List.getElem?_eq_getElem hltT,hx];rfl)
   have hgB:g<B0:=by have:=HB02.out.size;have:=HB0.out;omega
   have hw:∀ j,wr.cell? ⟨g,j,none⟩=W.cell? ⟨g,j,none⟩:=fun j=>(HBE.out.cell (p:=⟨g,j,none⟩) hgB).trans (HB02.out.cell (p:=⟨g,j,none⟩) hgz)
   rw[← hw] at c0 c1 c2 c3 c4
   obtain⟨z,x1,x2,xo,xn,xc,hh⟩:=x
   simp only[] at c0 c1 c2 c3 c4 hxh
   have hgr:g<wr.heap.size:=by omega
   have hd:decide ((n:Int)<(len:Int))=true:=decide_eq_true (by omega)
   have hd':decide (n<len)=true:=decide_eq_true hlt
   have hq0:(0:Int)≤(n:Int):=by omega
   clear hw hx hltT hgz
   rcases Nat.eq_zero_or_pos n with hn0|hn0
   ·have hne0:((n:Int) == 0)=true:=beq_iff_eq.2 (by omega)
    have HN0:=Lib.hid hn0
    clear hn0
    obtain⟨u0,hu0⟩:∃ u0,((wr.setCell ⟨B0,1,none⟩ (.int .i64 x1)).setCell ⟨B0,2,none⟩ (.int .i64 x2)).alloc (.cells #[.int .i64 z,.int .i64 x1,.int .i64 x2,.slice xo xn xc,.int .i64 hh] 73)=u0:=⟨_,rfl⟩
    have hzu:u0.heap.size=wr.heap.size+1:=by rw[← hu0];simp only[World.size_alloc,size_set]
    have hoB:∀ k,k<wr.heap.size→k≠B0→u0.heap[k]? = wr.heap[k]?:=fun k hk hkb=>by rw[← hu0,Below.heap_alloc _ _ _ (by rw[size_set,size_set];exact hk),set_one _ _ _ _ _ hkb,set_one _ _ _ _ _ hkb]
    have h0u:u0.heap[B0]? = some (.cells #[.int .i64 kind,.int .i64 x1,.int .i64 x2,.slice oK n cK,.int .i64 hN] 73 (0,0)):=by
     rw[← hu0,Below.heap_alloc _ _ _ (by rw[size_set,size_set];exact hBr)]
     exact heap_setCell_same _ B0 2 _ _ _ (heap_setCell_same _ B0 1 _ _ _ HBO.out)
    have h1u:u0.heap[wr.heap.size]? = some (.cells #[.int .i64 z,.int .i64 x1,.int .i64 x2,.slice xo xn xc,.int .i64 hh] 73 (0,0)):=by
     have h9:=heap_alloc_last ((wr.setCell ⟨B0,1,none⟩ (.int .i64 x1)).setCell ⟨B0,2,none⟩ (.int .i64 x2)) (.cells #[.int .i64 z,.int .i64 x1,.int .i64 x2,.slice xo xn xc,.int .i64 hh] 73)
     rw[size_set,size_set,hu0] at h9
     exact h9
    have hMu:Mine nd u0 (B0+1) (.slice oK n cK) ((T.take n).map Bn.rn):=HMI.out.keep (fun k hk hz=>hoB k hz (by have:=(World.ownsRow.lt HMI.out k hk).1;omega))
    obtain⟨v',w',hrun,⟨g',cap',rfl⟩,q0,q1,qm,qb⟩:=over_step (z:=z) (x1:=x1) (x2:=x2) (xo:=xo) (xn:=xn) (xc:=xc) hMu h0u h1u (fun e0=>by have:=HMI.out.lt _ e0;omega) (by rw[List.length_map,List.length_take];have:=HLN.out;omega)
    have hlT:((T.take n).map Bn.rn).length=n:=by rw[List.length_map,List.length_take,Nat.min_eq_left (by rw[HLN.out];exact hnl)]
    rw[hzu,← hu0,hlT] at hrun
    rw[hlT] at qm
    clear hlT
    have HRUN:=Lib.hid hrun
    have d3:w'.cell? ⟨B0,3,none⟩=some (.slice oK n cK):=by rw[cell_of_row w' _ 3 _ _ _ q0];rfl
    have d4:w'.cell? ⟨B0,4,none⟩=some (.int .i64 hN):=by rw[cell_of_row w' _ 4 _ _ _ q0];rfl
    have df3:w'.frozen? ⟨B0,3,none⟩=false:=frozen_of_row _ _ 3 _ _ q0
    have df4:w'.frozen? ⟨B0,4,none⟩=false:=frozen_of_row _ _ 4 _ _ q0
    have d5:w'.cell? ⟨wr.heap.size,4,none⟩=some (.int .i64 hh):=by rw[cell_of_row w' _ 4 _ _ _ q1];rfl
    have hx1:IntKind.i64.wrap (hh+1)=hh+1:=IntWalk.i64_in _ (by omega)
    have hgB':B0<g':=by have:=(World.ownsRow.lt qm g' rfl).1;omega
    have HE:Hid (∀ mx,mx=max hN (hh+1)→∀ W',W'=(w'.setCell ⟨B0,3,none⟩ (.slice (some ⟨g',0,none⟩) (n+1) cap')).setCell ⟨B0,4,none⟩ (.int .i64 mx)→∃ (n':Nat) (f t hN:Int) (vK:Value),n'≤len∧Value.int .i64 ((n:Int)+1)=.int .i64 (n':Int)∧(f=fromK hr ((T.take n').map Bn.rn)∧t=toK hr ((T.take n').map Bn.rn)∧hN=hiFrom 1 ((T.take n').map Bn.h))∧(1≤hN∧hN≤201)∧W'.heap[B0]? = some (.cells #[.int .i64 kind,.int .i64 f,.int .i64 t,vK,.int .i64 hN] 73 (0,0))∧Mine nd W' (B0+1) vK ((T.take n').map Bn.rn)∧Below B0 w2 W'):=Lib.hid (fun mx hmx W' hW'=>by
     subst hW'
     have hk:∀ k,k≠B0→((w'.setCell ⟨B0,3,none⟩ (.slice (some ⟨g',0,none⟩) (n+1) cap')).setCell ⟨B0,4,none⟩ (.int .i64 mx)).heap[k]? = w'.heap[k]?:=fun k hk=>by rw[set_one _ _ _ _ _ hk,set_one _ _ _ _ _ hk]
     obtain⟨i1,i2,i3⟩:=HFT.out
     refine⟨n+1,x1,x2,mx,_,by omega,by go_num,⟨?_,?_,?_⟩,by omega,heap_setCell_same _ B0 4 _ _ _ (heap_setCell_same _ B0 3 _ _ _ q0),?_,?_⟩
     ·rw[HX.out,List.map_append,List.map_cons,List.map_nil,fromK_snoc]
      rw[if_pos (by rw[HN0.out];simp)];rfl
     ·rw[HX.out,List.map_append,List.map_cons,List.map_nil,toK_snoc];rfl
     ·rw[HX.out,List.map_append,List.map_cons,List.map_nil,hiFrom_snoc,← i3];exact hmx
     ·rw[HX.out,List.map_append]
      exact qm.keep (fun k hk2 _=>hk k (by have:=(World.ownsRow.lt qm k hk2).1;omega))
     ·have hb1:Below B0 wr u0:=by rw[← hu0];exact(((Below.refl B0 wr).setCell (p:=⟨B0,1,none⟩) (Nat.le_refl _) _).setCell (p:=⟨B0,2,none⟩) (Nat.le_refl _) _).alloc (by rw[size_set,size_set];exact Nat.le_of_lt hBr) _
      exact(HBE.out.trans (hb1.trans qb)).trans (((Below.refl _ _).setCell (p:=⟨B0,3,none⟩) (Nat.le_refl _) _).setCell (p:=⟨B0,4,none⟩) (Nat.le_refl _) _))
    clear hu0 hzu hoB h0u h1u hMu hrun q0 q1 qm qb
    by_cases hmx:hN<hh+1
    ·have hmd:decide (hN<hh+1)=true:=decide_eq_true hmx
     have HMX:Hid (hh+1=max hN (hh+1)):=Lib.hid (by omega)
     go_wp2_with (at_builtin;refine Lib.wpList_append_run _ rfl _ _ _ _ rfl _ _ rfl rfl _ _ (HRUN.out _) ?_)
     go_roundw
     case rel=>exact HE.out _ HMX.out _ rfl
     case measure=>simp only[intOf];omega
    ·have hmd:decide (hN<hh+1)=false:=decide_eq_false hmx
     have HMX:Hid (hN=max hN (hh+1)):=Lib.hid (by omega)
     go_wp2_with (at_builtin;refine Lib.wpList_append_run _ rfl _ _ _ _ rfl _ _ rfl rfl _ _ (HRUN.out _) ?_)
     go_roundw
     case rel=>exact HE.out _ HMX.out _ rfl
     case measure=>simp only[intOf];omega
   ·have hne0:((n:Int) == 0)=false:=beq_eq_false_iff_ne.2 (by omega)
    obtain⟨u0,hu0⟩:∃ u0,(wr.setCell ⟨B0,2,none⟩ (.int .i64 x2)).alloc (.cells #[.int .i64 z,.int .i64 x1,.int .i64 x2,.slice xo xn xc,.int .i64 hh] 73)=u0:=⟨_,rfl⟩
    have hzu:u0.heap.size=wr.heap.size+1:=by rw[← hu0];simp only[World.size_alloc,size_set]
    have hoB:∀ k,k<wr.heap.size→k≠B0→u0.heap[k]? = wr.heap[k]?:=fun k hk hkb=>by rw[← hu0,Below.heap_alloc _ _ _ (by rw[size_set];exact hk),set_one _ _ _ _ _ hkb]
    have h0u:u0.heap[B0]? = some (.cells #[.int .i64 kind,.int .i64 f,.int .i64 x2,.slice oK n cK,.int .i64 hN] 73 (0,0)):=by
     rw[← hu0,Below.heap_alloc _ _ _ (by rw[size_set];exact hBr)]
     exact heap_setCell_same _ B0 2 _ _ _ HBO.out
    have h1u:u0.heap[wr.heap.size]? = some (.cells #[.int .i64 z,.int .i64 x1,.int .i64 x2,.slice xo xn xc,.int .i64 hh] 73 (0,0)):=by
     have h9:=heap_alloc_last (wr.setCell ⟨B0,2,none⟩ (.int .i64 x2)) (.cells #[.int .i64 z,.int .i64 x1,.int .i64 x2,.slice xo xn xc,.int .i64 hh] 73)
     rw[size_set,hu0] at h9
     exact h9
    have hMu:Mine nd u0 (B0+1) (.slice oK n cK) ((T.take n).map Bn.rn):=HMI.out.keep (fun k hk hz=>hoB k hz (by have:=(World.ownsRow.lt HMI.out k hk).1;omega))
    obtain⟨v',w',hrun,⟨g',cap',rfl⟩,q0,q1,qm,qb⟩:=over_step (z:=z) (x1:=x1) (x2:=x2) (xo:=xo) (xn:=xn) (xc:=xc) hMu h0u h1u (fun e0=>by have:=HMI.out.lt _ e0;omega) (by rw[List.length_map,List.length_take];have:=HLN.out;omega)
    have hlT:((T.take n).map Bn.rn).length=n:=by rw[List.length_map,List.length_take,Nat.min_eq_left (by rw[HLN.out];exact hnl)]
    rw[hzu,← hu0,hlT] at hrun
    rw[hlT] at qm
    clear hlT
    have HRUN:=Lib.hid hrun
    have d3:w'.cell? ⟨B0,3,none⟩=some (.slice oK n cK):=by rw[cell_of_row w' _ 3 _ _ _ q0];rfl
    have d4:w'.cell? ⟨B0,4,none⟩=some (.int .i64 hN):=by rw[cell_of_row w' _ 4 _ _ _ q0];rfl
    have df3:w'.frozen? ⟨B0,3,none⟩=false:=frozen_of_row _ _ 3 _ _ q0
    have df4:w'.frozen? ⟨B0,4,none⟩=false:=frozen_of_row _ _ 4 _ _ q0
    have d5:w'.cell? ⟨wr.heap.size,4,none⟩=some (.int .i64 hh):=by rw[cell_of_row w' _ 4 _ _ _ q1];rfl
    have hx1:IntKind.i64.wrap (hh+1)=hh+1:=IntWalk.i64_in _ (by omega)
    have hgB':B0<g':=by have:=(World.ownsRow.lt qm g' rfl).1;omega
    have HE:Hid (∀ mx,mx=max hN (hh+1)→∀ W',W'=(w'.setCell ⟨B0,3,none⟩ (.slice (some ⟨g',0,none⟩) (n+1) cap')).setCell ⟨B0,4,none⟩ (.int .i64 mx)→∃ (n':Nat) (f t hN:Int) (vK:Value),n'≤len∧Value.int .i64 ((n:Int)+1)=.int .i64 (n':Int)∧(f=fromK hr ((T.take n').map Bn.rn)∧t=toK hr ((T.take n').map Bn.rn)∧hN=hiFrom 1 ((T.take n').map Bn.h))∧(1≤hN∧hN≤201)∧W'.heap[B0]? = some (.cells #[.int .i64 kind,.int .i64 f,.int .i64 t,vK,.int .i64 hN] 73 (0,0))∧Mine nd W' (B0+1) vK ((T.take n').map Bn.rn)∧Below B0 w2 W'):=Lib.hid (fun mx hmx W' hW'=>by
     subst hW'
     have hk:∀ k,k≠B0→((w'.setCell ⟨B0,3,none⟩ (.slice (some ⟨g',0,none⟩) (n+1) cap')).setCell ⟨B0,4,none⟩ (.int .i64 mx)).heap[k]? = w'.heap[k]?:=fun k hk=>by rw[set_one _ _ _ _ _ hk,set_one _ _ _ _ _ hk]
     obtain⟨i1,i2,i3⟩:=HFT.out
     refine⟨n+1,f,x2,mx,_,by omega,by go_num,⟨?_,?_,?_⟩,by omega,heap_setCell_same _ B0 4 _ _ _ (heap_setCell_same _ B0 3 _ _ _ q0),?_,?_⟩
     ·rw[HX.out,List.map_append,List.map_cons,List.map_nil,fromK_snoc]
      rw[if_neg (by intro e0;rw[List.map_eq_nil_iff,List.take_eq_nil_iff] at e0;have:=HLN.out;rcases e0 with e0|e0;omega;rw[e0] at this;simp at this;omega),← i1]
     ·rw[HX.out,List.map_append,List.map_cons,List.map_nil,toK_snoc];rfl
     ·rw[HX.out,List.map_append,List.map_cons,List.map_nil,hiFrom_snoc,← i3];exact hmx
     ·rw[HX.out,List.map_append]
      exact qm.keep (fun k hk2 _=>hk k (by have:=(World.ownsRow.lt qm k hk2).1;omega))
     ·have hb1:Below B0 wr u0:=by rw[← hu0];exact((Below.refl B0 wr).setCell (p:=⟨B0,2,none⟩) (Nat.le_refl _) _).alloc (by rw[size_set];exact Nat.le_of_lt hBr) _
      exact(HBE.out.trans (hb1.trans qb)).trans (((Below.refl _ _).setCell (p:=⟨B0,3,none⟩) (Nat.le_refl _) _).setCell (p:=⟨B0,4,none⟩) (Nat.le_refl _) _))
    clear hu0 hzu hoB h0u h1u hMu hrun q0 q1 qm qb
    by_cases hmx:hN<hh+1
    ·have hmd:decide (hN<hh+1)=true:=decide_eq_true hmx
     have HMX:Hid (hh+1=max hN (hh+1)):=Lib.hid (by omega)
     go_wp2_with (at_builtin;refine Lib.wpList_append_run _ rfl _ _ _ _ rfl _ _ rfl rfl _ _ (HRUN.out _) ?_)
     go_roundw
     case rel=>exact HE.out _ HMX.out _ rfl
     case measure=>simp only[intOf];omega
    ·have hmd:decide (hN<hh+1)=false:=decide_eq_false hmx
     have HMX:Hid (hN=max hN (hh+1)):=Lib.hid (by omega)
     go_wp2_with (at_builtin;refine Lib.wpList_append_run _ rfl _ _ _ _ rfl _ _ rfl rfl _ _ (HRUN.out _) ?_)
     go_roundw
     case rel=>exact HE.out _ HMX.out _ rfl
     case measure=>simp only[intOf];omega
  ·have hd:decide ((n:Int)<(len:Int))=false:=decide_eq_false (by omega)
   have hd':decide (n<len)=false:=decide_eq_false hlt
   obtain rfl:n=len:=by omega
   have hTT:T.take n=T:=List.take_of_length_le (by rw[HLN.out];exact Nat.le_refl _)
   obtain⟨i1,i2,i3⟩:=HFT.out
   rw[hTT] at i1 i2 i3
   have HI:=Lib.hid (And.intro i1 (And.intro i2 i3))
   have hMT:=HMI.out
   rw[hTT] at hMT
   have HMT:=Lib.hid hMT
   have e0:wr.cell? ⟨B0,0,none⟩=some (.int .i64 kind):=by rw[cell_of_row wr _ 0 _ _ _ HBO.out];rfl
   have hR:wr.heap[W.heap.size]? = _:=(HBE.out.block _ hz2).trans HR2.out
   have r0:wr.cell? ⟨W.heap.size,0,none⟩=some (.int .i64 0):=by rw[cell_of_row wr _ 0 _ _ _ hR];rfl
   have r1:wr.cell? ⟨W.heap.size,1,none⟩=some (.int .i64 0):=by rw[cell_of_row wr _ 1 _ _ _ hR];rfl
   have r2:wr.cell? ⟨W.heap.size,2,none⟩=some (.int .i64 0):=by rw[cell_of_row wr _ 2 _ _ _ hR];rfl
   have r3:wr.cell? ⟨W.heap.size,3,none⟩=some (.slice none 0 0):=by rw[cell_of_row wr _ 3 _ _ _ hR];rfl
   have r4:wr.cell? ⟨W.heap.size,4,none⟩=some (.int .i64 0):=by rw[cell_of_row wr _ 4 _ _ _ hR];rfl
   have rf0:wr.frozen? ⟨W.heap.size,0,none⟩=false:=frozen_of_row _ _ 0 _ _ hR
   have rf1:wr.frozen? ⟨W.heap.size,1,none⟩=false:=frozen_of_row _ _ 1 _ _ hR
   have rf2:wr.frozen? ⟨W.heap.size,2,none⟩=false:=frozen_of_row _ _ 2 _ _ hR
   have rf3:wr.frozen? ⟨W.heap.size,3,none⟩=false:=frozen_of_row _ _ 3 _ _ hR
   have rf4:wr.frozen? ⟨W.heap.size,4,none⟩=false:=frozen_of_row _ _ 4 _ _ hR
   have HRR:=Lib.hid hR
   have HZ2:=Lib.hid hz2
   clear hMT i1 i2 i3 hTT hR
   go_wp2_with fail
   refine bodyPost_ret (v:=.agg #[.int .i64 kind,.int .i64 f,.int .i64 t,.slice oK n cK,.int .i64 hN]) (results_cell_row Tryz.results91 _ _ W.heap.size 73 _ (0,0) _ rfl (heap_setCell_same _ _ 4 _ _ _ (heap_setCell_same _ _ 3 _ _ _ (heap_setCell_same _ _ 2 _ _ _ (heap_setCell_same _ _ 1 _ _ _ (heap_setCell_same _ _ 0 _ _ _ HRR.out))))) Tryz.underlying73 rfl (by as_aux_lemma=>kernel_rfl)) rfl ⟨oK,cK,by rw[HI.out.1,HI.out.2.1,HI.out.2.2],?_,?_⟩
   ·have h1:Below W.heap.size W wr:=HB02.out.trans (HBE.out.mono (Nat.le_of_lt HZ2.out))
    exact h1.trans (((((Below.refl _ _).setCell (p:=⟨W.heap.size,0,none⟩) (Nat.le_refl _) _).setCell (p:=⟨W.heap.size,1,none⟩) (Nat.le_refl _) _).setCell (p:=⟨W.heap.size,2,none⟩) (Nat.le_refl _) _).setCell (p:=⟨W.heap.size,3,none⟩) (Nat.le_refl _) _ |>.setCell (p:=⟨W.heap.size,4,none⟩) (Nat.le_refl _) _)
   ·refine(HMT.out.keep (fun k hk _=>?_)).mono (by have:=HZ2.out;omega)
    have hk2:k≠W.heap.size:=by have:=(World.ownsRow.lt HMT.out k hk).1;have:=HZ2.out;omega
    rw[set_one _ _ _ _ _ hk2,set_one _ _ _ _ _ hk2,set_one _ _ _ _ _ hk2,set_one _ _ _ _ _ hk2,set_one _ _ _ _ _ hk2]
open Go.RowKit
theorem Row.fromB {w:World} {o:Option Addr} {n cap:Nat} {T:List Bn} (h:Row bt w (.slice o n cap) T) (i:Nat) (hi:i≤n) (hn:T.length=n):∃ o',(∀ u,(Instr.slice 59 (.slice o n cap) (some (.int .i64 (i:Int))) none none).run Tryz.prog u=.ok (.slice o' (n - i) (cap - i)) u)∧Row bt w (.slice o' (n - i) (cap - i)) (T.drop i):=by
 obtain⟨g,off,o',cap',hc,hv,ho,hcell⟩:=h
 simp only[Value.slice.injEq] at hv
 obtain⟨rfl,hv2,rfl⟩:=hv
 have hl:(T.drop i).length=n - i:=by rw[List.length_drop,hn]
 refine⟨if cap=i then o else o.map (·.add (i*5)),fun u=>?_,g,off+i*bt.k,_,cap - i,by rw[hl];omega,by rw[hl],fun hne=>?_,hcell.drop i⟩
 ·rw[run_slice_l (P:=Tryz.prog) (w:=u) (t:=59) (a:=o) (len:=n) (cap:=cap) (ht:=bt.ht') .i64 (i:Int) (by omega) (by omega)]
  have:=bt.hs u
  rw[show bt.t=59 from rfl] at this
  rw[this]
  simp [sliced,bt]
 ·have h1:i<T.length:=by
   rcases Nat.lt_or_ge i T.length with h|h
   ·exact h
   ·exact absurd (List.drop_of_length_le h) hne
  rw[if_neg (by omega),ho (fun e=>by rw[e] at h1;simp at h1)]
  simp [Addr.add,bt]
  try omega
theorem cpush_cut {W:World} {b tkn:Nat} {vL vS vR:Value} {σ:Rc} (h:RcT W b vL vS vR σ tkn) (x:Bn) {vC:Value} {T:List Bn} (hC:Mine bt W 0 vC T) (hown:vC.ownBlock=vR.ownBlock) (hfew:T.length≤1099511627776) :
  ∀ u,Below W.heap.size W u→∀ ad,u.heap[ad]? = some (.cells #[.int .i64 x.k,.int .i64 x.i,.int .i64 x.j,.slice x.o x.n x.c,.int .i64 x.h] 73 (0,0)) →
   ∃ v' w',(∀ ty,(Builtin.append_ #[59,59] ty #[vC,.slice (some ⟨ad,0,none⟩) 1 1]).run Tryz.prog u=.ok v' w') ∧
    (∃ g cap',v'=.slice (some ⟨g,0,none⟩) (T.length+1) cap')∧w'.cell? ⟨b,4,none⟩=some vR∧w'.frozen? ⟨b,4,none⟩=false∧b<w'.heap.size ∧
    RcT (w'.setCell ⟨b,4,none⟩ v') b vL vS v' { σ with R:=T ++ [x] } tkn∧Nx W b vR (.slice none 0 0) (w'.setCell ⟨b,4,none⟩ v') v' (.slice none 0 0):=by
 intro u hu ad had
 have hbz:b<W.heap.size:=(Array.getElem?_eq_some_iff.1 h.cells).1
 have hub:=h.below hu
 have hRb:=h.row.ne h.cells (by decide)
 obtain⟨g,cap',w',h1,h2,h3,h4⟩:=app_lies (F:=bt) (x:=x) (hC.below hu) had (Nat.zero_le _) (by simp [maxLen];omega) (by show(T.length+1)*56≤_;omega)
 have hbu:b<u.heap.size:=Nat.lt_of_lt_of_le hbz hu.size
 have hwb:w'.heap[b]? = u.heap[b]?:=h3.block b hbu (fun e=>hRb (hown.symm.trans e.symm))
 have hcells:=hwb.trans hub.cells
 obtain⟨⟨_,_,_,_,b4,_⟩,hfr⟩:=ten_at hcells
 have hg:vR.ownBlock=some g∨W.heap.size≤g:=by
  rcases h4 with h4|h4
  ·exact .inl (hown.symm.trans h4)
  ·exact .inr (by rw[h4];exact hu.size)
 have hgb:g≠b:=by
  rintro rfl
  rcases hg with hg|hg
  ·exact hRb hg
  ·omega
 have hbw:b<w'.heap.size:=Nat.lt_of_lt_of_le hbu h3.size
 have hrun:∀ k,k≠b→(w'.setCell ⟨b,4,none⟩ (.slice (some ⟨g,0,none⟩) (T.length+1) cap')).heap[k]? = w'.heap[k]?:=fun k hk=>set_one _ _ _ _ _ hk
 have hold:∀ k,k<u.heap.size→k≠b→vR.ownBlock≠some k→(w'.setCell ⟨b,4,none⟩ (.slice (some ⟨g,0,none⟩) (T.length+1) cap')).heap[k]? = u.heap[k]?:=fun k hk hkb hkR=>(hrun k hkb).trans (h3.block k hk (fun e=>hkR (hown.symm.trans e.symm)))
 refine⟨_,w',h1,⟨g,cap',rfl⟩,b4,hfr 4,hbw,⟨?_,?_,?_,?_,h.read,h.few⟩,⟨?_,?_,?_,?_,?_,?_,fun k hk=>by simp [Value.ownBlock] at hk⟩⟩
 ·exact heap_setCell_same _ b 4 _ _ _ hcells
 ·exact hub.toks.keep (fun k hk hz=>hold k hz (fun e=>hub.toks.ne hub.cells (by decide) (by rw[← e];exact hk)) (hub.toks.differs hub.row (by decide) k hk))
 ·exact hub.sigs.keep (fun k hk hz=>hold k hz (fun e=>hub.sigs.ne hub.cells (by decide) (by rw[← e];exact hk)) (hub.sigs.differs hub.row (by decide) k hk))
 ·exact h2.keep (fun k hk _=>hrun k (by simp only[Value.ownBlock,Option.some.injEq] at hk;omega))
 ·exact h3.os.trans hu.os
 ·exact h3.tape.trans hu.tape
 ·exact h3.output.trans hu.output
 ·rw[size_set];exact Nat.le_trans hu.size h3.size
 ·intro k hk hkb hkR _
  exact(hold k (Nat.lt_of_lt_of_le hk hu.size) hkb hkR).trans (hu.block k hk)
 ·intro k hk
  simp only[Value.ownBlock,Option.some.injEq] at hk
  subst hk
  exact hg
def Rc.closed (σ:Rc) (m:Nat) (N:Bn):Rc:={ σ with R:=σ.R.take m ++ [N] }
def Rc.close (σ:Rc) (m:Nat) (N:Bn):Rc:=if 100<N.h then(σ.closed m N).fail 202 else σ.closed m N
def CCloses (W:World) (b:Nat) (vL vS vR:Value) (σ:Rc) (m:Nat) (kind:Int) (e:Ending) (W':World):Prop:=
 ∃ v vR' ok ck,e=.returned v∧RcAt W' b vL vS vR' (σ.close m ⟨kind,fromK σ.here ((σ.R.drop m).map Bn.rn),toK σ.here ((σ.R.drop m).map Bn.rn),ok,(σ.R.drop m).length,ck,hiFrom 1 ((σ.R.drop m).map Bn.h)⟩)∧Nx W b vR (.slice none 0 0) W' vR' (.slice none 0 0) ∧
  Mine nd W' (W.heap.size+1) (.slice ok (σ.R.drop m).length ck) ((σ.R.drop m).map Bn.rn)∧∀ k,(Value.slice ok (σ.R.drop m).length ck).ownBlock=some k→k≠b∧vR'.ownBlock≠some k
theorem cclose_any {W:World} {b:Nat} {vL vS vR:Value} {σ:Rc} (h:RcAt W b vL vS vR σ) (m:Int) (kind:Int) (hf:σ.failed=false) (hfew:σ.R.length≤1099511627776) (hH:∀ x∈σ.R,0≤x.h∧x.h≤200) :
  Calls Tryz.prog 37 #[.pointer (some ⟨b,0,none⟩),.int .i64 m,.int .i64 kind] W (CCloses W b vL vS vR σ (clampR m σ.R.length+lead ((σ.R.drop (clampR m σ.R.length)).map Bn.rn)) kind):=by
 have HRD:=Lib.hid h
 have HWI:=Lib.hid (cwithin_any h m hfew)
 obtain⟨⟨_,_,_,_,b4,_,_,_,_,b9⟩,_⟩:=ten_at h.cells
 rw[hf] at b9
 obtain⟨g,o,cap,hv,ho,_⟩:=h.row.shape
 have HO:=Lib.hid ho
 have HM:=Lib.hid h.row
 have HHB:=Lib.hid hH
 subst hv
 obtain⟨len,hlen⟩:∃ len,σ.R.length=len:=⟨_,rfl⟩
 rw[hlen] at HM b4 hfew HWI
 have HLN:=Lib.hid hlen
 clear h ho hlen hf hH
 obtain⟨m0,hm0⟩:∃ m0,clampR m len=m0:=⟨_,rfl⟩
 have hm0l:m0≤len:=by rw[← hm0];unfold clampR;omega
 rw[hm0] at HWI
 have HM0:=Lib.hid hm0
 clear hm0
 obtain⟨m1,hm1⟩:∃ m1,m0+lead ((σ.R.drop m0).map Bn.rn)=m1:=⟨_,rfl⟩
 have HM1:=Lib.hid hm1
 have hm1l:m1≤len:=by
  have:=lead_le ((σ.R.drop m0).map Bn.rn)
  rw[List.length_map,List.length_drop,HLN.out] at this
  omega
 clear hm1
 go_enter Tryz.func37,Tryz.ntmps37
 go_step
 go_cut [] (fun wx=>wx=W)
 case first=>
  go_wp2_with fail
  all_goals go_meet
  all_goals rfl
 case rest=>
  subst hcut
  go_step
  go_step
  go_cut [6] (fun v wx=>v=.int .i64 (m0:Int)∧wx=wc)
  case first=>
   go_wp2_with (go_at_call 90;refine HWI.out.mono ?_;rintro e w' ⟨rfl,rfl⟩)
   all_goals go_meet
   all_goals exact⟨rfl,rfl⟩
  case rest=>
   obtain⟨rfl,hwx⟩:=hcut
   have hwx2:=hwx.symm
   subst hwx2
   clear hwx HWI
   go_step
   go_step
   go_cut [6] (fun v wx=>v=.int .i64 (m1:Int)∧wx=wc)
   case first=>
    go_wp2_with fail
    go_loopw [6] (fun p wr=>∃ k:Nat,k≤len∧p=.int .i64 (k:Int)∧k+lead ((σ.R.drop k).map Bn.rn)=m1∧wr=wc) (fun p _=>len - (intOf p).toNat)
    case atStart=>exact⟨m0,hm0l,rfl,HM1.out,rfl⟩
    case round=>
     obtain⟨k,hkl,rfl,hkm,hw⟩:=hrel
     have hw2:=hw.symm
     subst hw2
     have HK:=Lib.hid hkm
     clear hkm hw
     by_cases hlt:k<len
     ·have hltT:k<σ.R.length:=by rw[HLN.out];exact hlt
      have ho:=HO.out (by intro e;rw[e] at hltT;simp at hltT)
      subst ho
      obtain⟨c0,_,_,_,_⟩:=cells_bt HM.out.cells k hltT
      rw[Nat.zero_add] at c0
      rw[List.drop_eq_getElem_cons hltT,List.map_cons,lead] at HK
      have hq0:(0:Int)≤(k:Int):=by omega
      have hd:decide ((k:Int)<(len:Int))=true:=decide_eq_true (by omega)
      have hd':decide (k<len)=true:=decide_eq_true hlt
      generalize σ.R[k]=t at *
      obtain⟨z,x1,x2,xo,xn,xc,xh⟩:=t
      simp only[] at c0 HK
      clear hltT
      rw[show(Bn.mk z x1 x2 xo xn xc xh).rn.k=z from rfl] at HK
      cases hs:sig z with
      |true=>
       rw[hs,if_pos rfl] at HK
       go_wp2_with (go_at_call 30;refine(isTrivia_any _ _).mono ?_;rw[hs];rintro e w' ⟨rfl,rfl⟩)
       all_goals go_meet
       all_goals exact⟨by rw[← HK.out];rfl,rfl⟩
      |false=>
       rw[hs,if_neg (by simp)] at HK
       go_wp2_with (go_at_call 30;refine(isTrivia_any _ _).mono ?_;rw[hs];rintro e w' ⟨rfl,rfl⟩)
       go_roundw
       case rel=>exact⟨k+1,by omega,by go_num,by have:=HK.out;omega,by trivial⟩
       case measure=>simp [intOf];omega
     ·have hd:decide ((k:Int)<(len:Int))=false:=decide_eq_false (by omega)
      have hd':decide (k<len)=false:=decide_eq_false hlt
      rw[List.drop_of_length_le (by rw[HLN.out];omega),List.map_nil,lead] at HK
      go_wp2_with fail
      go_meet
      exact⟨by rw[← HK.out];rfl,rfl⟩
   case rest=>
    obtain⟨rfl,hwx⟩:=hcut
    have hwx2:=hwx.symm
    subst hwx2
    clear hwx
    rename World=>W0
    obtain⟨o',hs',hrow'⟩:=Row.fromB HM.out.row m1 hm1l HLN.out
    have hov:=over_any (by rw[HLN.out] at HRD;exact HRD.out) (σ.R.drop m1) hrow' kind (by rw[List.length_drop,HLN.out];omega) (fun x hx=>HHB.out x (List.mem_of_mem_drop hx))
    rw[HLN.out] at HRD
    obtain⟨kf,hkf⟩:∃ kf,fromK σ.here ((σ.R.drop m1).map Bn.rn)=kf:=⟨_,rfl⟩
    obtain⟨kt,hkt⟩:∃ kt,toK σ.here ((σ.R.drop m1).map Bn.rn)=kt:=⟨_,rfl⟩
    obtain⟨kh,hkh⟩:∃ kh,hiFrom 1 ((σ.R.drop m1).map Bn.h)=kh:=⟨_,rfl⟩
    obtain⟨kl,hkl⟩:∃ kl,(σ.R.drop m1).length=kl:=⟨_,rfl⟩
    rw[hkf,hkt,hkh,hkl] at hov
    have HKF:=Lib.hid (And.intro hkf (And.intro hkt (And.intro hkh hkl)))
    have HOV:=Lib.hid hov
    have hbz:b<W0.heap.size:=World.block_lt_of_cell? _ _ b4
    clear hov hrow' hkf hkt hkh hkl
    go_wp2_with (go_at_call 91;refine HOV.out.mono ?_;rintro e w1 ⟨ok,ck,rfl,hb1,hmk⟩)
    have hb2:Below W0.heap.size W0 (w1.alloc (.cells #[.int .i64 kind,.int .i64 kf,.int .i64 kt,.slice ok kl ck,.int .i64 kh] 73)):=hb1.alloc hb1.size _
    have hbx:=heap_alloc_last w1 (.cells #[.int .i64 kind,.int .i64 kf,.int .i64 kt,.slice ok kl ck,.int .i64 kh] 73)
    have hmk2:=hmk.below ((Below.refl w1.heap.size w1).alloc (Nat.le_refl _) (.cells #[.int .i64 kind,.int .i64 kf,.int .i64 kt,.slice ok kl ck,.int .i64 kh] 73))
    have hz2:w1.heap.size<(w1.alloc (.cells #[.int .i64 kind,.int .i64 kf,.int .i64 kt,.slice ok kl ck,.int .i64 kh] 73)).heap.size:=by rw[World.size_alloc];omega
    generalize w1.alloc (.cells #[.int .i64 kind,.int .i64 kf,.int .i64 kt,.slice ok kl ck,.int .i64 kh] 73)=W2 at *
    obtain⟨B1,hB1⟩:∃ B1,w1.heap.size=B1:=⟨_,rfl⟩
    have HB1:Hid (W0.heap.size≤B1):=Lib.hid (by rw[← hB1];exact hb1.size)
    rw[hB1] at hbx hz2 ⊢
    have x0:W2.cell? ⟨B1,0,none⟩=some (.int .i64 kind):=by rw[cell_of_row W2 _ 0 _ _ _ hbx];rfl
    have x1:W2.cell? ⟨B1,1,none⟩=some (.int .i64 kf):=by rw[cell_of_row W2 _ 1 _ _ _ hbx];rfl
    have x2:W2.cell? ⟨B1,2,none⟩=some (.int .i64 kt):=by rw[cell_of_row W2 _ 2 _ _ _ hbx];rfl
    have x3:W2.cell? ⟨B1,3,none⟩=some (.slice ok kl ck):=by rw[cell_of_row W2 _ 3 _ _ _ hbx];rfl
    have x4:W2.cell? ⟨B1,4,none⟩=some (.int .i64 kh):=by rw[cell_of_row W2 _ 4 _ _ _ hbx];rfl
    have hr2:=HRD.out.below hb2
    obtain⟨⟨_,_,_,_,y4,_⟩,_⟩:=ten_at hr2.cells
    obtain⟨hsR,hmR⟩:=hr2.row.upto m1 (by rw[HLN.out];exact hm1l)
    have hsR':∀ u,(Instr.slice 59 (.slice o len cap) none (some (.int .i64 (m1:Int))) none).run Tryz.prog u=.ok (.slice o m1 cap) u:=hsR
    have hap:=cpush_cut hr2.t ⟨kind,kf,kt,ok,kl,ck,kh⟩ hmR (own_len o m1 len cap) (by rw[List.length_take];omega)
    have hlT:(σ.R.take m1).length=m1:=by rw[List.length_take,HLN.out];omega
    simp only[hlT] at hap
    have HAP:=Lib.hid hap
    clear hlT
    have HMK:=Lib.hid hmk2
    have HN2:Hid (Nx W0 b (.slice o len cap) (.slice none 0 0) W2 (.slice o len cap) (.slice none 0 0)):=Lib.hid (Nx.below hb2)
    have hvB:(Value.slice o len cap).ownBlock≠some B1:=fun e0=>by have:=HM.out.lt B1 e0;have:=HB1.out;omega
    have HKP:Hid (∀ (w':World) (v':Value),Nx W2 b (.slice o len cap) (.slice none 0 0) (w'.setCell ⟨b,4,none⟩ v') v' (.slice none 0 0)→w'.cell? ⟨B1,1*4,none⟩=some (.int .i64 kh)):=Lib.hid (fun w' v' hn=>by
     have hBb:B1≠b:=by have:=HB1.out;omega
     have e0:w'.heap[B1]? = W2.heap[B1]?:=(set_one w' b 4 v' B1 hBb).symm.trans (hn.block B1 hz2 hBb hvB (by simp [Value.ownBlock]))
     rw[hbx] at e0
     rw[cell_of_row w' _ 4 _ _ _ e0];rfl)
    have hBb:b<B1:=by have:=HB1.out;omega
    have hbz2:b<W2.heap.size:=by omega
    clear hsR hmR hap hmk hmk2 hb1 hb2 hr2 hbx hvB hB1 hs' b4 b9
    have HNE:Hid (∀ k,(Value.slice ok kl ck).ownBlock=some k→k≠b∧(Value.slice o len cap).ownBlock≠some k∧(Value.slice none 0 0).ownBlock≠some k):=Lib.hid (fun k hk=>by
     have h1:=(World.ownsRow.lt HMK.out k hk).1
     exact⟨by omega,fun e0=>by have:=HM.out.lt k e0;omega,by simp [Value.ownBlock]⟩)
    by_cases hbig:100<kh
    ·have hdb:decide (100<kh)=true:=decide_eq_true hbig
     have HBG:=Lib.hid hbig
     clear hbig
     go_region_law (refine step_append_ex rfl _ _ _ _ rfl _ _ rfl rfl (HAP.out _ ?_ _ ?_) ?_;(first|exact(Below.refl _ _).drew.alloc (Nat.le_refl _) _);(first|exact heap_alloc_last _ _);rintro v' w' ⟨⟨g9,cap',rfl⟩,c4,f4,hbw,hrt,hnx⟩;have k4:=HKP.out _ _ hnx;have HRT:=Lib.hid hrt;have HNX:=Lib.hid hnx;have HK4:=Lib.hid (HMK.out.nx hnx HNE.out);clear hrt hnx)
     all_goals(try go_wp2_with (go_at_call 45;refine(cfail_any (HRT.out.at rfl) 202).mono ?_;rintro e w6 ⟨v6,vR6,rfl,hr6,hn6⟩;have HR6:=Lib.hid hr6;have HN6:=Lib.hid hn6;have HK6:=Lib.hid (HK4.out.1.nx hn6 HK4.out.2);clear hr6 hn6))
     all_goals go_end0
     all_goals
      have hm1':clampR m σ.R.length+lead ((σ.R.drop (clampR m σ.R.length)).map Bn.rn)=m1:=by rw[HLN.out,HM0.out,HM1.out]
      have hm2':clampR m σ.R.length+lead ((σ.R.map Bn.rn).drop (clampR m σ.R.length))=m1:=by rw[← List.map_drop];exact hm1'
      unfold CCloses
      first|rw[hm1']|rw[hm2']
      rw[HKF.out.1,HKF.out.2.1,HKF.out.2.2.1,HKF.out.2.2.2,HLN.out]
      exact⟨_,vR6,ok,ck,rfl,by unfold Rc.close Rc.closed;rw[if_pos HBG.out];exact HR6.out,(HN2.out.trans HNX.out).trans HN6.out,HK6.out.1,fun k hk=>⟨(HK6.out.2 k hk).1,(HK6.out.2 k hk).2.1⟩⟩
    ·have hdb:decide (100<kh)=false:=decide_eq_false hbig
     have HBG:=Lib.hid hbig
     clear hbig
     go_region_law (refine step_append_ex rfl _ _ _ _ rfl _ _ rfl rfl (HAP.out _ ?_ _ ?_) ?_;(first|exact(Below.refl _ _).drew.alloc (Nat.le_refl _) _);(first|exact heap_alloc_last _ _);rintro v' w' ⟨⟨g9,cap',rfl⟩,c4,f4,hbw,hrt,hnx⟩;have k4:=HKP.out _ _ hnx;have HRT:=Lib.hid hrt;have HNX:=Lib.hid hnx;have HK4:=Lib.hid (HMK.out.nx hnx HNE.out);clear hrt hnx)
     all_goals(try go_wp2_with fail)
     all_goals go_end0
     all_goals
      have hm1':clampR m σ.R.length+lead ((σ.R.drop (clampR m σ.R.length)).map Bn.rn)=m1:=by rw[HLN.out,HM0.out,HM1.out]
      have hm2':clampR m σ.R.length+lead ((σ.R.map Bn.rn).drop (clampR m σ.R.length))=m1:=by rw[← List.map_drop];exact hm1'
      unfold CCloses
      first|rw[hm1']|rw[hm2']
      rw[HKF.out.1,HKF.out.2.1,HKF.out.2.2.1,HKF.out.2.2.2,HLN.out]
      exact⟨_,_,ok,ck,rfl,by unfold Rc.close Rc.closed;rw[if_neg (by show ¬ (100<kh);have:=HBG.out;omega)];exact HRT.out.at rfl,HN2.out.trans HNX.out,HK4.out.1,fun k hk=>⟨(HK4.out.2 k hk).1,(HK4.out.2 k hk).2.1⟩⟩
open Go.RowKit
def leafB (t:Tk):Bn:=⟨t.k,t.i,t.j,none,0,0,0⟩
def Rl (σ:Rc) (a n:Nat):List Bn:=σ.R ++ ((σ.L.drop a).take n).map leafB
theorem Rl_zero (σ:Rc) (a:Nat):Rl σ a 0=σ.R:=by rw[Rl,List.take_zero,List.map_nil,List.append_nil]
theorem Rl_succ (σ:Rc) (a n:Nat) (t:Tk) (h:σ.L[a+n]? = some t):Rl σ a (n+1)=Rl σ a n ++ [leafB t]:=by
 rw[Rl,Rl,List.take_add_one,List.getElem?_drop,h,List.append_assoc]
 simp [leafB]
theorem Rl_length (σ:Rc) (a n:Nat):(Rl σ a n).length≤σ.R.length+n:=by
 rw[Rl,List.length_append,List.length_map,List.length_take]
 omega
theorem creadTo_any {W:World} {b tkn:Nat} {vL vS vR:Value} {σ:Rc} (h:RcT W b vL vS vR σ tkn) (m:Nat) (hm:σ.at'+m≤σ.L.length) (hfew:σ.R.length+σ.L.length≤1099511627776) :
  Calls Tryz.prog 65 #[.pointer (some ⟨b,0,none⟩),.int .i64 ((σ.at'+m:Nat):Int)] W (fun e' w'=>∃ v vR',e'=.returned v∧RcT w' b vL vS vR' { σ with at':=σ.at'+m,R:=Rl σ σ.at' m } tkn∧Nx W b vR (.slice none 0 0) w' vR' (.slice none 0 0)):=by
 obtain⟨gL,oL,cL,hvL,hoL,_⟩:=h.toks.shape
 have hcap:σ.L.length≤cL:=by
  obtain⟨_,_,_,_,hc,hv,_⟩:=h.toks.row
  rw[hvL] at hv
  simp only[Value.slice.injEq] at hv
  obtain⟨_,_,rfl⟩:=hv
  exact hc
 subst hvL
 have HRD:=Lib.hid h
 obtain⟨⟨b0,_,b2,_,_,_,_,_,_,_⟩,_⟩:=ten_at h.cells
 have hread:=h.read
 have hs:∀ u,(Instr.slice 22 (.slice oL σ.L.length cL) (some (.int .i64 (σ.at':Int))) (some (.int .i64 ((σ.at'+m:Nat):Int))) none).run Tryz.prog u=.ok (.slice (if cL=σ.at' then oL else oL.map (·.add (σ.at'*3))) m (cL - σ.at')) u:=fun u=>by
  rw[run_slice_lh (P:=Tryz.prog) (w:=u) (t:=22) (a:=oL) (len:=σ.L.length) (cap:=cL) (ht:=tk.ht') .i64 .i64 (σ.at':Int) ((σ.at'+m:Nat):Int) (by omega) (by omega) (by omega)]
  have:=tk.hs u
  rw[show tk.t=22 from rfl] at this
  rw[this]
  simp [sliced,tk]
  omega
 obtain⟨o',ho'⟩:∃ o',(if cL=σ.at' then oL else oL.map (·.add (σ.at'*3)))=o':=⟨_,rfl⟩
 rw[ho'] at hs
 have HO':Hid (0<m→o'=some ⟨gL,σ.at'*3,none⟩):=Lib.hid (fun hm0=>by
  rw[← ho',if_neg (by omega),hoL (by intro e;rw[e] at hm;simp at hm;omega)]
  simp [Addr.add]
  try(intro h0;omega))
 have HOL:=Lib.hid hoL
 clear h hoL ho'
 obtain⟨len,hlen⟩:∃ len,σ.L.length=len:=⟨_,rfl⟩
 have HLN:=Lib.hid hlen
 rw[hlen] at hs b0 hm hfew hcap hread HRD ⊢
 obtain⟨a,ha⟩:∃ a,σ.at'=a:=⟨_,rfl⟩
 have HA:=Lib.hid ha
 rw[ha] at hs b2 hm hread HO' ⊢
 obtain⟨e,he⟩:∃ e,a+m=e:=⟨_,rfl⟩
 rw[he] at hs ⊢
 have HEE:=Lib.hid he
 rw[he] at hm
 have hme:m≤e:=by omega
 clear hlen ha he
 have hRb:Hid (∀ (W1:World) (vR1:Value) (n:Nat),n≤m→RcT W1 b (.slice oL len cL) vS vR1 { σ with R:=Rl σ a n } tkn→(∀ (hn:n<m),∃ t,σ.L[a+n]? = some t∧(W1.cell? ⟨gL,a*3+n*3,none⟩=some (.int .i64 t.k)∧W1.cell? ⟨gL,a*3+n*3+1,none⟩=some (.int .i64 t.i)∧W1.cell? ⟨gL,a*3+n*3+2,none⟩=some (.int .i64 t.j))∧gL<W1.heap.size)):=Lib.hid (fun W1 vR1 n hnm hr hn=>by
  have hl:a+n<σ.L.length:=by rw[HLN.out];have:=HEE.out;omega
  have hoo:=HOL.out (by intro e0;rw[e0] at hl;simp at hl)
  have hT:=hr.toks
  rw[hoo] at hT
  obtain⟨c1,c2,c3⟩:=cells_tk hT.cells (a+n) hl
  rw[show 0+(a+n)*3=a*3+n*3 by omega] at c1 c2 c3
  exact⟨_,List.getElem?_eq_getElem hl,⟨c1,c2,c3⟩,World.block_lt_of_cell? _ _ c1⟩)
 have HFW:=Lib.hid hfew
 go_enter Tryz.func65,Tryz.ntmps65
 go_wp2_with fail
 go_region
 all_goals(try go_wp2_with fail)
 go_loopw [17] (fun p wr=>∃ (n:Nat) (vR1:Value),n≤m∧p=.int .i64 (n:Int)∧RcT wr b (.slice oL len cL) vS vR1 { σ with R:=Rl σ a n } tkn∧Nx W b vR (.slice none 0 0) wr vR1 (.slice none 0 0)) (fun p _=>m - (intOf p).toNat)
 case atStart=>exact⟨0,vR,Nat.zero_le _,rfl,by rw[Rl_zero];exact HRD.out.below (Below.refl _ _).drew,Nx.below (Below.refl _ _).drew⟩
 case round=>
  obtain⟨n,vR1,hnm,rfl,hr,hn⟩:=hrel
  have HN:=Lib.hid hn
  have HR:=Lib.hid hr
  by_cases hlt:n<m
  ·obtain⟨⟨z,x1,x2⟩,ht,⟨c1,c2,c3⟩,hgz⟩:=hRb.out _ _ _ hnm hr hlt
   have ho:=HO'.out (by omega)
   subst ho
   have HT:=Lib.hid ht
   simp only[] at c1 c2 c3
   have hbz:b<wr.heap.size:=(Array.getElem?_eq_some_iff.1 hr.cells).1
   have hd:decide ((n:Int)<(m:Int))=true:=decide_eq_true (by omega)
   have hd':decide (n<m)=true:=decide_eq_true hlt
   have hq0:(0:Int)≤(n:Int):=by omega
   clear hn hr ht
   go_wp2_with fail
   have hN1:=heap_alloc_last wr (.cells #[.int .i64 z,.int .i64 x1,.int .i64 x2] 55)
   have hb1:Below wr.heap.size wr (wr.alloc (.cells #[.int .i64 z,.int .i64 x1,.int .i64 x2] 55)):=(Below.refl _ _).alloc (Nat.le_refl _) _
   have hz1:wr.heap.size<(wr.alloc (.cells #[.int .i64 z,.int .i64 x1,.int .i64 x2] 55)).heap.size:=by rw[World.size_alloc];omega
   have hr1:=HR.out.below hb1
   generalize wr.alloc (.cells #[.int .i64 z,.int .i64 x1,.int .i64 x2] 55)=W1 at *
   obtain⟨B0,hB0⟩:∃ B0,wr.heap.size=B0:=⟨_,rfl⟩
   have HNX1:=Lib.hid (HN.out.trans (Nx.below (vR:=vR1) (vH:=.slice none 0 0) hb1))
   rw[hB0] at hN1 hz1 hbz ⊢
   have y0:W1.cell? ⟨B0,0,none⟩=some (.int .i64 z):=by rw[cell_of_row W1 _ 0 _ _ _ hN1];rfl
   have y1:W1.cell? ⟨B0,1,none⟩=some (.int .i64 x1):=by rw[cell_of_row W1 _ 1 _ _ _ hN1];rfl
   have y2:W1.cell? ⟨B0,2,none⟩=some (.int .i64 x2):=by rw[cell_of_row W1 _ 2 _ _ _ hN1];rfl
   obtain⟨⟨_,_,_,_,b4',_⟩,_⟩:=ten_at hr1.cells
   have hap:=cpush_run hr1 ⟨z,x1,x2,none,0,0,0⟩ (by
    show(Rl σ a n).length≤_
    have:=HFW.out
    have:=HEE.out
    have:=Rl_length σ a n
    omega)
   simp only[] at hap
   have HAP:=Lib.hid hap
   clear hap
   have hbz1:b<W1.heap.size:=by omega
   have HHH:=Lib.hid (And.intro hnm hlt)
   have HLI:Hid (Rl σ a (n+1)=Rl σ a n ++ [⟨z,x1,x2,none,0,0,0⟩]):=Lib.hid (Rl_succ σ a n _ HT.out)
   have hn1:(n:Int)+1≤1099511627776:=by have:=HFW.out;have:=HEE.out;omega
   have hnb:(B0 == b)=false:=beq_eq_false_iff_ne.2 (by omega)
   clear hN1 hb1 hr1 hB0 hd hd' hq0 hs b0 b2 hm hread hme hnm hlt c1 c2 c3 hgz hfew
   go_region_law (refine step_append_ex rfl _ _ _ _ rfl _ _ rfl rfl (HAP.out _ ?_ _ ?_) ?_;(first|exact(Below.refl _ _).drew.alloc (Nat.le_refl _) _);(first|exact heap_alloc_last _ _);rintro v' w' ⟨⟨g,cap',rfl⟩,c4,f4,hbw,hrt,hnx⟩;have HRT:=Lib.hid hrt;have HNX:=Lib.hid hnx;clear hrt hnx)
   all_goals(try go_wp2_with fail)
   all_goals go_roundw
   all_goals first|exact⟨n+1,_,HHH.out.2,by go_num,by rw[HLI.out];exact HRT.out,HNX1.out.trans HNX.out⟩|(have:=HHH.out;simp [intOf];omega)
  ·obtain rfl:n=m:=by omega
   have hd:decide ((n:Int)<(n:Int))=false:=decide_eq_false (by omega)
   obtain⟨⟨_,_,b2',_⟩,hfr⟩:=ten_at hr.cells
   have f2':=hfr 2
   have HE:Hid (∀ W',W'=wr.setCell ⟨b,2,none⟩ (.int .i64 (e:Int))→RcT W' b (.slice oL len cL) vS vR1 { σ with at':=e,R:=Rl σ a n } tkn∧Nx wr b vR1 (.slice none 0 0) W' vR1 (.slice none 0 0)):=Lib.hid (fun W' hW=>by
    subst hW
    have hs':∀ k,k≠b→(wr.setCell ⟨b,2,none⟩ (.int .i64 (e:Int))).heap[k]? = wr.heap[k]?:=fun k hk=>set_one _ _ _ _ _ hk
    refine⟨⟨?_,HR.out.toks.off HR.out.cells (by decide) (fun k _ hk=>hs' k hk),HR.out.sigs.off HR.out.cells (by decide) (fun k _ hk=>hs' k hk),HR.out.row.off HR.out.cells (by decide) (fun k _ hk=>hs' k hk),by show e≤σ.L.length;rw[HLN.out];exact hm,HR.out.few⟩,Nx.own rfl rfl rfl (by rw[size_set]) (fun k _ hk=>hs' k hk)⟩
    show(wr.setCell ⟨b,2,none⟩ (.int .i64 (e:Int))).heap[b]? = some (.cells #[_,_,.int .i64 (e:Int),_,_,_,_,_,_,_] _ _)
    exact heap_setCell_same _ b 2 _ _ _ HR.out.cells)
   clear hn hr hfr
   go_wp2_with fail
   go_end0
   obtain⟨h1,h2⟩:=HE.out _ rfl
   exact⟨⟨_,rfl⟩,vR1,h1,HN.out.trans h2⟩
end Go.Proofs.YtcekbbkidipbnaaGreat.rd
