/-
  Texts put together: Ei, Ej, Ek, El, Em, Fa, Fb.
-/
import Derived.Test.YtcekbbkidipbnaaGreatP1
import Derived.Deep.RegionHeld3
set_option maxRecDepth 100000
set_option maxHeartbeats 8000000
namespace Go.Proofs.YtcekbbkidipbnaaGreat.rd
open Go.RowKit
def leaf (t:Tk):Rn:=⟨t.k,t.i,t.j,none,0,0⟩
def Rd.run (σ:Rd) (n:Nat):Rd:={ σ with at':=σ.at'+n,R:=σ.R ++ ((σ.L.drop σ.at').take n).map leaf,H:=σ.H ++ List.replicate n 0 }
theorem Rd.run_zero (σ:Rd):σ.run 0=σ:=by simp [Rd.run]
theorem Rd.run_succ (σ:Rd) (n:Nat) (h:σ.at'+n<σ.L.length):σ.run (n+1) = { σ.run n with at':=σ.at'+(n+1),R:=(σ.run n).R ++ [leaf σ.L[σ.at'+n]],H:=(σ.run n).H ++ [0] }:=by
 unfold Rd.run
 have h2:(σ.L.drop σ.at').take (n+1)=(σ.L.drop σ.at').take n ++ [σ.L[σ.at'+n]]:=by
  rw[List.take_add_one,List.getElem?_drop,List.getElem?_eq_getElem h]
  rfl
 simp only[h2,List.map_append,List.map_cons,List.map_nil,List.append_assoc,List.replicate_succ']
def Rd.take (σ:Rd):Rd:=if σ.ahead 0=0 then σ else σ.run (σ.next 0+1 - σ.at')
theorem Rd.next_ge (σ:Rd) (n:Nat):σ.at'≤σ.next n:=Nat.le_add_right _ _
theorem Rd.comes_lt {σ:Rd} (n:Nat) (h:σ.ahead n≠0):σ.next n<σ.L.length:=by
 unfold Rd.ahead at h
 cases hf:σ.failed with
 |true=>rw[hf,if_pos rfl] at h;exact absurd rfl h
 |false=>
  rw[hf,if_neg zdF] at h
  rcases Nat.lt_or_ge (σ.next n) σ.L.length with hlt|hge
  ·exact hlt
  ·rw[List.getElem?_eq_none hge] at h;exact absurd rfl h
theorem zpt {W:World} {b:Nat} {vL vR vH:Value} {σ:Rd} (h:RdAt W b vL vR vH σ) (hR:σ.R.length+σ.L.length≤1099511627776) (hH:σ.H.length+σ.L.length≤1099511627776) :
  Calls Tryz.prog 32 #[.pointer (some ⟨b,0,none⟩)] W (Steps W b vL vR vH σ.take):=by
 have HRD:=Lib.hid h
 have HK:=Lib.hid (zhS h)
 have HX:=Lib.hid (ziU h 0 zdD)
 have HHR:=Lib.hid hR
 have HHH:=Lib.hid hH
 by_cases h0:σ.ahead 0=0
 ·have HT:Hid (σ.take=σ):=Lib.hid (by unfold Rd.take;rw[if_pos h0])
  rw[h0] at HK
  rw[HT.out]
  clear h h0 hR hH
  go_enter Tryz.func32,Tryz.ntmps32
  go_wp2_with (go_at_call 58;refine HK.out.mono ?_;rintro e w' ⟨rfl,rfl⟩)
  exact zdj
 ·have hlt:=Rd.comes_lt 0 h0
  have hge:=Rd.next_ge σ 0
  have HT:Hid (σ.take=σ.run (σ.next 0+1 - σ.at')):=Lib.hid (by unfold Rd.take;rw[if_neg h0])
  have hk0:(σ.ahead 0 == 0)=false:=beq_eq_false_iff_ne.2 h0
  rw[HT.out]
  generalize σ.ahead 0=k0 at *
  have hfew:=h.few
  obtain⟨gL,oL,capL,hv,ho,_⟩:=h.toks.shape
  have ho:=ho zdM
  subst hv ho
  obtain⟨len,hlen⟩:∃ len,σ.L.length=len:=⟨_,rfl⟩
  obtain⟨i0,hi0⟩:∃ i0,σ.next 0=i0:=⟨_,rfl⟩
  rw[hi0] at HX hlt hge ⊢
  rw[hlen] at hlt hfew HRD ⊢
  have HLN:=Lib.hid hlen
  have HH0:=Lib.hid h0
  clear h h0 hR hH hlen HT hi0
  go_enter Tryz.func32,Tryz.ntmps32
  go_wp2_with (first|(go_at_call 58;refine HK.out.mono ?_;rintro e w' ⟨rfl,rfl⟩)|(go_at_call 86;refine HX.out.mono ?_;rintro e w' ⟨rfl,rfl⟩))
  go_loopw [] (fun wr=>∃ (n:Nat) (vR1 vH1:Value),σ.at'+n≤i0+1∧RdAt wr b (.slice (some ⟨gL,0,none⟩) len capL) vR1 vH1 (σ.run n)∧Nx W b vR vH wr vR1 vH1) (fun wr=>i0+1 - (intOf ((wr.cell? ⟨b,1,none⟩).getD undef)).toNat)
  case atStart=>exact⟨0,vR,vH,by omega,by rw[Rd.run_zero];exact HRD.out,Nx.refl _ _ _ _⟩
  case round=>
   obtain⟨n,vR1,vH1,hn1,hr,hn⟩:=hrel
   have HR:=Lib.hid hr
   have HN:=Lib.hid hn
   obtain⟨p,hp⟩:∃ p,σ.at'+n=p:=⟨_,rfl⟩
   obtain⟨⟨b0,b1,_,_,_,_,_,_,_⟩,hfz⟩:=zgd hr.cells
   replace b1:wr.cell? ⟨b,1,none⟩=some (.int .i64 (p:Int)):=by rw[← hp];exact b1
   have f1:=hfz 1
   have HP:=Lib.hid hp
   by_cases hlp:p≤i0
   ·have hd:decide ((p:Int)≤(i0:Int))=true:=decide_eq_true zdC
    have hd':decide (p≤i0)=true:=decide_eq_true hlp
    have hpl:p<len:=by omega
    have hpT:p<(σ.run n).L.length:=by show p<σ.L.length;rw[HLN.out];exact hpl
    obtain⟨c0,c1,c2⟩:=zgl hr.toks.cells p hpT
    rw[Nat.zero_add] at c0 c1 c2
    have hq0:(0:Int)≤(p:Int):=by omega
    have hq1:(p:Int)<(len:Int):=by omega
    obtain⟨t,ht⟩:∃ t,(σ.run n).L[p]=t:=⟨_,rfl⟩
    rw[ht] at c0 c1 c2
    have HTK:=Lib.hid ht
    have HLP:=Lib.hid hlp
    clear ht hp hn hfz hlp
    obtain⟨z,x1,x2⟩:=t
    simp only[] at c0 c1 c2
    have hbz:b<wr.heap.size:=(Array.getElem?_eq_some_iff.1 hr.cells).1
    have hgz:gL<wr.heap.size:=World.block_lt_of_cell? _ _ c0
    have HS:Hid (∀ u,Below wr.heap.size wr u→u.cell? ⟨b,0,none⟩=some (.slice (some ⟨gL,0,none⟩) len capL)∧u.cell? ⟨b,1,none⟩=some (.int .i64 (p:Int))∧u.cell? ⟨gL,p*3,none⟩=some (.int .i64 z)∧u.cell? ⟨gL,p*3+1,none⟩=some (.int .i64 x1)∧u.cell? ⟨gL,p*3+2,none⟩=some (.int .i64 x2)):=Lib.hid (fun u hu=>⟨(hu.cell (p:=⟨b,0,none⟩) hbz).trans b0,(hu.cell (p:=⟨b,1,none⟩) hbz).trans b1,(hu.cell (p:=⟨gL,p*3,none⟩) hgz).trans c0,(hu.cell (p:=⟨gL,p*3+1,none⟩) hgz).trans c1,(hu.cell (p:=⟨gL,p*3+2,none⟩) hgz).trans c2⟩)
    clear hr
    go_wp2_with fail
    go_cut [3] (fun v wx=>v=.pointer (some ⟨wr.heap.size,0,none⟩)∧wx.heap[wr.heap.size]? = some (.cells #[.int .i64 z,.int .i64 x1,.int .i64 x2] 55 (0,0))∧Below wr.heap.size wr wx)
    case first=>
     go_region_held3 (fun W'=>W'.cell? ⟨b,0,none⟩=some (.slice (some ⟨gL,0,none⟩) len capL)∧W'.cell? ⟨b,1,none⟩=some (.int .i64 (p:Int))∧W'.cell? ⟨gL,p*3,none⟩=some (.int .i64 z)∧W'.cell? ⟨gL,p*3+1,none⟩=some (.int .i64 x1)∧W'.cell? ⟨gL,p*3+2,none⟩=some (.int .i64 x2))
      (first|exact HS.out _ (Below.refl _ _).drew|exact HS.out _ ((Below.refl _ _).drew.alloc (Nat.le_refl _) _))
      (fail)
     all_goals exact zcI
    case rest=>
     obtain⟨rfl,hcell,hb⟩:=hcut
     have hrc:=HR.out.below hb
     have y0:wc.cell? ⟨wr.heap.size,0,none⟩=some (.int .i64 z):=by rw[cell_of_row wc _ 0 _ _ _ hcell];rfl
     have y1:wc.cell? ⟨wr.heap.size,1,none⟩=some (.int .i64 x1):=by rw[cell_of_row wc _ 1 _ _ _ hcell];rfl
     have y2:wc.cell? ⟨wr.heap.size,2,none⟩=some (.int .i64 x2):=by rw[cell_of_row wc _ 2 _ _ _ hcell];rfl
     have hnL:n<σ.L.length:=by have:=HP.out;have:=HLN.out;omega
     have hlr:(σ.run n).R.length≤1099511627776:=by
      have:=HHR.out
      simp only[Rd.run,List.length_append,List.length_map,List.length_take,List.length_drop]
      omega
     have hlh:(σ.run n).H.length≤1099511627776:=by
      have:=HHH.out
      simp only[Rd.run,List.length_append,List.length_replicate]
      omega
     have hpu:Calls Tryz.prog 67 #[.pointer (some ⟨b,0,none⟩),.agg #[.int .i64 z,.int .i64 x1,.int .i64 x2,.slice none 0 0],.int .i64 0] wc (Steps wc b (.slice (some ⟨gL,0,none⟩) len capL) vR1 vH1 { σ.run n with R:=(σ.run n).R ++ [leaf ⟨z,x1,x2⟩],H:=(σ.run n).H ++ [0] }):=zkg hrc (leaf ⟨z,x1,x2⟩) 0 hlr hlh
     have HPU:=Lib.hid hpu
     have HB:=Lib.hid hb
     clear hpu hlr hlh hrc hcell hb hnL
     go_wp2_with (go_at_call 67;refine HPU.out.mono ?_;rintro e w3 ⟨v,vR2,vH2,rfl,hr3,hn3⟩;have HR3:=Lib.hid hr3;have HN3:=Lib.hid hn3;obtain⟨⟨_,d1,_,_,_,_,_,_,_⟩,hfz3⟩:=zgd hr3.cells;replace d1:w3.cell? ⟨b,1,none⟩=some (.int .i64 (p:Int)):=(by rw[← HP.out];exact d1);have f1':=hfz3 1;clear hr3 hn3 hfz3)
     go_roundw
     case rel=>
      have hs:∀ k,k<w3.heap.size→k≠b→(w3.setCell ⟨b,1,none⟩ (.int .i64 ((p:Int)+1))).heap[k]? = w3.heap[k]?:=fun k _ hk=>zfy _ _ _ _ _ hk
      refine⟨n+1,vR2,vH2,by have:=HP.out;have:=HLP.out;omega,?_,HN.out.trans ((Nx.below HB.out).trans (HN3.out.trans (Nx.own rfl rfl rfl zdI hs)))⟩
      obtain rfl:=HP.out
      have hlT:σ.at'+n<σ.L.length:=by rw[HLN.out];exact hpl
      have htk:σ.L[σ.at'+n]=⟨z,x1,x2⟩:=HTK.out
      rw[Rd.run_succ _ _ hlT,htk]
      refine HR3.out.put hs ?_ rfl rfl rfl (by show σ.at'+(n+1)≤σ.L.length;omega)
      have:=heap_setCell_same w3 b 1 _ _ (.int .i64 (((σ.at'+n:Nat):Int)+1)) HR3.out.cells
      rw[this]
      show _=some (Obj.cells #[_,.int .i64 ((σ.at'+(n+1):Nat):Int),_,_,_,_,_,_,_] _ _)
      rw[show((σ.at'+(n+1):Nat):Int)=((σ.at'+n:Nat):Int)+1 by omega]
      rfl
     case measure=>
      have e1:(w3.setCell ⟨b,1,none⟩ (.int .i64 ((p:Int)+1))).cell? ⟨b,1,none⟩=some (.int .i64 ((p:Int)+1)):=by rw[cell_of_row _ b 1 _ _ _ (heap_setCell_same w3 b 1 _ _ _ HR3.out.cells)];rfl
      rw[e1,b1]
      simp only[Option.getD_some,intOf]
      have:=HLP.out
      omega
   ·have hd:decide ((p:Int)≤(i0:Int))=false:=decide_eq_false zdC
    have hd':decide (p≤i0)=false:=decide_eq_false hlp
    have HE:Hid (i0+1 - σ.at'=n):=Lib.hid zdC
    clear hr hn hp hlp
    go_wp2_with fail
    go_end0
    exact⟨_,vR1,vH1,rfl,by rw[HE.out];exact HR.out,HN.out⟩
open Go.RowKit
def Rd.none (σ:Rd):Rd:=if σ.failed then σ else{ σ with R:=σ.R ++ [⟨200,σ.here,σ.here,Option.none,0,0⟩],H:=σ.H ++ [0] }
def Rd.expect (σ:Rd) (k:Int):Rd × Bool:=if k≠0∧σ.ahead 0=k then(σ.take,true) else(σ.fail 201,false)
theorem zrt {W:World} {b:Nat} {vL vR vH:Value} {σ:Rd} (h:RdAt W b vL vR vH σ) (k:Int) (hR:σ.R.length+σ.L.length≤1099511627776) (hH:σ.H.length+σ.L.length≤1099511627776) :
  Calls Tryz.prog 34 #[.pointer (some ⟨b,0,none⟩),.int .i64 k] W (StepsB (σ.expect k).2 W b vL vR vH (σ.expect k).1):=by
 have HK:=Lib.hid (zhS h)
 have HT:=Lib.hid (zpt h hR hH)
 have HF:=Lib.hid (zja h 201)
 have HU:Hid (σ.expect k=if k≠0∧σ.ahead 0=k then(σ.take,true) else(σ.fail 201,false)):=Lib.hid rfl
 clear h hR hH
 generalize σ.ahead 0=k0 at *
 by_cases h0:k=0
 ·rw[if_neg (by rintro⟨e,_⟩;exact e h0)] at HU
  rw[HU.out]
  subst h0
  go_enter Tryz.func34,Tryz.ntmps34
  exact zcm
 ·have hd0:(k == 0)=false:=beq_eq_false_iff_ne.2 h0
  have hd0':(k != 0)=true:=by simp [bne,hd0]
  by_cases h1:k0=k
  ·rw[if_pos ⟨h0,h1⟩] at HU
   rw[HU.out]
   subst h1
   clear h0
   exact zbw
  ·rw[if_neg (by rintro⟨_,e⟩;exact h1 e)] at HU
   rw[HU.out]
   have hd1:(k0 == k)=false:=beq_eq_false_iff_ne.2 h1
   clear h0 h1
   exact zbw
open Go.RowKit
theorem zvc {W:World} {b:Nat} {vL vR vH:Value} {σ:Rd} (h:RdAt W b vL vR vH σ) (hR:σ.R.length≤1099511627776) (hH:σ.H.length≤1099511627776) :
  Calls Tryz.prog 36 #[.pointer (some ⟨b,0,none⟩)] W (Steps W b vL vR vH σ.none):=by
 have HRD:=Lib.hid h
 have HE:=Lib.hid (zkq h)
 have hp:Calls Tryz.prog 67 #[.pointer (some ⟨b,0,Option.none⟩),.agg #[.int .i64 200,.int .i64 σ.here,.int .i64 σ.here,.slice Option.none 0 0],.int .i64 0] W (Steps W b vL vR vH { σ with R:=σ.R ++ [⟨200,σ.here,σ.here,Option.none,0,0⟩],H:=σ.H ++ [0] }):=zkg h ⟨200,σ.here,σ.here,Option.none,0,0⟩ 0 hR hH
 have HP:=Lib.hid hp
 clear hp
 obtain⟨⟨_,_,_,_,_,_,_,_,b8⟩,_⟩:=zgd h.cells
 have HU:Hid (σ.none=if σ.failed then σ else{ σ with R:=σ.R ++ [⟨200,σ.here,σ.here,Option.none,0,0⟩],H:=σ.H ++ [0] }):=Lib.hid rfl
 clear h hR hH
 cases hf:σ.failed with
 |true=>
  rw[hf] at b8
  rw[hf,if_pos rfl] at HU
  rw[HU.out]
  clear hf
  go_enter Tryz.func36,Tryz.ntmps36
  go_wp2_with fail
  exact zdj
 |false=>
  rw[hf] at b8
  rw[hf,if_neg zdF] at HU
  rw[hf] at HP
  rw[HU.out]
  clear hf
  go_enter Tryz.func36,Tryz.ntmps36
  go_wp2_with (first|(go_at_call 89;refine HE.out.mono ?_;rintro e w' ⟨rfl,rfl⟩)|(go_at_call 67;refine HP.out.mono ?_;rintro e w' ⟨v,vR',vH',rfl,hr',hn'⟩;have HR':=Lib.hid hr';have HN':=Lib.hid hn';clear hr' hn'))
  go_end0
  exact⟨_,vR',vH',rfl,HR'.out,HN'.out⟩
open Go.RowKit
def Rn.zero:Rn:=⟨0,0,0,Option.none,0,0⟩
def headSig:List Rn→Rn
 |[]=>Rn.zero
 |t::r=>if sig t.k then t else headSig r
theorem zpb {W:World} {b:Nat} {vL vR vH:Value} {σ:Rd} (h:RdAt W b vL vR vH σ) (m:Nat) (hfew:σ.R.length≤1099511627776) :
  Calls Tryz.prog 106 #[.pointer (some ⟨b,0,none⟩),.int .i64 (m:Int)] W fun e w'=>e=.returned (headSig (σ.R.drop m)).v∧Below W.heap.size W w':=by
 obtain⟨⟨_,_,b2,_,_,_,_,_,_⟩,_⟩:=zgd h.cells
 obtain⟨g,o,cap,hv,ho,_⟩:=h.row.shape
 have HO:=Lib.hid ho
 have HM:=Lib.hid h.row
 subst hv
 clear h ho
 generalize σ.R=R at *
 obtain⟨len,hlen⟩:∃ len,R.length=len:=⟨_,rfl⟩
 rw[hlen] at HM b2 hfew
 have HLN:=Lib.hid hlen
 clear hlen
 obtain⟨res,hres⟩:∃ res,headSig (R.drop m)=res:=⟨_,rfl⟩
 have HRES:=Lib.hid hres
 rw[hres]
 clear hres
 go_enter Tryz.func106,Tryz.ntmps106
 go_wp2_with fail
 have hN1:=heap_alloc_last W (.cells #[.int .i64 0,.int .i64 0,.int .i64 0,.slice none 0 0] 43)
 have hb1:Below W.heap.size W (W.alloc (.cells #[.int .i64 0,.int .i64 0,.int .i64 0,.slice none 0 0] 43)):=(Below.refl _ _).alloc (Nat.le_refl _) _
 have hz1:W.heap.size<(W.alloc (.cells #[.int .i64 0,.int .i64 0,.int .i64 0,.slice none 0 0] 43)).heap.size:=by rw[World.size_alloc];omega
 have hbz:=World.block_lt_of_cell? _ _ b2
 replace b2:=(hb1.cell (p:=⟨b,2,none⟩) hbz).trans b2
 have HM1:=Lib.hid (HM.out.below hb1)
 generalize W.alloc (.cells #[.int .i64 0,.int .i64 0,.int .i64 0,.slice none 0 0] 43)=W1 at *
 have HB1:=Lib.hid hb1
 have HN1:=Lib.hid hN1
 obtain⟨B0,hB0⟩:∃ B0,W.heap.size=B0:=⟨_,rfl⟩
 rw[hB0] at HN1 HB1 hz1 ⊢
 have HB0:=Lib.hid hB0
 have d0:W1.cell? ⟨B0,0,none⟩=some (.int .i64 0):=by rw[cell_of_row _ _ 0 _ _ _ HN1.out];rfl
 have d1:W1.cell? ⟨B0,1,none⟩=some (.int .i64 0):=by rw[cell_of_row _ _ 1 _ _ _ HN1.out];rfl
 have d2:W1.cell? ⟨B0,2,none⟩=some (.int .i64 0):=by rw[cell_of_row _ _ 2 _ _ _ HN1.out];rfl
 have d3:W1.cell? ⟨B0,3,none⟩=some (.slice none 0 0):=by rw[cell_of_row _ _ 3 _ _ _ HN1.out];rfl
 have f0:W1.frozen? ⟨B0,0,none⟩=false:=frozen_of_row _ _ 0 _ _ HN1.out
 have f1:W1.frozen? ⟨B0,1,none⟩=false:=frozen_of_row _ _ 1 _ _ HN1.out
 have f2:W1.frozen? ⟨B0,2,none⟩=false:=frozen_of_row _ _ 2 _ _ HN1.out
 have f3:W1.frozen? ⟨B0,3,none⟩=false:=frozen_of_row _ _ 3 _ _ HN1.out
 clear hb1 hN1 HM hB0
 go_loopw [5] (fun p wr=>∃ n:Nat,p=.int .i64 (n:Int)∧headSig (R.drop n)=res∧wr=W1) (fun p _=>len - (intOf p).toNat)
 case atStart=>exact⟨m,rfl,HRES.out,rfl⟩
 case round=>
  obtain⟨n,rfl,hrs,hw⟩:=hrel
  have hw2:=hw.symm
  subst hw2
  have HR:=Lib.hid hrs
  clear hrs hw
  by_cases hlt:n<len
  ·have hltT:n<R.length:=by rw[HLN.out];exact hlt
   have ho:=HO.out zdE
   subst ho
   obtain⟨c0,c1,c2,c3⟩:=zgi HM1.out.cells n hltT
   rw[Nat.zero_add] at c0 c1 c2 c3
   rw[List.drop_eq_getElem_cons hltT,headSig] at HR
   have hq0:(0:Int)≤(n:Int):=by omega
   have hd:decide ((n:Int)<(len:Int))=true:=decide_eq_true zdC
   have hd':decide (n<len)=true:=decide_eq_true hlt
   generalize R[n]=t at *
   obtain⟨z,x1,x2,xo,xn,xc⟩:=t
   simp only[] at c0 c1 c2 c3 HR
   clear hltT
   cases hs:sig z with
   |true=>
    rw[hs,if_pos rfl] at HR
    have hd2:decide (10≤z)=true:=hs
    clear hs HRES
    go_wp2_with fail
    refine bodyPost_ret (v:=.agg #[.int .i64 z,.int .i64 x1,.int .i64 x2,.slice xo xn xc]) (results_cell_row Tryz.results106 _ _ B0 43 _ (0,0) _ rfl (heap_setCell_same _ B0 3 _ _ _ (heap_setCell_same _ B0 2 _ _ _ (heap_setCell_same _ B0 1 _ _ _ (heap_setCell_same _ B0 0 _ _ _ HN1.out)))) Tryz.underlying43 rfl (by as_aux_lemma=>kernel_rfl)) rfl ⟨by rw[← HR.out];rfl,?_⟩
    exact zcg
   |false=>
    rw[hs,if_neg zdF] at HR
    have hd2:decide (10≤z)=false:=hs
    clear hs
    go_wp2_with fail
    go_roundw
    case rel=>exact⟨n+1,by go_num,HR.out,by trivial⟩
    case measure=>simp [intOf];omega
  ·have hd:decide ((n:Int)<(len:Int))=false:=decide_eq_false zdC
   have hd':decide (n<len)=false:=decide_eq_false hlt
   rw[List.drop_of_length_le zdG,headSig] at HR
   clear HRES
   go_wp2_with fail
   refine bodyPost_ret (v:=.agg #[.int .i64 0,.int .i64 0,.int .i64 0,.slice none 0 0]) (results_cell_row Tryz.results106 _ _ B0 43 _ (0,0) _ rfl (heap_setCell_same _ B0 3 _ _ _ (heap_setCell_same _ B0 2 _ _ _ (heap_setCell_same _ B0 1 _ _ _ (heap_setCell_same _ B0 0 _ _ _ HN1.out)))) Tryz.underlying43 rfl (by as_aux_lemma=>kernel_rfl)) rfl ⟨by rw[← HR.out];rfl,?_⟩
   exact zcg
open Go.RowKit
def headPart:List Rn→Rn
 |[]=>Rn.zero
 |t::r=>if decide (200≤t.k) then t else headPart r
theorem zuw {W:World} (N:Rn) (R:List Rn) (h:Row nd W (.slice N.o N.n N.c) R) (hfew:R.length≤1099511627776) :
  Calls Tryz.prog 181 #[N.v] W fun e w'=>e=.returned (headPart R).v∧Below W.heap.size W w':=by
 obtain⟨k0,k1,k2,o,len,cap⟩:=N
 rw[show(Rn.mk k0 k1 k2 o len cap).v=.agg #[.int .i64 k0,.int .i64 k1,.int .i64 k2,.slice o len cap] from rfl]
 obtain⟨g,off,o',cap',hc,hv,ho,hcell⟩:=h.lt
 simp only[Value.slice.injEq] at hv
 obtain⟨rfl,hlen,rfl⟩:=hv
 have HO:=Lib.hid ho
 have HC:=Lib.hid hcell
 have HLN:=Lib.hid hlen
 rw[← hlen] at hc hfew
 obtain⟨res,hres⟩:∃ res,headPart R=res:=⟨_,rfl⟩
 have HRES:=Lib.hid hres
 rw[hres]
 clear hres h ho hcell hlen
 go_enter Tryz.func181,Tryz.ntmps181
 go_wp2_with fail
 have hP:=heap_alloc_last W (.cells #[.int .i64 k0,.int .i64 k1,.int .i64 k2,.slice o len cap] 43)
 have hN1:=heap_alloc_last (W.alloc (.cells #[.int .i64 k0,.int .i64 k1,.int .i64 k2,.slice o len cap] 43)) (.cells #[.int .i64 0,.int .i64 0,.int .i64 0,.slice none 0 0] 43)
 have hz0:(W.alloc (.cells #[.int .i64 k0,.int .i64 k1,.int .i64 k2,.slice o len cap] 43)).heap.size=W.heap.size+1:=World.size_alloc _ _
 have hb1:Below W.heap.size W ((W.alloc (.cells #[.int .i64 k0,.int .i64 k1,.int .i64 k2,.slice o len cap] 43)).alloc (.cells #[.int .i64 0,.int .i64 0,.int .i64 0,.slice none 0 0] 43)):=((Below.refl _ _).alloc (Nat.le_refl _) _).alloc (by rw[hz0];omega) _
 have hz1:((W.alloc (.cells #[.int .i64 k0,.int .i64 k1,.int .i64 k2,.slice o len cap] 43)).alloc (.cells #[.int .i64 0,.int .i64 0,.int .i64 0,.slice none 0 0] 43)).heap.size=W.heap.size+2:=by rw[World.size_alloc,hz0]
 have hP1:((W.alloc (.cells #[.int .i64 k0,.int .i64 k1,.int .i64 k2,.slice o len cap] 43)).alloc (.cells #[.int .i64 0,.int .i64 0,.int .i64 0,.slice none 0 0] 43)).heap[W.heap.size]? = some (.cells #[.int .i64 k0,.int .i64 k1,.int .i64 k2,.slice o len cap] 43 (0,0)):=(Below.heap_alloc _ _ _ (by rw[hz0];omega)).trans hP
 rw[hz0] at hN1
 clear hP hz0
 generalize (W.alloc (.cells #[.int .i64 k0,.int .i64 k1,.int .i64 k2,.slice o len cap] 43)).alloc (.cells #[.int .i64 0,.int .i64 0,.int .i64 0,.slice none 0 0] 43)=W1 at *
 have HB1:=Lib.hid hb1
 have HN1:=Lib.hid hN1
 have p3:W1.cell? ⟨W.heap.size,3,none⟩=some (.slice o len cap):=by rw[cell_of_row _ _ 3 _ _ _ hP1];rfl
 obtain⟨B0,hB0⟩:∃ B0,W.heap.size=B0:=⟨_,rfl⟩
 obtain⟨B1,hB1⟩:∃ B1,W.heap.size+1=B1:=⟨_,rfl⟩
 have HB1e:=Lib.hid hB1
 have hBB:B0<B1:=by omega
 have hBB':(B0 == B1)=false:=beq_eq_false_iff_ne.2 zdC
 have hlt1:B1<W1.heap.size:=by omega
 rw[hB1] at HN1
 rw[hB0] at p3
 rw[hB1,hB0]
 have f0:W1.frozen? ⟨B1,0,none⟩=false:=frozen_of_row _ _ 0 _ _ HN1.out
 have f1:W1.frozen? ⟨B1,1,none⟩=false:=frozen_of_row _ _ 1 _ _ HN1.out
 have f2:W1.frozen? ⟨B1,2,none⟩=false:=frozen_of_row _ _ 2 _ _ HN1.out
 have f3:W1.frozen? ⟨B1,3,none⟩=false:=frozen_of_row _ _ 3 _ _ HN1.out
 have d0:W1.cell? ⟨B1,0,none⟩=some (.int .i64 0):=by rw[cell_of_row _ _ 0 _ _ _ HN1.out];rfl
 have d1:W1.cell? ⟨B1,1,none⟩=some (.int .i64 0):=by rw[cell_of_row _ _ 1 _ _ _ HN1.out];rfl
 have d2:W1.cell? ⟨B1,2,none⟩=some (.int .i64 0):=by rw[cell_of_row _ _ 2 _ _ _ HN1.out];rfl
 have d3:W1.cell? ⟨B1,3,none⟩=some (.slice none 0 0):=by rw[cell_of_row _ _ 3 _ _ _ HN1.out];rfl
 clear hb1 hN1 hP1 hB0 hB1 hz1
 go_loopw [3] (fun p wr=>∃ n:Nat,n≤len∧p=.int .i64 (n:Int)∧headPart (R.drop n)=res∧wr=W1) (fun p _=>len - (intOf p).toNat)
 case atStart=>exact⟨0,Nat.zero_le _,rfl,HRES.out,rfl⟩
 case round=>
  obtain⟨n,hnl,rfl,hrs,hw⟩:=hrel
  have hw2:=hw.symm
  subst hw2
  have HR:=Lib.hid hrs
  clear hrs hw
  by_cases hlt:n<len
  ·have hltT:n<R.length:=by rw[← HLN.out];exact hlt
   obtain⟨ho,hgz⟩:=HO.out zdE
   subst ho
   obtain⟨c0,c1,c2,c3⟩:=zgi (HC.out.below HB1.out) n hltT
   rw[List.drop_eq_getElem_cons hltT,headPart] at HR
   have hq0:(0:Int)≤(n:Int):=by omega
   have hd:decide ((n:Int)<(len:Int))=true:=decide_eq_true zdC
   have hd':decide (n<len)=true:=decide_eq_true hlt
   generalize R[n]=t at *
   obtain⟨z,x1,x2,xo,xn,xc⟩:=t
   simp only[] at c0 c1 c2 c3 HR
   clear hltT
   cases hs:decide (200≤z) with
   |true=>
    rw[hs,if_pos rfl] at HR
    clear HRES
    go_wp2_with fail
    refine bodyPost_ret (v:=.agg #[.int .i64 z,.int .i64 x1,.int .i64 x2,.slice xo xn xc]) (results_cell_row Tryz.results181 _ _ B1 43 _ (0,0) _ rfl (heap_setCell_same _ B1 3 _ _ _ (heap_setCell_same _ B1 2 _ _ _ (heap_setCell_same _ B1 1 _ _ _ (heap_setCell_same _ B1 0 _ _ _ HN1.out)))) Tryz.underlying43 rfl (by as_aux_lemma=>kernel_rfl)) rfl ⟨by rw[← HR.out];rfl,?_⟩
    exact zbI
   |false=>
    rw[hs,if_neg zdF] at HR
    go_wp2_with fail
    go_roundw
    case rel=>exact⟨n+1,by omega,by go_num,HR.out,by trivial⟩
    case measure=>simp [intOf];omega
  ·have hd:decide ((n:Int)<(len:Int))=false:=decide_eq_false zdC
   have hd':decide (n<len)=false:=decide_eq_false hlt
   rw[List.drop_of_length_le (by rw[← HLN.out];omega),headPart] at HR
   clear HRES
   go_wp2_with fail
   refine bodyPost_ret (v:=.agg #[.int .i64 0,.int .i64 0,.int .i64 0,.slice none 0 0]) (results_cell_row Tryz.results181 _ _ B1 43 _ (0,0) _ rfl (heap_setCell_same _ B1 3 _ _ _ (heap_setCell_same _ B1 2 _ _ _ (heap_setCell_same _ B1 1 _ _ _ (heap_setCell_same _ B1 0 _ _ _ HN1.out)))) Tryz.underlying43 rfl (by as_aux_lemma=>kernel_rfl)) rfl ⟨by rw[← HR.out];rfl,?_⟩
   exact zbI
inductive Tree where
 |mk (k i j:Int) (l:List Tree)
def Tree.k:Tree→Int|.mk k _ _ _=>k
def Tree.i:Tree→Int|.mk _ i _ _=>i
def Tree.j:Tree→Int|.mk _ _ j _=>j
def Tree.l:Tree→List Tree|.mk _ _ _ l=>l
def Tk.tree (t:Tk):Tree:=.mk t.k t.i t.j []
structure St where
 L:List Tk
 at':Nat
 R:List Tree
 H:List Int
 op:Nat
inductive Res where
 |ok (s:St)
 |fail (d0 d1 d2:Int)
def St.next (s:St) (n:Nat):Nat:=s.at'+nxt n (s.L.drop s.at')
def St.ahead (s:St) (n:Nat):Int:=match s.L[s.next n]? with|some t=>t.k|none=>0
def St.here (s:St):Int:=match lastTo s.L s.at' with
 |some x=>x
 |none=>match s.L[s.next 0]? with
  |some t=>t.i
  |none=>match s.L[0]? with
   |some t=>t.i
   |none=>0
def St.piece (s:St):Int × Int:=match s.L[s.next 0]? with
 |some t=>(t.i,t.j)
 |none=>(s.here,s.here)
def St.fail (s:St) (c:Int):Res:=.fail c s.piece.1 s.piece.2
def St.run (s:St) (n:Nat):St:={ s with at':=s.at'+n,R:=s.R ++ ((s.L.drop s.at').take n).map Tk.tree,H:=s.H ++ List.replicate n 0 }
def St.take (s:St):St:=if s.ahead 0=0 then s else s.run (s.next 0+1 - s.at')
def St.none (s:St):St:={ s with R:=s.R ++ [.mk 200 s.here s.here []],H:=s.H ++ [0] }
def St.expect (s:St) (k:Int):Res:=if k≠0∧s.ahead 0=k then .ok s.take else s.fail 201
def St.down (s:St):Res:=if 100≤s.op then s.fail 202 else .ok { s with op:=s.op+1 }
def St.up (s:St):St:={ s with op:=s.op - 1 }
def clamp (m:Int) (n:Nat):Nat:=(max 0 (min m (n:Int))).toNat
def leadT:List Tree→Nat
 |[]=>0
 |t::r=>if sig t.k then 0 else leadT r+1
def highOf (a:Int) (l:List Int):Int:=l.foldl (fun a x=>max a (x+1)) a
def fromOf (h:Int):List Tree→Int
 |[]=>h
 |t::_=>t.i
def toOf (h:Int) (l:List Tree):Int:=match l.getLast? with|some t=>t.j|none=>h
def St.closed (s:St) (m:Nat) (k:Int):St:=
 { s with R:=s.R.take m ++ [.mk k (fromOf s.here (s.R.drop m)) (toOf s.here (s.R.drop m)) (s.R.drop m)],H:=s.H.take m ++ [highOf 1 (s.H.drop m)] }
def St.mark (s:St) (m:Int):Nat:=clamp m s.R.length+leadT (s.R.drop (clamp m s.R.length))
def St.close (s:St) (m:Int) (k:Int):Res:=
 if 100<highOf 1 (s.H.drop (s.mark m)) then s.fail 202 else .ok (s.closed (s.mark m) k)
def St.last (s:St):Int:=match s.R.getLast? with|some t=>t.k|.none=>0
def chk:Res→Option Res
 |.ok s=>if s.R.length+s.L.length≤549755813888 then some (.ok s) else none
 |.fail a b c=>some (.fail a b c)
def lift (f:St→Res):Res→Option Res
 |.ok s=>chk (f s)
 |.fail a b c=>some (.fail a b c)
def rTake:Res→Option Res:=lift fun s=>.ok s.take
def rNone:Res→Option Res:=lift fun s=>.ok s.none
def rExpect (k:Int):Res→Option Res:=lift fun s=>s.expect k
def rDown:Res→Option Res:=lift fun s=>s.down
def rUp:Res→Option Res:=lift fun s=>.ok s.up
def rFail (c:Int):Res→Option Res:=lift fun s=>s.fail c
def rClose (m k:Int):Res→Option Res:=lift fun s=>s.close m k
def Res.ahead (x:Res) (n:Nat):Int:=match x with|.ok s=>s.ahead n|.fail _ _ _=>0
def Res.kind (x:Res):Int:=x.ahead 0
def Res.len (x:Res):Nat:=match x with|.ok s=>s.R.length|.fail _ _ _=>0
def Res.bad (x:Res):Bool:=match x with|.ok _=>false|.fail _ _ _=>true
def headT:List Tree→Tree
 |[]=>.mk 0 0 0 []
 |t::r=>if sig t.k then t else headT r
def partT:List Tree→Tree
 |[]=>.mk 0 0 0 []
 |t::r=>if decide (200≤t.k) then t else partT r
def namedT (t:Tree):Bool:=t.k == 201 || (t.k == 207 && (partT t.l).k == 201)
def literalT (t:Tree) (h:Bool):Bool:=t.k == 220 || t.k == 221 || t.k == 222 || t.k == 224 || (!h && (namedT t || (t.k == 208 && namedT (partT t.l))))
def Res.lit (x:Res) (m:Nat) (h:Bool):Bool:=match x with|.ok s=>literalT (headT (s.R.drop m)) h|.fail _ _ _=>false
def precOf (z:Int):Int:=
 if [22,23,24,25,28,29,30].contains z then 5 else if [20,21,26,27].contains z then 4 else if [46,47,48,52,53,54].contains z then 3 else if z=42 then 2 else if z=43 then 1 else 0
inductive Pc where
 |X (h:Bool)
 |binary (p:Int) (h:Bool)
 |binL (p:Int) (h:Bool) (m:Nat)
 |unary (h:Bool)
 |primary (h:Bool)
 |primL (h:Bool) (m:Nat)
 |period (m:Nat)
 |index (m:Nat)
 |idxL
 |cut (m:Nat)
 |call (m:Nat)
 |callL
 |value
 |values
 |valL
 |operand
 |flat
 |flatL (c:Nat)
 |type
 |tyL
 |array (m:Nat)
 |items (f:Bool)
 |itL (f:Bool)
 |field
 |element
 |union
 |unionL
 |term
 |sig
 |params
 |entry
 |list (h:Bool)
 |listL (h:Bool)
 |tparams
 |tpL
 |group
 |names
def rName (x:Res):Option Res:=do rClose x.len 201 (← rExpect 10 x)
def rQualified (x:Res):Option Res:=do
 let y ← rName x
 if y.kind=61 then do rClose x.len 207 (← rName (← rTake y)) else some y
def Res.sigs:Res→List Int
 |.ok s=>((s.L.drop s.at').filter fun t=>rd.sig t.k).map Tk.k
 |.fail _ _ _=>[]
def behindOf:Nat→List Int→Int
 |_,[]=>0
 |c,k::r=>if k=58 then behindOf (c+1) r else if k=63 then(if c≤1 then r.headD 0 else behindOf (c - 1) r) else behindOf c r
def Res.named (x:Res):Bool:=
 if x.kind=10 then
  if x.ahead 1=60∨x.ahead 1=62∨x.ahead 1=61 then false
  else if x.ahead 1=58 then
   x.ahead 2 == 63 || (behindOf 0 (x.sigs.drop 1) != 0 && behindOf 0 (x.sigs.drop 1) != 60 && behindOf 0 (x.sigs.drop 1) != 62)
  else true
 else false
structure Ent where
 (a b:Nat) (is:Bool)
def rEnts (one:Res→Option Res):Nat→List Ent→Res→Option (Res × List Ent)
 |0,_,_=>none
 |n+1,l,x=>if x.bad=true∨x.kind=62 then some (x,l) else do
  let y ← one x
  if y.kind=60 then do rEnts one n (l ++ [⟨x.len,y.len,x.named⟩]) (← rTake y) else some (y,l ++ [⟨x.len,y.len,x.named⟩])
def unfit (R:List Tree):List Ent→Bool
 |[]=>false
 |e::r=>(!e.is && (r.isEmpty || (headT (R.drop e.a)).k != 201)) || unfit R r
def St.back (s:St) (R:List Tree) (H:List Int) (a b:Nat):St:={ s with R:=s.R ++ (R.drop a).take (b - a),H:=s.H ++ (H.drop a).take (b - a) }
def rGroups (R:List Tree) (H:List Int) (any:Bool):List Ent→Nat→Nat→Res→Option Res
 |[],_,_,x=>some x
 |e::r,m,a,x=>match x with
  |.fail d0 d1 d2=>some (.fail d0 d1 d2)
  |.ok s=>
   if !any || e.is then do
    let y ← rClose m 233 (.ok (s.back R H a e.b))
    match y with
    |.fail d0 d1 d2=>some (.fail d0 d1 d2)
    |.ok t=>
     let b:=match r with|[]=>R.length|f::_=>f.a
     let u:=t.back R H e.b b
     rGroups R H any r u.R.length b (.ok u)
   else rGroups R H any r m e.b (.ok (s.back R H a e.b))
def rGroup (l:List Ent) (any:Bool):Res→Option Res
 |.fail d0 d1 d2=>some (.fail d0 d1 d2)
 |.ok s=>match l with
  |[]=>some (.ok s)
  |e::_=>rGroups s.R s.H any l e.a e.a (.ok { s with R:=s.R.take e.a,H:=s.H.take e.a })
def wfE:Nat→List Ent→Nat→Bool
 |lo,[],n=>decide (lo≤n)
 |lo,e::r,n=>decide (lo≤e.a) && decide (e.a≤e.b) && wfE e.b r n
def rFinish (m:Nat) (l:List Ent):Res→Option Res
 |.fail d0 d1 d2=>some (.fail d0 d1 d2)
 |.ok s=>
  if (wfE 0 l s.R.length && decide (s.R.length+l.length+s.L.length≤549755813888))=true then
   if (l.any (·.is) && unfit s.R l)=true then rFail 201 (.ok s)
   else do rClose m 232 (← rExpect 62 (← rGroup l (l.any (·.is)) (.ok s)))
  else none
def run:Nat→Pc→Res→Option Res
 |_,_,.fail a b c=>some (.fail a b c)
 |0,_,.ok _=>none
 |n+1,p,.ok s=>
  let x:=Res.ok s
  let m:=s.R.length
  match p with
  |.X h=>do rUp (← run n (.binary 1 h) (← rDown x))
  |.binary p h=>do run n (.binL p h m) (← run n (.unary h) x)
  |.binL p h m=>
   let q:=precOf x.kind
   if q=0∨q<p then some x else do
    run n (.binL p h m) (← rClose m 206 (← run n (.binary (q+1) h) (← rTake x)))
  |.unary h=>
   if x.kind=22 then do rClose m 205 (← rUp (← run n (.unary h) (← rDown (← rTake x))))
   else if x.kind=20∨x.kind=21∨x.kind=50∨x.kind=27∨x.kind=25 then do rClose m 204 (← rUp (← run n (.unary h) (← rDown (← rTake x))))
   else run n (.primary h) x
  |.primary h=>do run n (.primL h m) (← run n .operand x)
  |.primL h m=>
   if x.kind=61 then do run n (.primL h m) (← run n (.period m) x)
   else if x.kind=58 then do run n (.primL h m) (← run n (.index m) x)
   else if x.kind=57 then do run n (.primL h m) (← run n (.call m) x)
   else if x.kind=59∧x.lit m h=true then do run n (.primL h m) (← rClose m 213 (← run n .values x))
   else some x
  |.period m=>do
   let y ← rTake x
   if y.kind=10 then do rClose m 207 (← rName y)
   else if y.kind=57 then do
    let z ← rTake y
    if z.kind=89 then do rClose m 212 (← rExpect 62 (← rTake z))
    else do rClose m 211 (← rExpect 62 (← run n .type z))
   else rFail 201 y
  |.index m=>do
   let y ← rTake x
   let z ← if y.kind=65 then rNone y else run n (.X false) y
   if z.kind=65 then run n (.cut m) z
   else do rClose m 208 (← rExpect 63 (← run n .idxL z))
  |.idxL=>
   if x.kind=60 then do
    let y ← rTake x
    if y.kind=63 then run n .idxL y else do run n .idxL (← run n (.X false) y)
   else some x
  |.cut m=>do
   let y ← rTake x
   if y.kind=65∨y.kind=63 then do
    let z ← rNone y
    if z.kind=65 then rFail 201 z else do rClose m 209 (← rExpect 63 z)
   else do
    let z ← run n (.X false) y
    if z.kind=65 then do rClose m 209 (← rExpect 63 (← run n (.X false) (← rTake z)))
    else do rClose m 209 (← rExpect 63 z)
  |.call m=>do rClose m 210 (← rExpect 62 (← run n .callL (← rTake x)))
  |.callL=>
   if x.kind=62 then some x else do
    let y ← run n (.X false) x
    if y.kind=56 then do
     let z ← rTake y
     if z.kind=60 then rTake z else some z
    else if y.kind=60 then do run n .callL (← rTake y)
    else some y
  |.value=>
   if x.kind=59 then do
    let y ← rDown x
    rUp (← rClose y.len 214 (← run n .values y))
   else run n (.X false) x
  |.values=>do rExpect 64 (← run n .valL (← rExpect 59 x))
  |.valL=>
   if x.kind=64 then some x else do
    let y ← run n .value x
    let z ← if y.kind=65 then do rClose m 215 (← run n .value (← rTake y)) else some y
    if z.kind=60 then do run n .valL (← rTake z) else some z
  |.operand=>
   if x.kind=10 then rName x
   else if x.kind=11∨x.kind=12∨x.kind=13∨x.kind=14 then do rClose m 202 (← rTake x)
   else if x.kind=57 then do rClose m 203 (← rExpect 62 (← run n (.X false) (← rTake x)))
   else if x.kind=79 then do
    let y ← run n .sig (← rTake x)
    if y.kind=59 then do rClose m 216 (← run n .flat y) else rClose m 223 y
   else if x.kind=58∨x.kind=83∨x.kind=87∨x.kind=82 then run n .type x
   else rFail 201 x
  |.flat=>do rClose m 217 (← run n (.flatL 1) (← rExpect 59 x))
  |.flatL c=>
   if c=0 then some x
   else if x.kind=0 then rFail 201 x
   else if x.kind=59 then do run n (.flatL (c+1)) (← rTake x)
   else if x.kind=64 then do run n (.flatL (c - 1)) (← rTake x)
   else do run n (.flatL c) (← rTake x)
  |.type=>do
   let y ← rDown x
   if y.bad=true then some y else do
    let u ← if y.kind=10 then do
      let z ← rQualified y
      if z.kind=58 then do rClose y.len 208 (← rExpect 63 (← run n .tyL (← run n .type (← rTake z)))) else some z
     else if y.kind=57 then do rClose y.len 203 (← rExpect 62 (← run n .type (← rTake y)))
     else if y.kind=22 then do rClose y.len 205 (← run n .type (← rTake y))
     else if y.kind=79 then do rClose y.len 223 (← run n .sig (← rTake y))
     else if y.kind=58 then run n (.array y.len) y
     else if y.kind=83 then do rClose y.len 222 (← run n .type (← rExpect 63 (← run n .type (← rExpect 58 (← rTake y)))))
     else if y.kind=87 then do rClose y.len 224 (← run n (.items true) (← rTake y))
     else if y.kind=82 then do rClose y.len 227 (← run n (.items false) (← rTake y))
     else rFail 201 y
    rUp u
  |.tyL=>
   if x.kind=60 then do
    let y ← rTake x
    if y.kind=63 then run n .tyL y else do run n .tyL (← run n .type y)
   else some x
  |.array m=>do
   let y ← rTake x
   if y.kind=63 then do rClose m 220 (← run n .type (← rTake y))
   else do
    let z ← if y.kind=56 then do rClose y.len 218 (← rTake y) else run n (.X false) y
    rClose m 221 (← run n .type (← rExpect 63 z))
  |.items f=>do rExpect 64 (← run n (.itL f) (← rExpect 59 x))
  |.itL f=>
   if x.kind=64 then some x else do
    let y ← match f with|true=>run n .field x|false=>run n .element x
    if y.kind=15∨y.kind=16 then do run n (.itL f) (← rTake y) else some y
  |.field=>
   if x.kind=22 then do rClose m 226 (← rClose m 205 (← rQualified (← rTake x)))
   else if x.kind=10∧(x.ahead 1=15∨x.ahead 1=16∨x.ahead 1=64∨x.ahead 1=61) then do rClose m 226 (← rQualified x)
   else do rClose m 225 (← run n .type (← run n .names (← rName x)))
  |.element=>
   if x.kind=10∧x.ahead 1=57 then do rClose m 228 (← run n .sig (← rName x))
   else do rClose m 229 (← run n .union x)
  |.union=>do run n .unionL (← run n .term x)
  |.unionL=>if x.kind=26 then do run n .unionL (← run n .term (← rTake x)) else some x
  |.term=>
   if x.kind=51 then do rClose m 230 (← run n .type (← rTake x)) else run n .type x
  |.sig=>do
   let y ← run n .params x
   let z ← if y.kind=57 then run n .params y
    else if y.kind=10∨y.kind=22∨y.kind=58∨y.kind=83∨y.kind=87∨y.kind=82∨y.kind=79 then run n .type y
    else rNone y
   rClose m 231 z
  |.params=>do
   let (y,l) ← rEnts (run n .entry) n [] (← rExpect 57 x)
   rFinish m l y
  |.entry=>do
   let y ← if x.named=true then rName x else some x
   if y.kind=56 then do rClose y.len 234 (← run n .type (← rTake y)) else run n .type y
  |.list h=>do rClose m 246 (← run n (.listL h) (← run n (.X h) x))
  |.listL h=>if x.kind=60 then do run n (.listL h) (← run n (.X h) (← rTake x)) else some x
  |.tparams=>do rClose m 264 (← rExpect 63 (← run n .tpL (← rExpect 58 x)))
  |.tpL=>do
   let y ← run n .group x
   if y.kind=60 then do
    let z ← rTake y
    if z.kind=63 then some z else run n .tpL z
   else some y
  |.names=>if x.kind=60 then do run n .names (← rName (← rTake x)) else some x
  |.group=>do
   let y ← run n .names (← rName x)
   let z ← run n .term y
   let u ← if z.kind=26 then do rClose y.len 229 (← run n .unionL z)
    else if y.kind=51 then rClose y.len 229 z
    else some z
   rClose m 233 u
open Go.RowKit
mutual
def Tie (w:World) (D:Nat→Prop):Tree→Rn→Prop
 |.mk k i j l,n=>n.k=k∧n.i=i∧n.j=j∧n.n=l.length∧∃ (g off:Nat) (R:List Rn),(n.n≤n.c∧l.length≤1099511627776)∧(l≠[]→n.o=some ⟨g,off,none⟩∧D g)∧Cells nd w g off R∧Ties w D l R
def Ties (w:World) (D:Nat→Prop):List Tree→List Rn→Prop
 |[],R=>R=[]
 |t::l,R=>∃ n R',R=n::R'∧Tie w D t n∧Ties w D l R'
end
theorem zjA {w w':World} {g:Nat} (h:w'.heap[g]? = w.heap[g]?) (o:Nat):w'.cell? ⟨g,o,none⟩=w.cell? ⟨g,o,none⟩:=by
 simp only[World.cell?,h]
mutual
theorem Tie.keep {w w':World} {D D':Nat→Prop} (hs:∀ g,D g→w'.heap[g]? = w.heap[g]?) (hD:∀ g,D g→D' g):∀ (t:Tree) (n:Rn),Tie w D t n→Tie w' D' t n
 |.mk k i j l,n,h=>by
  rw[Tie] at h ⊢
  obtain⟨h1,h2,h3,h4,g,off,R,h5,h6,h7,h8⟩:=h
  refine⟨h1,h2,h3,h4,g,off,R,h5,fun e=>⟨(h6 e).1,hD _ (h6 e).2⟩,?_,Ties.keep hs hD l R h8⟩
  cases l with
  |nil=>
   rw[Ties] at h8
   subst h8
   intro j u hu
   simp [flat] at hu
  |cons t l=>exact fun j u hu=>(zjA (hs g (h6 zdF).2) _).trans (h7 j u hu)
theorem Ties.keep {w w':World} {D D':Nat→Prop} (hs:∀ g,D g→w'.heap[g]? = w.heap[g]?) (hD:∀ g,D g→D' g):∀ (l:List Tree) (R:List Rn),Ties w D l R→Ties w' D' l R
 |[],R,h=>by rw[Ties] at h ⊢;exact h
 |t::l,R,h=>by
  rw[Ties] at h ⊢
  obtain⟨n,R',h1,h2,h3⟩:=h
  exact⟨n,R',h1,Tie.keep hs hD t n h2,Ties.keep hs hD l R' h3⟩
end
theorem Ties.nil {w:World} {D:Nat→Prop}:Ties w D [] []:=by rw[Ties]
theorem Ties.cons {w:World} {D:Nat→Prop} {t:Tree} {n:Rn} {l:List Tree} {R:List Rn} (h:Tie w D t n) (h2:Ties w D l R):Ties w D (t::l) (n::R):=by rw[Ties];exact⟨n,R,rfl,h,h2⟩
theorem Ties.append {w:World} {D:Nat→Prop}:∀ {l:List Tree} {R:List Rn} {l2:List Tree} {R2:List Rn},Ties w D l R→Ties w D l2 R2→Ties w D (l ++ l2) (R ++ R2)
 |[],R,l2,R2,h,h2=>by rw[Ties] at h;subst h;exact h2
 |t::l,R,l2,R2,h,h2=>by
  rw[Ties] at h
  obtain⟨n,R',rfl,h3,h4⟩:=h
  exact Ties.cons h3 (h4.append h2)
theorem Ties.length {w:World} {D:Nat→Prop}:∀ {l:List Tree} {R:List Rn},Ties w D l R→R.length=l.length
 |[],R,h=>by rw[Ties] at h;subst h;rfl
 |t::l,R,h=>by
  rw[Ties] at h
  obtain⟨n,R',rfl,_,h4⟩:=h
  rw[List.length_cons,List.length_cons,h4.length]
theorem Ties.drop {w:World} {D:Nat→Prop}:∀ {l:List Tree} {R:List Rn} (m:Nat),Ties w D l R→Ties w D (l.drop m) (R.drop m)
 |_,_,0,h=>h
 |[],R,m+1,h=>by rw[Ties] at h;subst h;exact Ties.nil
 |t::l,R,m+1,h=>by
  rw[Ties] at h
  obtain⟨n,R',rfl,_,h4⟩:=h
  exact h4.drop m
theorem Ties.take {w:World} {D:Nat→Prop}:∀ {l:List Tree} {R:List Rn} (m:Nat),Ties w D l R→Ties w D (l.take m) (R.take m)
 |_,_,0,_=>Ties.nil
 |[],R,m+1,h=>by rw[Ties] at h;subst h;exact Ties.nil
 |t::l,R,m+1,h=>by
  rw[Ties] at h
  obtain⟨n,R',rfl,h3,h4⟩:=h
  exact Ties.cons h3 (h4.take m)
theorem Tie.k {w:World} {D:Nat→Prop} {t:Tree} {n:Rn} (h:Tie w D t n):n.k=t.k:=by cases t;rw[Tie] at h;exact h.1
theorem Tie.i {w:World} {D:Nat→Prop} {t:Tree} {n:Rn} (h:Tie w D t n):n.i=t.i:=by cases t;rw[Tie] at h;exact h.2.1
theorem Tie.j {w:World} {D:Nat→Prop} {t:Tree} {n:Rn} (h:Tie w D t n):n.j=t.j:=by cases t;rw[Tie] at h;exact h.2.2.1
theorem zvI (w:World) (D:Nat→Prop) (t:Tk):Tie w D t.tree (leaf t):=by
 rw[Tk.tree,Tie]
 exact zcX
theorem zhT (w:World) (D:Nat→Prop) (k i j:Int):Tie w D (.mk k i j []) ⟨k,i,j,none,0,0⟩:=by
 rw[Tie]
 exact zcX
theorem zhQ (w:World) (D:Nat→Prop):∀ l:List Tk,Ties w D (l.map Tk.tree) (l.map leaf)
 |[]=>Ties.nil
 |t::l=>Ties.cons (zvI w D t) (zhQ w D l)
structure Keep where
 W:World
 K:Nat→Prop
structure Own (C:Keep) (w:World) (b:Nat) (vR vH:Value) (D:Nat→Prop):Prop where
 os:w.os=C.W.os
 tape:w.tape=C.W.tape
 output:w.output=C.W.output
 size:C.W.heap.size≤w.heap.size
 kept:∀ k,C.K k→k<C.W.heap.size∧k≠b∧vR.ownBlock≠some k∧vH.ownBlock≠some k∧w.heap[k]? = C.W.heap[k]?
 dead:∀ k,D k→k<w.heap.size∧k≠b∧vR.ownBlock≠some k∧vH.ownBlock≠some k∧∃ cur fz,w.heap[k]? = some (.cells cur nd.e fz)
theorem Own.step {C:Keep} {w w':World} {b:Nat} {vR vH vR' vH':Value} {D:Nat→Prop} (h:Own C w b vR vH D) (hn:Nx w b vR vH w' vR' vH'):Own C w' b vR' vH' D where
 os:=hn.os.trans h.os
 tape:=hn.tape.trans h.tape
 output:=hn.output.trans h.output
 size:=Nat.le_trans h.size hn.size
 kept k hk:=by
  obtain⟨h1,h2,h3,h4,h5⟩:=h.kept k hk
  have hz:=h.size
  refine⟨h1,h2,fun e=>?_,fun e=>?_,(hn.block k zdC h2 h3 h4).trans h5⟩
  ·rcases hn.newR k e with e|e
   ·exact h3 e
   ·omega
  ·rcases hn.newH k e with e|e
   ·exact h4 e
   ·omega
 dead k hk:=by
  obtain⟨h1,h2,h3,h4,h5⟩:=h.dead k hk
  have hz:=hn.size
  refine⟨by omega,h2,fun e=>?_,fun e=>?_,by rw[hn.block k h1 h2 h3 h4];exact h5⟩
  ·rcases hn.newR k e with e|e
   ·exact h3 e
   ·omega
  ·rcases hn.newH k e with e|e
   ·exact h4 e
   ·omega
theorem Own.ties {C:Keep} {w w':World} {b:Nat} {vR vH vR' vH':Value} {D:Nat→Prop} (h:Own C w b vR vH D) (hn:Nx w b vR vH w' vR' vH') {l:List Tree} {R:List Rn} (ht:Ties w D l R):Ties w' D l R:=
 Ties.keep (fun g hg=>by obtain⟨h1,h2,h3,h4,_⟩:=h.dead g hg;exact hn.block g h1 h2 h3 h4) (fun _ h=>h) l R ht
def Is (w:World) (D:Nat→Prop) (σ:Rd):Res→Prop
 |.ok s=>σ.failed=false∧σ.L=s.L∧σ.at'=s.at'∧Ties w D s.R σ.R∧σ.H=s.H∧σ.op=s.op∧s.H.length=s.R.length∧(∀ x∈s.H,0≤x∧x≤100)∧s.op≤100∧s.R.length+s.L.length≤549755813888
 |.fail a b c=>σ.failed=true∧σ.d0=a∧σ.d1=b∧σ.d2=c∧σ.H.length=σ.R.length∧σ.op≤100∧σ.R.length+σ.L.length≤549755813889
def At (C:Keep) (w:World) (b:Nat) (x:Res):Prop:=∃ vL vR vH σ D,RdAt w b vL vR vH σ∧Own C w b vR vH D∧Is w D σ x
def Post (C:Keep) (b:Nat) (y:Res) (e:Ending) (w':World):Prop:=∃ v,e=.returned v∧Hid (At C w' b y)
def PostB (C:Keep) (b:Nat) (y:Res) (t:Bool) (e:Ending) (w':World):Prop:=e=.returned (.bool t)∧Hid (At C w' b y)
section
variable {C:Keep} {w:World} {b:Nat} {x y:Res}
theorem zgg {s:St} {y:Res} (h:chk (.ok s)=some y):y=.ok s∧s.R.length+s.L.length≤549755813888:=by
 unfold chk at h
 simp only[] at h
 split at h
 ·exact⟨(Option.some.inj h).symm,by assumption⟩
 ·cases h
theorem zgA {a b c:Int} {y:Res} (h:chk (.fail a b c)=some y):y=.fail a b c:=(Option.some.inj h).symm
theorem zgN (h:Hid (At C w b x)):Calls Tryz.prog 58 #[.pointer (some ⟨b,0,none⟩)] w fun e w'=>e=.returned (.int .i64 x.kind)∧w=w':=by
 obtain⟨vL,vR,vH,σ,D,hr,_,hi⟩:=h.out
 refine(zhS hr).mono ?_
 rintro e w' ⟨rfl,rfl⟩
 refine⟨?_,rfl⟩
 exact zbS
theorem zgQ (h:Hid (At C w b x)) (n:Nat) (hn:n≤4611686018427387904):Calls Tryz.prog 60 #[.pointer (some ⟨b,0,none⟩),.int .i64 (n:Int)] w fun e w'=>e=.returned (.int .i64 (x.ahead n))∧w=w':=by
 obtain⟨vL,vR,vH,σ,D,hr,_,hi⟩:=h.out
 refine(zng hr n hn).mono ?_
 rintro e w' ⟨rfl,rfl⟩
 refine⟨?_,rfl⟩
 exact zbS
theorem zfE {s:St} (h:Hid (At C w b (.ok s))):Calls Tryz.prog 62 #[.pointer (some ⟨b,0,none⟩)] w fun e w'=>e=.returned (.int .i64 (s.R.length:Int))∧w=w':=by
 obtain⟨vL,vR,vH,σ,D,hr,_,hi⟩:=h.out
 refine(zpn hr).mono ?_
 rintro e w' ⟨rfl,rfl⟩
 obtain⟨_,_,_,h4,_⟩:=hi
 exact⟨by rw[h4.length],rfl⟩
theorem zfD {d0 d1 d2:Int} (h:Hid (At C w b (.fail d0 d1 d2))):Calls Tryz.prog 62 #[.pointer (some ⟨b,0,none⟩)] w fun e w'=>(∃ v:Int,e=.returned (.int .i64 v))∧w=w':=by
 obtain⟨vL,vR,vH,σ,D,hr,_,hi⟩:=h.out
 refine(zpn hr).mono ?_
 rintro e w' ⟨rfl,rfl⟩
 exact⟨⟨_,rfl⟩,rfl⟩
theorem At.alloc (h:Hid (At C w b x)) (o:Obj):Hid (At C (w.alloc o) b x):=by
 obtain⟨vL,vR,vH,σ,D,hr,ho,hi⟩:=h.out
 have hb:Below w.heap.size w (w.alloc o):=(Below.refl _ _).alloc (Nat.le_refl _) _
 have hn:Nx w b vR vH (w.alloc o) vR vH:=Nx.below hb
 refine Lib.hid ⟨vL,vR,vH,σ,D,hr.below hb,ho.step hn,?_⟩
 exact zbK
def Res.comes (x:Res) (K:List Int):Bool:=K.any fun k=>x.kind == k && x.kind != 0
theorem zhB (h:Hid (At C w b x)) (K:List Int) (hK:K.length≤1024):Calls Tryz.prog 95 #[.pointer (some ⟨b,0,none⟩),.slice (some ⟨w.heap.size,0,none⟩) K.length K.length] (w.alloc (.cells (flat it K).toArray 3)) fun e w'=>e=.returned (.bool (x.comes K))∧Hid (At C w' b x):=by
 have h':=At.alloc h (.cells (flat it K).toArray 3)
 obtain⟨vL,vR,vH,σ,D,hr,_,hi⟩:=h'.out
 refine(zsw hr _ K (Row.new (F:=it) w K) hK).mono ?_
 rintro e w' ⟨rfl,rfl⟩
 refine⟨?_,h'⟩
 have:σ.ahead 0=x.kind:=by
  exact zbS
 unfold Rd.comes Res.comes
 rw[this]
end
end Go.Proofs.YtcekbbkidipbnaaGreat.rd
