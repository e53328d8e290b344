/-
  Texts put together: En, Fp.
-/
import Derived.Test.YtmelbeefjgjdhaaGreatP2
import Derived.Test.YtmelbeefjgjdhaaGreatP5
set_option maxRecDepth 100000
set_option maxHeartbeats 8000000
namespace Go.Proofs.YtmelbeefjgjdhaaGreat.rd
open Go.RowKit
def lead:List Rn→Nat
 |[]=>0
 |t::r=>if sig t.k then 0 else lead r+1
def hiFrom (a:Int) (l:List Int):Int:=l.foldl (fun a x=>max a (x+1)) a
theorem lead_le (R:List Rn):lead R≤R.length:=by
 induction R with
 |nil=>exact Nat.le_refl _
 |cons t r ih=>rw[lead,List.length_cons];split <;> omega
def clampR (m:Int) (n:Nat):Nat:=(max 0 (min m (n:Int))).toNat
def fromK (h:Int):List Rn→Int
 |[]=>h
 |t::_=>t.i
def toK (h:Int) (l:List Rn):Int:=match l.getLast? with|some t=>t.j|none=>h
theorem own_len (o:Option Addr) (n m c:Nat):(Value.slice o n c).ownBlock=(Value.slice o m c).ownBlock:=by cases o <;> rfl
theorem fromK_at (h:Int):∀ (l:List Rn) (hl:0<l.length),l[0].i=fromK h l
 |[],hl=>absurd hl (by simp)
 |_::_,_=>rfl
theorem Mine.nx {α:Type} {F:Kd α} {W W':World} {B b:Nat} {v vR vH vR' vH':Value} {T:List α} (h:Mine F W B v T) (hn:Nx W b vR vH W' vR' vH') (hne:∀ k,v.ownBlock=some k→k≠b∧vR.ownBlock≠some k∧vH.ownBlock≠some k) :
  Mine F W' B v T∧∀ k,v.ownBlock=some k→k≠b∧vR'.ownBlock≠some k∧vH'.ownBlock≠some k:=by
 refine⟨h.keep (fun k hk hl=>hn.block k hl (hne k hk).1 (hne k hk).2.1 (hne k hk).2.2),fun k hk=>⟨(hne k hk).1,fun e=>?_,fun e=>?_⟩⟩
 ·rcases hn.newR k e with e|e
  ·exact(hne k hk).2.1 e
  ·have:=h.lt k hk;omega
 ·rcases hn.newH k e with e|e
  ·exact(hne k hk).2.2 e
  ·have:=h.lt k hk;omega
theorem Mine.upto {α:Type} {F:Kd α} {w:World} {B:Nat} {o:Option Addr} {n cap:Nat} {T:List α} (h:Mine F w B (.slice o n cap) T) (j:Nat) (hj:j≤T.length):(∀ u,(Instr.slice F.t (.slice o n cap) none (some (.int .i64 (j:Int))) none).run Tryz.prog u=.ok (.slice o j cap) u)∧Mine F w B (.slice o j cap) (T.take j):=by
 have hl:(T.take j).length=j:=by rw[List.length_take];omega
 rcases h.2 with⟨hv,h0⟩|⟨g,cap',cur,hv,hg,hh,hnc,hcm,hcs,hct⟩
 ·simp only[Value.slice.injEq] at hv
  obtain⟨rfl,rfl,rfl⟩:=hv
  obtain rfl:j=0:=by omega
  refine⟨fun u=>?_,by rw[List.take_zero];exact Mine.nil _ _⟩
  rw[run_slice_h (P:=Tryz.prog) (w:=u) (t:=F.t) (a:=none) (len:=0) (cap:=0) (ht:=F.ht') .i64 ((0:Nat):Int) (by omega) (by omega)]
  rw[F.hs]
  rfl
 ·simp only[Value.slice.injEq] at hv
  obtain⟨rfl,rfl,rfl⟩:=hv
  refine⟨fun u=>?_,?_,.inr ⟨g,cap,cur,by rw[hl],hg,hh,by omega,hcm,hcs,?_⟩⟩
  ·rw[run_slice_h (P:=Tryz.prog) (w:=u) (t:=F.t) (a:=some ⟨g,0,none⟩) (len:=T.length) (cap:=cap) (ht:=F.ht') .i64 (j:Int) (by omega) (by omega)]
   rw[F.hs]
   simp [Addr.add,sliced]
  ·rw[flat_length]
  ·have e:flat F T=flat F (T.take j) ++ flat F (T.drop j):=by rw[← flat_append,List.take_append_drop]
   have hf:(flat F (T.take j)).length=(T.take j).length*F.k:=flat_length _ _
   have h1:(T.take j).length*F.k≤T.length*F.k:=Nat.mul_le_mul_right _ (by omega)
   rw[show cur.toList.take ((T.take j).length*F.k)=(cur.toList.take (T.length*F.k)).take ((T.take j).length*F.k) by rw[List.take_take,Nat.min_eq_left h1],hct,e,← hf,List.take_left]
def Rd.closed (σ:Rd) (m:Nat) (N:Rn):Rd:={ σ with R:=σ.R.take m ++ [N],H:=σ.H.take m ++ [hiFrom 1 (σ.H.drop m)] }
def Rd.close (σ:Rd) (m:Nat) (N:Rn):Rd:=if 100<hiFrom 1 (σ.H.drop m) then(σ.closed m N).fail 202 else σ.closed m N
def Closes (W:World) (b:Nat) (vL vR vH:Value) (σ:Rd) (m:Nat) (kind:Int) (e:Ending) (W':World):Prop:=
 ∃ v vR' vH' ok ck,e=.returned v∧RdAt W' b vL vR' vH' (σ.close m ⟨kind,fromK σ.here (σ.R.drop m),toK σ.here (σ.R.drop m),ok,(σ.R.drop m).length,ck⟩)∧Nx W b vR vH W' vR' vH' ∧
  Mine nd W' (W.heap.size+1) (.slice ok (σ.R.drop m).length ck) (σ.R.drop m)∧∀ k,(Value.slice ok (σ.R.drop m).length ck).ownBlock=some k→k≠b∧vR'.ownBlock≠some k∧vH'.ownBlock≠some k
theorem close_any {W:World} {b:Nat} {vL vR vH:Value} {σ:Rd} (h:RdAt W b vL vR vH σ) (m:Int) (kind:Int) (hHR:σ.H.length=σ.R.length) (hfew:σ.R.length≤1099511627776) (hf:σ.failed=false) (hHb:∀ x∈σ.H,0≤x∧x≤200) :
  Calls Tryz.prog 38 #[.pointer (some ⟨b,0,none⟩),.int .i64 m,.int .i64 kind] W (Closes W b vL vR vH σ (clampR m σ.R.length+lead (σ.R.drop (clampR m σ.R.length))) kind):=by
 have HRD:=Lib.hid h
 have HE:=Lib.hid (here_any h)
 obtain⟨⟨_,_,b2,b3,_,_,_,_,b8⟩,_⟩:=nine_at h.cells
 rw[hf] at b8
 obtain⟨g,o,cap,hv,ho,_⟩:=h.row.shape
 have HO:=Lib.hid ho
 have HM:=Lib.hid h.row
 subst hv
 obtain⟨len,hlen⟩:∃ len,σ.R.length=len:=⟨_,rfl⟩
 rw[hlen] at HM b2 hfew hHR
 have HLN:=Lib.hid hlen
 clear h ho hlen hf
 go_enter Tryz.func38,Tryz.ntmps38
 go_step
 go_cut [] (fun wx=>wx=W)
 case first=>
  go_wp2_with fail
  all_goals go_meet
  all_goals rfl
 case rest=>
  subst hcut
  go_step
  go_step
  obtain⟨m0,hm0⟩:∃ m0,clampR m len=m0:=⟨_,rfl⟩
  have hm:m0≤len:=by rw[← hm0];unfold clampR;omega
  have hm0':(m0:Int)=max 0 (min m (len:Int)):=by rw[← hm0];unfold clampR;omega
  go_cut [1] (fun v wx=>v=.int .i64 (m0:Int)∧wx=wc)
  case first=>
   rcases Int.lt_or_le (len:Int) m with h1|h1
   ·have hmin:min m (len:Int)=(len:Int):=by omega
    have hp0:decide (m≤(len:Int))=false:=decide_eq_false (by omega)
    have hp1:decide ((len:Int)<m)=true:=decide_eq_true h1
    have hp2:decide (m<(len:Int))=false:=decide_eq_false (by omega)
    have HZ:=Lib.hid hm0'
    clear hm0 hm0'
    rcases Nat.eq_zero_or_pos len with h0|h0
    ·subst h0
     go_wp2_with fail
     all_goals go_meet
     all_goals exact⟨by have:=HZ.out;first|(congr 1;omega)|(simp;omega),rfl⟩
    ·have hq1:decide ((0:Int)<(len:Int))=true:=decide_eq_true (by omega)
     have hq2:decide (0<len)=true:=decide_eq_true h0
     have hq3:decide ((len:Int)<0)=false:=decide_eq_false (by omega)
     go_wp2_with fail
     all_goals go_meet
     all_goals(first|(exfalso;omega)|exact⟨by have:=HZ.out;first|(congr 1;omega)|(simp;omega),rfl⟩)
   ·have hp0:decide (m≤(len:Int))=true:=decide_eq_true h1
    have hp1:decide ((len:Int)<m)=false:=decide_eq_false (by omega)
    have HZ:=Lib.hid hm0'
    clear hm0 hm0'
    rcases Int.lt_or_le 0 m with h0|h0
    ·have hq1:decide ((0:Int)<m)=true:=decide_eq_true h0
     have hq3:decide (m<0)=false:=decide_eq_false (by omega)
     have hq4:decide (m≤0)=false:=decide_eq_false (by omega)
     go_wp2_with fail
     all_goals go_meet
     all_goals(first|(exfalso;omega)|exact⟨by have:=HZ.out;first|(congr 1;omega)|(simp;omega),rfl⟩)
    ·have hq1:decide ((0:Int)<m)=false:=decide_eq_false (by omega)
     have hq4:decide (m≤0)=true:=decide_eq_true h0
     go_wp2_with fail
     all_goals go_meet
     all_goals(first|(exfalso;omega)|exact⟨by have:=HZ.out;first|(congr 1;omega)|(simp;omega),rfl⟩)
  case rest=>
   obtain⟨rfl,hwx⟩:=hcut
   have hwx2:=hwx.symm
   subst hwx2
   clear hwx
   obtain⟨m1,hm1⟩:∃ m1,m0+lead (σ.R.drop m0)=m1:=⟨_,rfl⟩
   have HM1:=Lib.hid hm1
   have hm1l:m1≤len:=by
    have:=lead_le (σ.R.drop m0)
    rw[List.length_drop,HLN.out] at this
    omega
   have HM0:=Lib.hid hm0
   clear hm1 hm0 hm0'
   go_step
   go_step
   go_cut [1] (fun v wx=>v=.int .i64 (m1:Int)∧wx=wc)
   case first=>
    go_wp2_with fail
    go_loopw [1] (fun p wr=>∃ k:Nat,k≤len∧p=.int .i64 (k:Int)∧k+lead (σ.R.drop k)=m1∧wr=wc) (fun p _=>len - (intOf p).toNat)
    case atStart=>exact⟨m0,hm,rfl,HM1.out,rfl⟩
    case round=>
     obtain⟨k,hkl,rfl,hkm,hw⟩:=hrel
     have hw2:=hw.symm
     subst hw2
     have HK:=Lib.hid hkm
     clear hkm hw
     by_cases hlt:k<len
     ·have hltT:k<σ.R.length:=by rw[HLN.out];exact hlt
      have ho:=HO.out (by intro e;rw[e] at hltT;simp at hltT)
      subst ho
      obtain⟨c0,_,_,_⟩:=cells_nd HM.out.cells k hltT
      rw[Nat.zero_add] at c0
      rw[List.drop_eq_getElem_cons hltT,lead] at HK
      have hq0:(0:Int)≤(k:Int):=by omega
      have hd:decide ((k:Int)<(len:Int))=true:=decide_eq_true (by omega)
      have hd':decide (k<len)=true:=decide_eq_true hlt
      generalize σ.R[k]=t at *
      obtain⟨z,x1,x2,xo,xn,xc⟩:=t
      simp only[] at c0 HK
      clear hltT
      cases hs:sig z with
      |true=>
       rw[hs,if_pos rfl] at HK
       have hz:10≤z:=of_decide_eq_true hs
       have hd2:decide (z<10)=false:=decide_eq_false (by omega)
       clear hs hz
       go_wp2_with fail
       go_meet
       exact⟨by rw[← HK.out];rfl,rfl⟩
      |false=>
       rw[hs,if_neg (by simp)] at HK
       have hz:¬ 10≤z:=of_decide_eq_false hs
       have hd2:decide (z<10)=true:=decide_eq_true (by omega)
       clear hs hz
       go_wp2_with fail
       go_roundw
       case rel=>exact⟨k+1,by omega,by go_num,by have:=HK.out;omega,by trivial⟩
       case measure=>simp [intOf];omega
     ·have hd:decide ((k:Int)<(len:Int))=false:=decide_eq_false (by omega)
      have hd':decide (k<len)=false:=decide_eq_false hlt
      rw[List.drop_of_length_le (by rw[HLN.out];omega),lead] at HK
      go_wp2_with fail
      go_meet
      exact⟨by rw[← HK.out];rfl,rfl⟩
   case rest=>
    obtain⟨rfl,hwx⟩:=hcut
    have hwx2:=hwx.symm
    subst hwx2
    clear hwx
    rename World=>W0
    have HE0:Hid (∀ u,Below W0.heap.size W0 u→Calls Tryz.prog 89 #[.pointer (some ⟨b,0,none⟩)] u fun e w'=>e=.returned (.int .i64 σ.here)∧u=w'):=Lib.hid (fun u hu=>here_any (by rw[HLN.out] at HRD;exact HRD.out.below hu))
    obtain⟨hr,hhr⟩:∃ hr,σ.here=hr:=⟨_,rfl⟩
    rw[hhr] at HE0
    have HHE:=Lib.hid hhr
    clear hhr HE
    go_step
    go_step
    go_cut [6] (fun v wx=>v=.pointer (some ⟨W0.heap.size,0,none⟩)∧wx.heap[W0.heap.size]? = some (.cells #[.int .i64 kind,.int .i64 hr,.int .i64 hr,.slice none 0 0] 43 (0,0))∧Below W0.heap.size W0 wx)
    case first=>
     go_wp2_with (go_at_call 89;refine(HE0.out _ ?_).mono ?_;(first|exact Below.refl _ _|exact(Below.refl _ _).alloc (Nat.le_refl _) _);rintro e w' ⟨rfl,rfl⟩)
     go_meet
     exact⟨rfl,heap_alloc_last _ _,(Below.refl _ _).alloc (Nat.le_refl _) _⟩
    case rest=>
     rename World=>W1
     obtain⟨rfl,hcell,hb⟩:=hcut
     go_step
     go_step
     go_cut [7] (fun v wx=>v=.int .i64 1∧wx=W1)
     case first=>
      go_wp2_with fail
      go_meet
      exact⟨rfl,rfl⟩
     case rest=>
      obtain⟨rfl,hwx⟩:=hcut
      have hwx2:=hwx.symm
      subst hwx2
      clear hwx
      go_step
      go_step
      obtain⟨B0,hB0⟩:∃ B0,W0.heap.size=B0:=⟨_,rfl⟩
      have hbB:b<B0:=by rw[← hB0];exact World.block_lt_of_cell? _ _ b2
      have HBW:=Lib.hid hb
      rw[hB0] at hcell hb HBW ⊢
      have hlt1:B0<W1.heap.size:=(Array.getElem?_eq_some_iff.1 hcell).1
      obtain⟨hi1,hhi1⟩:∃ hi1,hiFrom 1 (σ.H.drop m1)=hi1:=⟨_,rfl⟩
      have HHI:=Lib.hid hhi1
      have HCE:=Lib.hid hcell
      have HB0:=Lib.hid hB0
      rw[HLN.out] at HRD
      have HHR:=Lib.hid hHR
      have HHB:=Lib.hid hHb
      clear hhi1 hcell hb hB0 hHR hHb
      obtain⟨gh,oh,caph,hvh,hoh,_⟩:=HRD.out.high.shape
      subst hvh
      rw[HHR.out] at HRD b3
      have HOH:=Lib.hid hoh
      clear hoh
      go_cut [7] (fun v wx=>v=.int .i64 hi1∧∃ vK,wx.heap[B0]? = some (.cells #[.int .i64 kind,.int .i64 hr,.int .i64 hr,vK] 43 (0,0))∧Mine nd wx (B0+1) vK (σ.R.drop m1)∧Below B0 W0 wx)
      case first=>
       go_wp2_with fail
       go_loopw [7,8] (fun v p wr=>∃ (j:Nat) (hj:Int) (vK:Value),m1+j≤len∧p=.int .i64 ((m1+j:Nat):Int)∧v=.int .i64 hj∧0≤hj∧hj≤201∧hiFrom hj (σ.H.drop (m1+j))=hi1∧wr.heap[B0]? = some (.cells #[.int .i64 kind,.int .i64 hr,.int .i64 hr,vK] 43 (0,0))∧Mine nd wr (B0+1) vK ((σ.R.drop m1).take j)∧Below B0 W0 wr) (fun _ p _=>len - (intOf p).toNat)
       case atStart=>exact⟨0,1,_,by omega,rfl,rfl,by omega,by omega,HHI.out,HCE.out,by rw[List.take_zero];exact Mine.nil _ _,HBW.out⟩
       case round=>
        obtain⟨j,hj,vK,hjl,rfl,rfl,hh0,hh1,hhi,hck,hmk,hbk⟩:=hrel
        obtain⟨gk,ok,ck,hvk,_,_⟩:=hmk.shape
        obtain⟨nk,hnk⟩:∃ nk,((σ.R.drop m1).take j).length=nk:=⟨_,rfl⟩
        have hnk1:nk≤len:=by rw[← hnk,List.length_take,List.length_drop,HLN.out];omega
        subst hvk
        rw[hnk] at hck hmk
        have HNK:=Lib.hid hnk
        clear hnk
        have HCK:=Lib.hid hck
        have HMK:=Lib.hid hmk
        have HBK:=Lib.hid hbk
        have HHI2:=Lib.hid hhi
        have hr1:=HRD.out.below (hbk.mono (by rw[HB0.out];exact Nat.le_refl _))
        have k2:wr.cell? ⟨b,2,none⟩=some (.slice o len cap):=(hbk.cell (p:=⟨b,2,none⟩) hbB).trans b2
        have k3:wr.cell? ⟨b,3,none⟩=some (.slice oh len caph):=(hbk.cell (p:=⟨b,3,none⟩) hbB).trans b3
        have e3:wr.cell? ⟨B0,3,none⟩=some (.slice ok nk ck):=by rw[cell_of_row _ _ 3 _ _ _ hck];rfl
        have ef3:wr.frozen? ⟨B0,3,none⟩=false:=frozen_of_row _ _ 3 _ _ hck
        have hBr:B0<wr.heap.size:=(Array.getElem?_eq_some_iff.1 hck).1
        obtain⟨p,hp⟩:∃ p,m1+j=p:=⟨_,rfl⟩
        rw[hp] at hjl HHI2 ⊢
        have HP:=Lib.hid hp
        clear hck hmk hbk hhi
        by_cases hlt:p<len
        ·have hltT:p<σ.R.length:=by rw[HLN.out];exact hlt
         have hltH:p<σ.H.length:=by rw[HHR.out];exact hlt
         have ho:=HO.out (by intro e;rw[e] at hltT;simp at hltT)
         have hoh:=HOH.out (by intro e;rw[e] at hltH;simp at hltH)
         subst ho hoh
         obtain⟨c0,c1,c2,c3⟩:=cells_nd hr1.row.cells p hltT
         have h0:=cells_it hr1.high.cells p hltH
         rw[Nat.zero_add] at c0 c1 c2 c3 h0
         have hx:=HHB.out _ (List.getElem_mem hltH)
         rw[List.drop_eq_getElem_cons hltH] at HHI2
         obtain⟨t,ht⟩:∃ t,σ.R[p]=t:=⟨_,rfl⟩
         rw[ht] at c0 c1 c2 c3
         have htq:σ.R[p]? = some t:=by rw[List.getElem?_eq_getElem hltT,ht]
         have HT:=Lib.hid htq
         obtain⟨x,hxq⟩:∃ x,σ.H[p]=x:=⟨_,rfl⟩
         have HX:Hid (σ.H[p]=x):=Lib.hid hxq
         rw[hxq] at h0 hx HHI2
         clear hxq
         obtain⟨z,x1,x2,xo,xn,xc⟩:=t
         simp only[] at c0 c1 c2 c3
         have hq0:(0:Int)≤(p:Int):=by omega
         have hd:decide ((p:Int)<(len:Int))=true:=decide_eq_true (by omega)
         have hd':decide (p<len)=true:=decide_eq_true hlt
         clear ht htq hp hltT hr1
         have HA:Hid (∀ u,Below wr.heap.size wr u→∀ ad,u.heap[ad]? = some (.cells #[.int .i64 z,.int .i64 x1,.int .i64 x2,.slice xo xn xc] 43 (0,0))→∃ v' w',(∀ ty,(Builtin.append_ #[35,35] ty #[.slice ok nk ck,.slice (some ⟨ad,0,none⟩) 1 1]).run Tryz.prog u=.ok v' w') ∧
           ∃ g cap',v'=.slice (some ⟨g,0,none⟩) (nk+1) cap'∧w'.heap[B0]? = some (.cells #[.int .i64 kind,.int .i64 hr,.int .i64 hr,.slice ok nk ck] 43 (0,0))∧Mine nd w' (B0+1) (.slice (some ⟨g,0,none⟩) (nk+1) cap') ((σ.R.drop m1).take (j+1))∧Below B0 W0 w'):=Lib.hid (fun u hu ad had=>by
          obtain⟨g',cap',w',h1,h2,h3,_⟩:=app_lies (F:=nd) (x:=⟨z,x1,x2,xo,xn,xc⟩) (HMK.out.below hu) had (by have:=hu.size;omega) (by rw[HNK.out];simp [maxLen];omega) (by show(_+1)*48≤_;rw[HNK.out];omega)
          rw[HNK.out] at h1 h2
          have hown:∀ k,(Value.slice ok nk ck).ownBlock=some k→B0+1≤k:=fun k hk=>(World.ownsRow.lt HMK.out k hk).1
          have hg:∀ k,k≤B0→w'.heap[k]? = wr.heap[k]?:=fun k hk=>(h3.block k (by have:=hu.size;omega) (fun e=>by have:=hown k e.symm;omega)).trans (hu.block k (by omega))
          refine⟨_,w',h1,g',cap',rfl,(hg B0 (Nat.le_refl _)).trans HCK.out,?_,⟨h3.os.trans (hu.os.trans HBK.out.os),h3.tape.trans (hu.tape.trans HBK.out.tape),h3.output.trans (hu.output.trans HBK.out.output),Nat.le_trans HBK.out.size (Nat.le_trans hu.size h3.size),fun k hk=>(hg k (by omega)).trans (HBK.out.block k hk)⟩⟩
          rw[List.take_add_one,List.getElem?_drop,show m1+j=p from HP.out,HT.out]
          exact h2)
         have hx1:IntKind.i64.wrap (x+1)=x+1:=IntWalk.i64_in _ (by omega)
         have KB2:=Lib.hid (show b<wr.heap.size by omega)
         have hgr:g<wr.heap.size:=World.block_lt_of_cell? _ _ c0
         have hbr:b<wr.heap.size:=by omega
         go_wp2_with fail
         go_cut [] (fun wx=>∃ vK',wx.heap[B0]? = some (.cells #[.int .i64 kind,.int .i64 hr,.int .i64 hr,vK'] 43 (0,0))∧Mine nd wx (B0+1) vK' ((σ.R.drop m1).take (j+1))∧Below B0 W0 wx)
         case first=>
          go_region_law (refine step_append_ex rfl _ _ _ _ rfl _ _ rfl rfl (HA.out _ ?_ _ ?_) ?_;(first|exact(Below.refl _ _).drew.alloc (Nat.le_refl _) _);(first|exact heap_alloc_last _ _);rintro v' w' ⟨g',cap',rfl,hc',hm',hb'⟩;have HC':=Lib.hid hc';have HM':=Lib.hid hm';have HB':=Lib.hid hb';have y3:=(show w'.cell? ⟨B0,3,none⟩=some (.slice ok nk ck) by rw[cell_of_row _ _ 3 _ _ _ hc'];rfl);have z3:=(show w'.frozen? ⟨B0,3,none⟩=false from frozen_of_row _ _ 3 _ _ hc');clear hc' hm' hb')
          all_goals(try go_wp2_with fail)
          all_goals go_meet
          all_goals exact⟨_,heap_setCell_same _ B0 3 _ _ _ HC'.out,HM'.out.keep (fun k hk _=>set_one _ _ _ _ _ (by have:=(World.ownsRow.lt HM'.out k hk).1;omega)),HB'.out.setCell (p:=⟨B0,3,none⟩) (Nat.le_refl _) _⟩
         case rest=>
          obtain⟨vK',hck',hmk',hbk'⟩:=hcut
          have HCK':=Lib.hid hck'
          have HMK':=Lib.hid hmk'
          have HBK':=Lib.hid hbk'
          have l3:wc.cell? ⟨b,3,none⟩=some (.slice (some ⟨gh,0,none⟩) len caph):=(hbk'.cell (p:=⟨b,3,none⟩) hbB).trans b3
          have l0:=cells_it (HRD.out.below (hbk'.mono (by rw[HB0.out];exact Nat.le_refl _))).high.cells p hltH
          rw[HX.out,Nat.zero_add] at l0
          clear hck' hmk' hbk'
          by_cases hmx:hj<x+1
          ·have hmd:decide (hj<x+1)=true:=decide_eq_true hmx
           have HMX:Hid (max hj (x+1)=x+1):=Lib.hid (by omega)
           go_wp2_with fail
           go_roundw
           case rel=>
            refine⟨j+1,x+1,vK',by have:=HP.out;omega,by have:=HP.out;go_num,rfl,by omega,by omega,?_,HCK'.out,HMK'.out,HBK'.out⟩
            have h1:=HHI2.out
            rw[show m1+(j+1)=p+1 by have:=HP.out;omega]
            rw[hiFrom,List.foldl_cons,HMX.out] at h1
            exact h1
           case measure=>simp [intOf];omega
          ·have hmd:decide (hj<x+1)=false:=decide_eq_false hmx
           have HMX:Hid (max hj (x+1)=hj):=Lib.hid (by omega)
           go_wp2_with fail
           go_roundw
           case rel=>
            refine⟨j+1,hj,vK',by have:=HP.out;omega,by have:=HP.out;go_num,rfl,by omega,by omega,?_,HCK'.out,HMK'.out,HBK'.out⟩
            have h1:=HHI2.out
            rw[show m1+(j+1)=p+1 by have:=HP.out;omega]
            rw[hiFrom,List.foldl_cons,HMX.out] at h1
            exact h1
           case measure=>simp [intOf];omega
        ·have hd:decide ((p:Int)<(len:Int))=false:=decide_eq_false (by omega)
         have hd':decide (p<len)=false:=decide_eq_false hlt
         have hpe:p=len:=by omega
         have h1:=HHI2.out
         rw[List.drop_of_length_le (by rw[HHR.out];omega)] at h1
         have h2:=HMK.out
         rw[List.take_of_length_le (by rw[List.length_drop,HLN.out];have:=HP.out;omega)] at h2
         have H1:=Lib.hid h1
         have H2:=Lib.hid h2
         clear h1 h2 hpe
         go_wp2_with fail
         go_meet
         exact⟨by rw[← H1.out];rfl,_,HCK.out,H2.out,HBK.out⟩
      case rest=>
       rename World=>W2
       obtain⟨rfl,vK,hck,hmk,hbk⟩:=hcut
       obtain⟨gk,ok,ck,hvk,hok,hgk1,hgk2⟩:=hmk.shape
       subst hvk
       obtain⟨nk,hnk⟩:∃ nk,(σ.R.drop m1).length=nk:=⟨_,rfl⟩
       have hnk1:nk≤len:=by rw[← hnk,List.length_drop,HLN.out];omega
       rw[hnk] at hck hmk
       have HNK:=Lib.hid hnk
       have HCK:=Lib.hid hck
       have HMK:=Lib.hid hmk
       have HBK:=Lib.hid hbk
       have HOK:=Lib.hid hok
       have HGK:=Lib.hid (And.intro hgk1 hgk2)
       have e3:W2.cell? ⟨B0,3,none⟩=some (.slice ok nk ck):=by rw[cell_of_row _ _ 3 _ _ _ hck];rfl
       have e1:W2.cell? ⟨B0,1,none⟩=some (.int .i64 hr):=by rw[cell_of_row _ _ 1 _ _ _ hck];rfl
       have e2:W2.cell? ⟨B0,2,none⟩=some (.int .i64 hr):=by rw[cell_of_row _ _ 2 _ _ _ hck];rfl
       have ef1:W2.frozen? ⟨B0,1,none⟩=false:=frozen_of_row _ _ 1 _ _ hck
       have ef2:W2.frozen? ⟨B0,2,none⟩=false:=frozen_of_row _ _ 2 _ _ hck
       have hBr:B0<W2.heap.size:=(Array.getElem?_eq_some_iff.1 hck).1
       obtain⟨iF,hiF⟩:∃ iF,fromK hr (σ.R.drop m1)=iF:=⟨_,rfl⟩
       obtain⟨iT,hiT⟩:∃ iT,toK hr (σ.R.drop m1)=iT:=⟨_,rfl⟩
       have HIF:=Lib.hid hiF
       have HIT:=Lib.hid hiT
       clear hnk hck hmk hbk hok hgk1 hgk2 hiF hiT
       go_step
       go_step
       go_cut [] (fun wx=>wx.heap[B0]? = some (.cells #[.int .i64 kind,.int .i64 iF,.int .i64 iT,.slice ok nk ck] 43 (0,0))∧Mine nd wx (B0+1) (.slice ok nk ck) (σ.R.drop m1)∧Below B0 W0 wx)
       case first=>
        rcases Nat.eq_zero_or_pos nk with h0|h0
        ·have hd0:decide ((0:Int)<(nk:Int))=false:=decide_eq_false (by omega)
         have hd1:decide (0<nk)=false:=decide_eq_false (by omega)
         have hnil:σ.R.drop m1=[]:=List.eq_nil_of_length_eq_zero (by rw[HNK.out];exact h0)
         have h1:iF=hr:=by rw[← HIF.out,hnil];rfl
         have h2:iT=hr:=by rw[← HIT.out,hnil];rfl
         have HE1:=Lib.hid (And.intro h1 h2)
         clear hnil h1 h2 h0
         go_wp2_with fail
         all_goals go_meet
         all_goals exact⟨by rw[HE1.out.1,HE1.out.2];exact HCK.out,HMK.out,HBK.out⟩
        ·have hd0:decide ((0:Int)<(nk:Int))=true:=decide_eq_true (by omega)
         have hd1:decide (0<nk)=true:=decide_eq_true h0
         have hlt0:0<(σ.R.drop m1).length:=by rw[HNK.out];exact h0
         have hltn:nk - 1<(σ.R.drop m1).length:=by rw[HNK.out];omega
         have ho:=HOK.out (by intro e;rw[e] at hlt0;simp at hlt0)
         subst ho
         obtain⟨_,c1,_,_⟩:=cells_nd HMK.out.cells 0 hlt0
         obtain⟨_,_,c2,_⟩:=cells_nd HMK.out.cells (nk - 1) hltn
         have h1:(σ.R.drop m1)[0].i=iF:=by
          rw[← HIF.out]
          exact fromK_at hr _ hlt0
         have h2:(σ.R.drop m1)[nk - 1].j=iT:=by
          rw[← HIT.out]
          unfold toK
          rw[List.getLast?_eq_getElem?,HNK.out,List.getElem?_eq_getElem hltn]
         rw[h1] at c1
         rw[h2,Nat.zero_add] at c2
         have c1':W2.cell? ⟨gk,1,none⟩=some (.int .i64 iF):=c1
         have hgB:=(HGK.out.1:B0+1≤gk)
         have hgB':(gk == B0)=false:=beq_eq_false_iff_ne.2 (by omega)
         have hgB'':(B0 == gk)=false:=beq_eq_false_iff_ne.2 (by omega)
         have hi0:(0:Int)≤(nk:Int) - 1:=by omega
         have hi1':(nk:Int) - 1<(nk:Int):=by omega
         have hi2:((nk:Int) - 1).toNat=nk - 1:=by omega
         clear c1 h1 h2
         go_wp2_with fail
         all_goals go_meet
         all_goals exact⟨heap_setCell_same _ B0 2 _ _ _ (heap_setCell_same _ B0 1 _ _ _ HCK.out),(HMK.out.keep (fun k hk _=>set_one _ _ _ _ _ (by have:=(World.ownsRow.lt HMK.out k hk).1;omega))).keep (fun k hk _=>set_one _ _ _ _ _ (by have:=(World.ownsRow.lt HMK.out k hk).1;omega)),(HBK.out.setCell (p:=⟨B0,1,none⟩) (Nat.le_refl _) _).setCell (p:=⟨B0,2,none⟩) (Nat.le_refl _) _⟩
       case rest=>
        rename World=>W3
        obtain⟨hck3,hmk3,hbk3⟩:=hcut
        have HMK3:=Lib.hid hmk3
        have HBK3:=Lib.hid hbk3
        have hr3:=HRD.out.below (hbk3.mono (by rw[HB0.out];exact Nat.le_refl _))
        have HR3:=Lib.hid hr3
        obtain⟨⟨_,_,y2,y3,_,_,_,_,_⟩,hfz⟩:=nine_at hr3.cells
        have f2:=hfz 2
        have f3:=hfz 3
        have d0:W3.cell? ⟨B0,0,none⟩=some (.int .i64 kind):=by rw[cell_of_row _ _ 0 _ _ _ hck3];rfl
        have d1:W3.cell? ⟨B0,1,none⟩=some (.int .i64 iF):=by rw[cell_of_row _ _ 1 _ _ _ hck3];rfl
        have d2:W3.cell? ⟨B0,2,none⟩=some (.int .i64 iT):=by rw[cell_of_row _ _ 2 _ _ _ hck3];rfl
        have d3:W3.cell? ⟨B0,3,none⟩=some (.slice ok nk ck):=by rw[cell_of_row _ _ 3 _ _ _ hck3];rfl
        obtain⟨hsR,hmR⟩:=hr3.row.upto m1 (by rw[HLN.out];exact hm1l)
        obtain⟨hsH,hmH⟩:=hr3.high.upto m1 (by rw[HHR.out];exact hm1l)
        have hsR':∀ u,(Instr.slice 35 (.slice o len cap) none (some (.int .i64 (m1:Int))) none).run Tryz.prog u=.ok (.slice o m1 cap) u:=hsR
        have hsH':∀ u,(Instr.slice 58 (.slice oh len caph) none (some (.int .i64 (m1:Int))) none).run Tryz.prog u=.ok (.slice oh m1 caph) u:=hsH
        clear hsR hsH
        have hb3:b<W3.heap.size:=(Array.getElem?_eq_some_iff.1 hr3.cells).1
        have hkb:b≠B0:=by omega
        have hRb:=hr3.row.ne hr3.cells (by decide)
        have hHb:=hr3.high.ne hr3.cells (by decide)
        obtain⟨W4,hW4⟩:∃ W4,(W3.setCell ⟨b,2,none⟩ (.slice o m1 cap)).setCell ⟨b,3,none⟩ (.slice oh m1 caph)=W4:=⟨_,rfl⟩
        have hs4:∀ k,k≠b→W4.heap[k]? = W3.heap[k]?:=fun k hk=>by rw[← hW4,set_one _ _ _ _ _ hk,set_one _ _ _ _ _ hk]
        have hz4:W4.heap.size=W3.heap.size:=by rw[← hW4,size_set,size_set]
        have HN4:Hid (Nx W0 b (.slice o len cap) (.slice oh len caph) W4 (.slice o m1 cap) (.slice oh m1 caph)):=Lib.hid (by
         have h1:Nx W0 b (.slice o len cap) (.slice oh len caph) W3 (.slice o len cap) (.slice oh len caph):=Nx.below (hbk3.mono (by rw[HB0.out];exact Nat.le_refl _))
         refine h1.trans ⟨by rw[← hW4];rfl,by rw[← hW4];rfl,by rw[← hW4];rfl,by rw[hz4];exact Nat.le_refl _,fun k _ hk _ _=>hs4 k hk,fun k hk=>.inl ((own_len o m1 len cap).symm.trans hk),fun k hk=>.inl ((own_len oh m1 len caph).symm.trans hk)⟩)
        have HR4:Hid (RdAt W4 b vL (.slice o m1 cap) (.slice oh m1 caph) { σ with R:=σ.R.take m1,H:=σ.H.take m1 }):=Lib.hid ⟨by rw[← hW4];exact heap_setCell_same _ b 3 _ _ _ (heap_setCell_same _ b 2 _ _ _ hr3.cells),hr3.toks.off hr3.cells (by decide) (fun k _ hk=>hs4 k hk),hmR.keep (fun k hk _=>hs4 k (fun e=>hRb (by rw[e] at hk;exact(own_len o m1 len cap).symm.trans hk))),hmH.keep (fun k hk _=>hs4 k (fun e=>hHb (by rw[e] at hk;exact(own_len oh m1 len caph).symm.trans hk))),hr3.read,hr3.few⟩
        have HK4:Hid (Mine nd W4 (B0+1) (.slice ok nk ck) (σ.R.drop m1)∧∀ k,(Value.slice ok nk ck).ownBlock=some k→k≠b∧(Value.slice o m1 cap).ownBlock≠some k∧(Value.slice oh m1 caph).ownBlock≠some k):=Lib.hid (by
         have hge:∀ k,(Value.slice ok nk ck).ownBlock=some k→B0+1≤k:=fun k hk=>(World.ownsRow.lt hmk3 k hk).1
         refine⟨hmk3.keep (fun k hk _=>hs4 k (by have:=hge k hk;omega)),fun k hk=>⟨by have:=hge k hk;omega,fun e=>?_,fun e=>?_⟩⟩
         ·have h1:=HRD.out.row.lt k ((own_len o m1 len cap).symm.trans e);have h2:=hge k hk;have h3:=HB0.out;omega
         ·have h1:=HRD.out.high.lt k ((own_len oh m1 len caph).symm.trans e);have h2:=hge k hk;have h3:=HB0.out;omega)
        have hP:=Lib.hid (push_any HR4.out ⟨kind,iF,iT,ok,nk,ck⟩ hi1 (by show(σ.R.take m1).length≤_;rw[List.length_take];omega) (by show(σ.H.take m1).length≤_;rw[List.length_take];omega))
        have HW4:=Lib.hid hW4
        clear hmk3 hbk3 hr3 hfz hmR hmH hRb hHb hs4 hz4 hW4 hck3
        go_wp2_with (go_at_call 67;rw[HW4.out];refine hP.out.mono ?_;rintro e w5 ⟨v5,vR5,vH5,rfl,hr5,hn5⟩;have HR5:=Lib.hid hr5;have HN5:=Lib.hid hn5;clear hr5 hn5)
        all_goals
         have HE5:Hid (∃ wl,wl=W0.heap.size∧B0=wl):=Lib.hid ⟨_,rfl,HB0.out.symm⟩
         obtain⟨hk5,hk5'⟩:=HK4.out.1.nx HN5.out HK4.out.2
         have HK5:=Lib.hid (And.intro hk5 hk5')
         clear hk5 hk5' HE5
        ·rename 100<hi1=>hbig
         have HBG:=Lib.hid hbig
         clear hbig
         go_wp2_with (go_at_call 46;refine(fail_any HR5.out 202).mono ?_;rintro e w6 ⟨v6,vR6,vH6,rfl,hr6,hn6⟩;have HR6:=Lib.hid hr6;have HN6:=Lib.hid hn6;clear hr6 hn6)
         all_goals(first|go_end0|go_ret)
         obtain⟨hk6,hk6'⟩:=HK5.out.1.nx HN6.out HK5.out.2
         have hm1':clampR m σ.R.length+lead (σ.R.drop (clampR m σ.R.length))=m1:=by rw[HLN.out,HM0.out,HM1.out]
         unfold Closes
         rw[hm1',HHE.out,HIF.out,HIT.out,HNK.out,HB0.out,HLN.out,HHR.out]
         exact⟨_,vR6,vH6,ok,ck,rfl,by unfold Rd.close Rd.closed;rw[HHI.out,if_pos HBG.out];exact HR6.out,(HN4.out.trans HN5.out).trans HN6.out,hk6,hk6'⟩
        ·rename hi1≤100=>hbig
         go_end0
         have hm1':clampR m σ.R.length+lead (σ.R.drop (clampR m σ.R.length))=m1:=by rw[HLN.out,HM0.out,HM1.out]
         unfold Closes
         rw[hm1',HHE.out,HIF.out,HIT.out,HNK.out,HB0.out,HLN.out,HHR.out]
         exact⟨_,vR5,vH5,ok,ck,rfl,by unfold Rd.close Rd.closed;rw[HHI.out,if_neg (by omega)];exact HR5.out,HN4.out.trans HN5.out,HK5.out.1,HK5.out.2⟩
open Go.RowKit
theorem close_bad {W:World} {b:Nat} {vL vR vH:Value} {σ:Rd} (h:RdAt W b vL vR vH σ) (hf:σ.failed=true) (m k:Int) :
  Calls Tryz.prog 38 #[.pointer (some ⟨b,0,none⟩),.int .i64 m,.int .i64 k] W (Steps W b vL vR vH σ):=by
 have HRD:=Lib.hid h
 obtain⟨⟨_,_,_,_,_,_,_,_,b8⟩,_⟩:=nine_at h.cells
 rw[hf] at b8
 clear h hf
 go_enter Tryz.func38,Tryz.ntmps38
 go_wp2_with fail
 go_end0
 exact⟨_,vR,vH,rfl,HRD.out,Nx.refl _ _ _ _⟩
theorem ties_lead {w:World} {D:Nat→Prop}:∀ {l:List Tree} {R:List Rn},Ties w D l R→lead R=leadT l
 |[],R,h=>by rw[Ties] at h;subst h;rfl
 |t::l,R,h=>by
  rw[Ties] at h
  obtain⟨n,R',rfl,h3,h4⟩:=h
  rw[lead,leadT,h3.k,ties_lead h4]
theorem ties_from {w:World} {D:Nat→Prop} (a:Int) {l:List Tree} {R:List Rn} (h:Ties w D l R):fromK a R=fromOf a l:=by
 cases l with
 |nil=>rw[Ties] at h;subst h;rfl
 |cons t l=>
  rw[Ties] at h
  obtain⟨n,R',rfl,h3,h4⟩:=h
  exact h3.i
theorem ties_at {w:World} {D:Nat→Prop}:∀ {l:List Tree} {R:List Rn},Ties w D l R→∀ (n:Nat) (t:Tree),l[n]? = some t→∃ N,R[n]? = some N∧Tie w D t N
 |[],R,h,n,t,hn=>by simp at hn
 |t::l,R,h,n,t',hn=>by
  rw[Ties] at h
  obtain⟨N,R',rfl,h3,h4⟩:=h
  cases n with
  |zero=>
   simp only[List.getElem?_cons_zero,Option.some.injEq] at hn
   subst hn
   exact⟨N,rfl,h3⟩
  |succ n=>
   rw[List.getElem?_cons_succ] at hn ⊢
   exact ties_at h4 n t' hn
theorem ties_to {w:World} {D:Nat→Prop} (a:Int) {l:List Tree} {R:List Rn} (h:Ties w D l R):toK a R=toOf a l:=by
 unfold toK toOf
 rw[List.getLast?_eq_getElem?,List.getLast?_eq_getElem?,h.length]
 cases hq:l[l.length - 1]? with
 |none=>
  have hl:l.length=0:=by
   rw[List.getElem?_eq_none_iff] at hq
   omega
  rw[List.getElem?_eq_none (by rw[h.length];omega)]
 |some t=>
  obtain⟨N,h1,h2⟩:=ties_at h _ _ hq
  rw[h1]
  exact h2.j
theorem hiFrom_le (l:List Int):∀ a,a≤hiFrom a l:=by
 induction l with
 |nil=>intro a;exact Int.le_refl _
 |cons x l ih=>
  intro a
  rw[hiFrom,List.foldl_cons]
  have:=ih (max a (x+1))
  unfold hiFrom at this
  omega
def AtD (C:Keep) (w:World) (b:Nat) (x:Res) (D:Nat→Prop) (N:Nat) (L:List Tk):Prop:=∃ vL vR vH σ,RdAt w b vL vR vH σ∧Own C w b vR vH D∧Is w D σ x∧σ.R.length≤N∧σ.L=L
theorem close_low {C:Keep} {w:World} {b:Nat} {x y:Res} {D:Nat→Prop} {N:Nat} {L:List Tk} (m m' k:Int) (h:AtD C w b x D N L) (hm:x.bad=false→m=m') (hy:Hid (rClose m' k x=some y)) :
  Calls Tryz.prog 38 #[.pointer (some ⟨b,0,none⟩),.int .i64 m,.int .i64 k] w fun e w'=>∃ v D',e=.returned v∧(∀ g,D g→D' g)∧AtD C w' b y D' (N+1) L:=by
 obtain⟨vL,vR,vH,σ,hr,ho,hi,hN,hL⟩:=h
 obtain⟨hf1,hf2⟩:=few_of hi
 have hy:=hy.out
 cases x with
 |fail a0 a1 a2=>
  cases hy
  refine(close_bad hr hi.1 m k).mono ?_
  rintro e w' ⟨v,vR',vH',rfl,hr',hn⟩
  exact⟨_,D,rfl,fun _ h=>h,vL,vR',vH',σ,hr',ho.step hn,hi,by omega,hL⟩
 |ok s=>
  have hm:=hm rfl
  subst hm
  obtain⟨h1,h2,h3,h4,h5,h6,h7,h8,h9,h10⟩:=hi
  have hl:=h4.length
  refine(close_any hr m k hf2 (by omega) h1 (fun x hx=>by rw[h5] at hx;have:=h8 x hx;omega)).mono ?_
  rintro e w' ⟨v,vR',vH',ok,ck,rfl,hr',hn,hk,hk'⟩
  have hM:clampR m σ.R.length+lead (σ.R.drop (clampR m σ.R.length))=s.mark m:=by
   unfold St.mark
   rw[show clampR m σ.R.length=clamp m s.R.length by rw[hl];rfl,ties_lead (h4.drop _)]
  rw[hM] at hr' hk hk'
  have hhere:σ.here=s.here:=here_same h2 h3
  rw[hhere,ties_from _ (h4.drop _),ties_to _ (h4.drop _)] at hr'
  have hmle:s.mark m≤s.R.length:=by
   rw[← hM]
   have:=lead_le (σ.R.drop (clampR m σ.R.length))
   rw[List.length_drop] at this
   have h0:clampR m σ.R.length≤σ.R.length:=by unfold clampR;omega
   omega
  have hY:chk (if 100<highOf 1 (s.H.drop (s.mark m)) then s.fail 202 else .ok (s.closed (s.mark m) k))=some y:=hy
  generalize s.mark m=M at *
  clear hy hM
  have hO1:=ho.step hn
  have hT:Ties w' D s.R σ.R:=ho.ties hn h4
  obtain⟨D',hD'⟩:∃ D':Nat→Prop,D'=fun g=>D g∨(Value.slice ok (σ.R.drop M).length ck).ownBlock=some g:=⟨_,rfl⟩
  have hO:Own C w' b vR' vH' D':=⟨hO1.os,hO1.tape,hO1.output,hO1.size,hO1.kept,fun g hg=>by
   rw[hD'] at hg
   rcases hg with hg|hg
   ·exact hO1.dead g hg
   ·obtain⟨c1,c2,c3⟩:=hk' g hg
    refine⟨hk.lt g hg,c1,c2,c3,?_⟩
    rcases hk.2 with⟨hv,_⟩|⟨q,cap,cur,hv,hq,hh,_⟩
    ·rw[hv] at hg;cases hg
    ·rw[hv] at hg
     simp only[Value.ownBlock,Option.some.injEq] at hg
     subst hg
     exact⟨_,_,hh⟩⟩
  have hT2:Ties w' D' s.R σ.R:=Ties.keep (fun _ _=>rfl) (fun g hg=>by rw[hD'];exact .inl hg) _ _ hT
  have hlen:=(hT2.drop M).length
  have hTie:Tie w' D' (.mk k (fromOf s.here (s.R.drop M)) (toOf s.here (s.R.drop M)) (s.R.drop M)) ⟨k,fromOf s.here (s.R.drop M),toOf s.here (s.R.drop M),ok,(σ.R.drop M).length,ck⟩:=by
   obtain⟨g,off,o,cap,hc,hv,ho',hcell⟩:=hk.row
   simp only[Value.slice.injEq] at hv
   obtain⟨rfl,_,rfl⟩:=hv
   rw[Tie]
   refine⟨rfl,rfl,rfl,hlen,g,off,σ.R.drop M,⟨hc,by rw[← hlen,List.length_drop];omega⟩,fun hne=>?_,hcell,hT2.drop M⟩
   have e:=ho' (fun e=>hne (List.eq_nil_of_length_eq_zero (by rw[← hlen,e];rfl)))
   refine⟨e,?_⟩
   rw[hD']
   right
   show(Value.slice ok (σ.R.drop M).length ck).ownBlock=some g
   rw[e]
   rfl
  have hR:Ties w' D' (s.closed M k).R (σ.R.take M ++ [⟨k,fromOf s.here (s.R.drop M),toOf s.here (s.R.drop M),ok,(σ.R.drop M).length,ck⟩]):=(hT2.take M).append (Ties.cons hTie Ties.nil)
  have hh:hiFrom 1 (σ.H.drop M)=highOf 1 (s.H.drop M):=by rw[h5];rfl
  have hge:=hiFrom_le (σ.H.drop M) 1
  have hlR:(s.closed M k).R.length=M+1:=by
   show(s.R.take M ++ _).length=_
   rw[List.length_append,List.length_take,Nat.min_eq_left hmle]
   rfl
  have hlH:(σ.H.take M ++ [hiFrom 1 (σ.H.drop M)]).length=M+1:=by
   rw[List.length_append,List.length_take,Nat.min_eq_left (by omega)]
   rfl
  have hlR2:(σ.R.take M ++ [(⟨k,fromOf s.here (s.R.drop M),toOf s.here (s.R.drop M),ok,(σ.R.drop M).length,ck⟩:Rn)]).length=M+1:=by
   rw[List.length_append,List.length_take,Nat.min_eq_left (by omega)]
   rfl
  refine⟨v,D',rfl,fun g hg=>by rw[hD'];exact .inl hg,vL,vR',vH',_,hr',hO,?_,?_,?_⟩
  rotate_left
  ·unfold Rd.close
   split
   ·rw[Rd.fail_not (σ:=σ.closed M _) h1]
    show(σ.R.take M ++ _).length≤_
    rw[hlR2];omega
   ·show(σ.R.take M ++ _).length≤_
    rw[hlR2];omega
  ·unfold Rd.close
   split
   ·rw[Rd.fail_not (σ:=σ.closed M _) h1];exact hL
   ·exact hL
  unfold Rd.close
  by_cases hb:100<highOf 1 (s.H.drop M)
  ·rw[if_pos hb] at hY
   rw[if_pos (by omega)]
   cases chk_fail hY
   rw[Rd.fail_not (σ:=σ.closed M _) h1]
   have hp:(σ.closed M ⟨k,fromOf s.here (s.R.drop M),toOf s.here (s.R.drop M),ok,(σ.R.drop M).length,ck⟩).piece=s.piece:=piece_same h2 h3
   exact⟨rfl,rfl,by show Prod.fst _=_;rw[hp],by show Prod.snd _=_;rw[hp],by show(σ.H.take M ++ _).length=(σ.R.take M ++ _).length;rw[hlH,hlR2],by show σ.op≤100;omega,by show(σ.R.take M ++ _).length+σ.L.length≤_;rw[hlR2,h2];omega⟩
  ·rw[if_neg hb] at hY
   rw[if_neg (by omega)]
   obtain⟨rfl,hz⟩:=chk_ok hY
   refine⟨h1,h2,h3,hR,?_,h6,?_,?_,h9,hz⟩
   ·show σ.H.take M ++ [hiFrom 1 (σ.H.drop M)]=s.H.take M ++ [highOf 1 (s.H.drop M)]
    rw[hh,h5]
   ·show(s.H.take M ++ [highOf 1 (s.H.drop M)]).length=_
    rw[hlR,← hh,← h5,hlH]
   ·intro x hx
    rcases List.mem_append.1 hx with hx|hx
    ·exact h8 x (List.mem_of_mem_take hx)
    ·rw[List.mem_singleton] at hx
     subst hx
     omega
theorem close_at:CloseC:=by
 intro C w b x y m m' k h hm hy
 obtain⟨vL,vR,vH,σ,D,hr,ho,hi⟩:=h.out
 refine(close_low m m' k ⟨vL,vR,vH,σ,hr,ho,hi,Nat.le_refl _,rfl⟩ hm hy).mono ?_
 rintro e w' ⟨v,D',rfl,_,vL',vR',vH',σ',hr',ho',hi',_,_⟩
 exact⟨v,rfl,Lib.hid ⟨vL',vR',vH',σ',D',hr',ho',hi'⟩⟩
end Go.Proofs.YtmelbeefjgjdhaaGreat.rd
