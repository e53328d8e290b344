/-
  Texts put together: Gj, Gk, Gl, Gm, Gn.
-/
import Derived.Test.YtcekbbkidipbnaaGreatL4
import Derived.Shelf.Abstract
set_option maxRecDepth 100000
set_option maxHeartbeats 8000000
namespace Go.Proofs.YtcekbbkidipbnaaGreat.rd
open Go.RowKit
theorem sigP_gap:∀ (l:List Tk) (k:Nat),sigP k (l.take (nxt 0 l))=[]
 |[],k=>by simp [sigP]
 |t::r,k=>by
  rw[nxt]
  cases hs:sig t.k with
  |true=>rw[if_pos rfl,if_pos rfl];simp [sigP]
  |false=>
   rw[if_neg (by simp),Nat.add_comm,List.take_succ_cons,sigP,hs,if_neg (by simp)]
   exact sigP_gap r (k+1)
theorem nxt_sig:∀ (l:List Tk) (n:Nat) (h:nxt n l<l.length),sig (l[nxt n l]).k=true
 |[],n,h=>by simp [nxt] at h
 |t::r,n,h=>by
  cases hs:sig t.k with
  |true=>
   cases n with
   |zero=>
    have e:nxt 0 (t::r)=0:=by rw[nxt,hs,if_pos rfl,if_pos rfl]
    simp only[e]
    exact hs
   |succ n=>
    have e:nxt (n+1) (t::r)=nxt n r+1:=by rw[nxt,hs,if_pos rfl,if_neg (by omega),Nat.add_sub_cancel];omega
    simp only[e] at h ⊢
    exact nxt_sig r n (by rw[List.length_cons] at h;omega)
  |false=>
   have e:nxt n (t::r)=nxt n r+1:=by rw[nxt,hs,if_neg (by simp)];omega
   simp only[e] at h ⊢
   exact nxt_sig r n (by rw[List.length_cons] at h;omega)
theorem cnt_next (L:List Tk) (a:Nat) (ha:a≤L.length) (h:a+nxt 0 (L.drop a)<L.length):cnt L (a+nxt 0 (L.drop a)+1)=cnt L a+1:=by
 rw[cnt_succ L _ h]
 have h2:nxt 0 (L.drop a)<(L.drop a).length:=by rw[List.length_drop];omega
 have hs:=nxt_sig (L.drop a) 0 h2
 rw[List.getElem_drop] at hs
 rw[hs,if_pos rfl]
 congr 1
 unfold cnt
 rw[List.take_add,sigP_append,sigP_gap,List.append_nil]
theorem Rc.ahead_lt {σ:Rc} {n:Nat} (h:σ.ahead n≠0):σ.failed=false∧σ.next n<σ.L.length:=by
 unfold Rc.ahead at h
 cases hf:σ.failed with
 |true=>rw[hf,if_pos rfl] at h;exact absurd rfl h
 |false=>
  rw[hf,if_neg (by simp)] at h
  rcases Nat.lt_or_ge (σ.next n) σ.L.length with h1|h1
  ·exact⟨rfl,h1⟩
  ·rw[List.getElem?_eq_none h1] at h;exact absurd rfl h
theorem ckind_any {W:World} {b:Nat} {vL vS vR:Value} {σ:Rc} (h:RcAt W b vL vS vR σ):Calls Tryz.prog 57 #[.pointer (some ⟨b,0,none⟩)] W fun e w'=>e=.returned (.int .i64 (σ.ahead 0))∧Below W.heap.size W w':=by
 have HA:=Lib.hid (cahead_any h 0 (by decide))
 clear h
 go_enter Tryz.func57,Tryz.ntmps57
 go_wp2_with (go_at_call 59;refine HA.out.mono ?_;rintro e w' ⟨rfl,hb⟩)
 go_ret
 exact⟨rfl,hb⟩
theorem RcT.tick {W:World} {b k:Nat} {vL vS vR:Value} {σ:Rc} (h:RcT W b vL vS vR σ k):RcT (W.setCell ⟨b,3,none⟩ (.int .i64 ((k:Int)+1))) b vL vS vR σ (k+1)∧Nx W b vR (.slice none 0 0) (W.setCell ⟨b,3,none⟩ (.int .i64 ((k:Int)+1))) vR (.slice none 0 0):=by
 have hs:∀ j,j≠b→(W.setCell ⟨b,3,none⟩ (.int .i64 ((k:Int)+1))).heap[j]? = W.heap[j]?:=fun j hj=>set_one _ _ _ _ _ hj
 refine⟨⟨heap_setCell_same _ b 3 _ _ _ h.cells,h.toks.off h.cells (by decide) (fun k _ hk=>hs k hk),h.sigs.off h.cells (by decide) (fun k _ hk=>hs k hk),h.row.off h.cells (by decide) (fun k _ hk=>hs k hk),h.read,h.few⟩,Nx.own rfl rfl rfl (by rw[size_set]) (fun k _ hk=>hs k hk)⟩
def Rc.take (σ:Rc):Rc:=if σ.ahead 0=0 then σ else{ σ with at':=σ.next 0+1,R:=Rl σ σ.at' (σ.next 0+1 - σ.at') }
theorem ctake_any {W:World} {b:Nat} {vL vS vR:Value} {σ:Rc} (h:RcAt W b vL vS vR σ) (hfew:σ.R.length+σ.L.length≤1099511627776) :
  Calls Tryz.prog 31 #[.pointer (some ⟨b,0,none⟩)] W (CSteps W b vL vS vR σ.take):=by
 have HRD:=Lib.hid h
 have HK:=Lib.hid (ckind_any h)
 by_cases hz:σ.ahead 0=0
 ·have ht:σ.take=σ:=by unfold Rc.take;rw[if_pos hz]
  rw[ht]
  rw[hz] at HK
  clear h hz ht
  go_enter Tryz.func31,Tryz.ntmps31
  go_wp2_with (go_at_call 57;refine HK.out.mono ?_;rintro e w' ⟨rfl,hb⟩)
  go_end0
  exact⟨_,vR,rfl,HRD.out.below hb,Nx.below hb⟩
 ·have ht:σ.take = { σ with at':=σ.next 0+1,R:=Rl σ σ.at' (σ.next 0+1 - σ.at') }:=by unfold Rc.take;rw[if_neg hz]
  rw[ht]
  clear ht
  obtain⟨hf,hlt⟩:=Rc.ahead_lt hz
  have hread:=h.read
  have hnx:σ.next 0=σ.at'+nxt 0 (σ.L.drop σ.at'):=rfl
  have hge:σ.at'≤σ.next 0:=by rw[hnx];omega
  have hcn:cnt σ.L (σ.next 0+1)=cnt σ.L σ.at'+1:=by rw[hnx];exact cnt_next σ.L σ.at' hread (by rw[← hnx];exact hlt)
  obtain⟨⟨b0,b1,_,b3,_,_,_,_,_,_⟩,_⟩:=ten_at h.cells
  have hcl:=cnt_le' σ.L σ.at'
  have hsl:=sigP_le σ.L 0
  have hfw:=h.few
  obtain⟨gS,oS,cS,hvS,hoS,_⟩:=h.sigs.shape
  subst hvS
  have hsp:=sigP_next σ.L σ.at' 0 hread
  rw[← hnx,if_pos hlt,Nat.add_zero] at hsp
  have hclt:cnt σ.L σ.at'<(sigP 0 σ.L).length:=by
   rcases Nat.lt_or_ge (cnt σ.L σ.at') (sigP 0 σ.L).length with h1|h1
   ·exact h1
   ·rw[List.getElem?_eq_none h1] at hsp;cases hsp
  rw[List.getElem?_eq_getElem hclt,Option.some.injEq] at hsp
  have hoS':=hoS (by intro e;rw[e] at hclt;simp at hclt)
  subst hoS'
  have c0:=cells_it h.sigs.cells _ hclt
  rw[hsp,Nat.zero_add] at c0
  have hbz:b<W.heap.size:=(Array.getElem?_eq_some_iff.1 h.cells).1
  have hgS:gS<W.heap.size:=World.block_lt_of_cell? _ _ c0
  have hk1:σ.ahead 0≠0:=hz
  obtain⟨kz,hkz⟩:∃ kz,σ.ahead 0=kz:=⟨_,rfl⟩
  rw[hkz] at HK hk1
  have hdk:(kz == 0)=false:=beq_eq_false_iff_ne.2 hk1
  have hdk2:decide (kz=0)=false:=decide_eq_false hk1
  have hm:σ.at'+(σ.next 0+1 - σ.at')=σ.next 0+1:=by omega
  have HRT:Hid (∀ u,Below W.heap.size W u→Calls Tryz.prog 65 #[.pointer (some ⟨b,0,none⟩),.int .i64 ((σ.next 0:Nat)+1:Int)] u (fun e' w'=>∃ v vR',e'=.returned v∧RcT w' b vL (.slice (some ⟨gS,0,none⟩) (sigP 0 σ.L).length cS) vR' { σ with at':=σ.next 0+1,R:=Rl σ σ.at' (σ.next 0+1 - σ.at') } (cnt σ.L σ.at')∧Nx u b vR (.slice none 0 0) w' vR' (.slice none 0 0)∧w'.cell? ⟨b,1,none⟩=some (.slice (some ⟨gS,0,none⟩) (sigP 0 σ.L).length cS)∧w'.cell? ⟨b,3,none⟩=some (.int .i64 (cnt σ.L σ.at':Int))∧w'.cell? ⟨gS,cnt σ.L σ.at',none⟩=some (.int .i64 (σ.next 0:Int)))):=Lib.hid (fun u hu=>by
   have h1:=creadTo_any (h.t.below hu) (σ.next 0+1 - σ.at') (by omega) hfew
   rw[hm] at h1
   refine h1.mono ?_
   rintro e' w' ⟨v,vR',he,hr',hn'⟩
   have c1:=cells_it hr'.sigs.cells _ hclt
   rw[hsp,Nat.zero_add] at c1
   exact⟨v,vR',he,hr',hn',(ten_at hr'.cells).1.2.1,(ten_at hr'.cells).1.2.2.2.1,c1⟩)
  obtain⟨k,hk⟩:∃ k,cnt σ.L σ.at'=k:=⟨_,rfl⟩
  obtain⟨ls,hls⟩:∃ ls,(sigP 0 σ.L).length=ls:=⟨_,rfl⟩
  obtain⟨p,hp⟩:∃ p,σ.next 0=p:=⟨_,rfl⟩
  rw[hk] at b3 hcl hclt c0 hcn HRT
  have HLS:=Lib.hid hls
  rw[hls] at b1 hcl hclt hsl HRT HRD
  rw[hp] at c0 hcn hlt HRT ⊢
  have HS:Hid (∀ u,Below W.heap.size W u→u.cell? ⟨b,1,none⟩=some (.slice (some ⟨gS,0,none⟩) ls cS)∧u.cell? ⟨b,3,none⟩=some (.int .i64 (k:Int))∧u.cell? ⟨gS,k,none⟩=some (.int .i64 (p:Int))):=Lib.hid (fun u hu=>⟨(hu.cell (p:=⟨b,1,none⟩) hbz).trans b1,(hu.cell (p:=⟨b,3,none⟩) hbz).trans b3,(hu.cell (p:=⟨gS,k,none⟩) hgS).trans c0⟩)
  obtain⟨σ',hσ⟩:∃ σ':Rc,{ σ with at':=p+1,R:=Rl σ σ.at' (p+1 - σ.at') }=σ':=⟨_,rfl⟩
  rw[hσ] at HRT ⊢
  have hL':σ'.L=σ.L:=by rw[← hσ]
  have ha':σ'.at'=p+1:=by rw[← hσ]
  have HC:Hid (cnt σ'.L σ'.at'=k+1):=Lib.hid (by rw[hL',ha'];exact hcn)
  have hq0:(0:Int)≤(k:Int):=by omega
  have hq1:(k:Int)<(ls:Int):=by omega
  have hpl:p≤1099511627776:=by omega
  have hkl:(k:Int)+1≤1099511627777:=by omega
  have hpl1:(p:Int)+1≤1099511627777:=by omega
  have hwp:IntKind.i64.wrap ((p:Int)+1)=(p:Int)+1:=IntWalk.i64_in _ (by omega)
  have HWP:=Lib.hid hwp
  clear hwp
  clear h hz hf hsp hoS hread hnx hge hcn hfw hm hfew hk hls hp hL' ha' hcl hsl b0 b1 b3 c0 hkz hσ hlt
  go_enter Tryz.func31,Tryz.ntmps31
  go_wp2_with (go_at_call 57;refine HK.out.mono ?_;rintro e w1 ⟨rfl,hb1⟩)
  obtain⟨e1,e3,e4⟩:=HS.out _ hb1
  go_region_held3 (fun W'=>W'.cell? ⟨b,1,none⟩=some (.slice (some ⟨gS,0,none⟩) ls cS)∧W'.cell? ⟨b,3,none⟩=some (.int .i64 (k:Int))∧W'.cell? ⟨gS,k,none⟩=some (.int .i64 (p:Int)))
   (first|exact hq'|exact HS.out _ (hb1.trans ((Below.refl _ _).drew.mono hb1.size)))
   (first|(go_at_call 65;rw[HWP.out];with_reducible refine(HRT.out _ (hb1.trans ((Below.refl _ _).drew.mono hb1.size))).mono ?_;rintro e' w' ⟨v,vR',rfl,hr',hn',hq'⟩;have f3:=(ten_at hr'.cells).2 3;have HR':=Lib.hid hr';have HN':=Lib.hid hn';clear hr' hn'))
  all_goals(try go_wp2_with fail)
  all_goals go_end0
  all_goals
   obtain⟨hE1,hE2⟩:=HR'.out.tick
   rw[HLS.out]
   exact⟨_,vR',rfl,hE1.at HC.out.symm,(Nx.below (hb1.trans ((Below.refl _ _).drew.mono hb1.size))).trans (HN'.out.trans hE2)⟩
open Go.RowKit
theorem cclose_bad {W:World} {b:Nat} {vL vS vR:Value} {σ:Rc} (h:RcAt W b vL vS vR σ) (hf:σ.failed=true) (m k:Int) :
  Calls Tryz.prog 37 #[.pointer (some ⟨b,0,none⟩),.int .i64 m,.int .i64 k] W (CSteps W b vL vS vR σ):=by
 have HRD:=Lib.hid h
 obtain⟨⟨_,_,_,_,_,_,_,_,_,b9⟩,_⟩:=ten_at h.cells
 rw[hf] at b9
 clear h hf
 go_enter Tryz.func37,Tryz.ntmps37
 go_wp2_with fail
 go_end0
 exact⟨_,vR,rfl,HRD.out,Nx.refl _ _ _ _⟩
theorem cnone_bad {W:World} {b:Nat} {vL vS vR:Value} {σ:Rc} (h:RcAt W b vL vS vR σ) (hf:σ.failed=true) :
  Calls Tryz.prog 35 #[.pointer (some ⟨b,0,none⟩)] W (CSteps W b vL vS vR σ):=by
 have HRD:=Lib.hid h
 obtain⟨⟨_,_,_,_,_,_,_,_,_,b9⟩,_⟩:=ten_at h.cells
 rw[hf] at b9
 clear h hf
 go_enter Tryz.func35,Tryz.ntmps35
 go_wp2_with fail
 go_end0
 exact⟨_,vR,rfl,HRD.out,Nx.refl _ _ _ _⟩
theorem c_few {N:Nat} {w:World} {D:Nat→Prop} {σ:Rc} {x:Res} (hi:CIs N w D σ x):σ.R.length+σ.L.length≤549755813889:=by
 cases x with
 |fail a b c=>exact hi.2.2.2.2.2.1
 |ok s=>
  obtain⟨h1,h2,h3,h4,h5,h6,h7,h8,h9⟩:=hi
  have:=h4.length
  rw[List.length_map] at this
  rw[h2];omega
theorem mark_low {q:Nat} {u:St} {m:Int} (hm:(q:Int)≤m) (h:q≤u.R.length):q≤u.mark m:=by
 unfold St.mark
 have:q≤clamp m u.R.length:=by unfold clamp;omega
 omega
def CAtD (C:Kc) (w:World) (b:Nat) (x:Res) (D:Nat→Prop) (N:Nat) (L:List Tk) (vL vS:Value):Prop:=∃ vR σ,RcAt w b vL vS vR σ∧Own C.k w b vR (.slice none 0 0) D∧CIs C.low w D σ x∧σ.R.length≤N∧σ.L=L
theorem cclose_low {C:Kc} {w:World} {b:Nat} {x y:Res} {D:Nat→Prop} {N:Nat} {L:List Tk} {vL vS:Value} (m m' k:Int) (h:CAtD C w b x D N L vL vS) (hm:x.bad=false→m=m') (hlo:x.bad=false→(C.low:Int)≤m') (hy:Hid (rClose m' k x=some y)) :
  Calls Tryz.prog 37 #[.pointer (some ⟨b,0,none⟩),.int .i64 m,.int .i64 k] w fun e w'=>∃ v D',e=.returned v∧(∀ g,D g→D' g)∧CAtD C w' b y D' (N+1) L vL vS:=by
 obtain⟨vR,σ,hr,ho,hi,hN,hL⟩:=h
 have hf1:=c_few hi
 have hy:=hy.out
 cases x with
 |fail a0 a1 a2=>
  cases hy
  refine(cclose_bad hr hi.1 m k).mono ?_
  rintro e w' ⟨v,vR',rfl,hr',hn⟩
  exact⟨_,D,rfl,fun _ h=>h,vR',σ,hr',ho.step hn,hi,by omega,hL⟩
 |ok s=>
  have hm:=hm rfl
  subst hm
  have hlo:=hlo rfl
  obtain⟨h1,h2,h3,h4,h5,h6,h7,h8,h9,h10⟩:=hi
  have hl:=h4.length
  rw[List.length_map] at hl
  have hlm:C.low≤s.mark m:=mark_low hlo h10
  refine(cclose_any hr m k h1 (by omega) (fun x hx=>by have:=h7 x.h (by rw[← h5];exact List.mem_map_of_mem hx);omega)).mono ?_
  rintro e w' ⟨v,vR',ok,ck,rfl,hr',hn,hk,hk'⟩
  have hM:clampR m σ.R.length+lead ((σ.R.drop (clampR m σ.R.length)).map Bn.rn)=s.mark m:=by
   unfold St.mark
   rw[show clampR m σ.R.length=clamp m s.R.length by rw[hl];rfl,List.map_drop,ties_lead (h4.drop _)]
  rw[hM] at hr' hk hk'
  have hhere:σ.here=s.here:=c_here h2 h3
  simp only[List.map_drop] at hr' hk
  rw[hhere,ties_from _ (h4.drop _),ties_to _ (h4.drop _),h5] at hr'
  have hmle:s.mark m≤s.R.length:=by
   rw[← hM]
   have:=lead_le ((σ.R.drop (clampR m σ.R.length)).map Bn.rn)
   rw[List.length_map,List.length_drop] at this
   have h0:clampR m σ.R.length≤σ.R.length:=by unfold clampR;omega
   omega
  have hY:chk (if 100<highOf 1 (s.H.drop (s.mark m)) then s.fail 202 else .ok (s.closed (s.mark m) k))=some y:=hy
  generalize s.mark m=M at *
  clear hy hM
  have hO1:=ho.step hn
  have hT:Ties w' D s.R (σ.R.map Bn.rn):=ho.ties hn h4
  obtain⟨D',hD'⟩:∃ D':Nat→Prop,D'=fun g=>D g∨(Value.slice ok (σ.R.drop M).length ck).ownBlock=some g:=⟨_,rfl⟩
  have hO:Own C.k w' b vR' (.slice none 0 0) D':=⟨hO1.os,hO1.tape,hO1.output,hO1.size,hO1.kept,fun g hg=>by
   rw[hD'] at hg
   rcases hg with hg|hg
   ·exact hO1.dead g hg
   ·obtain⟨c1,c2⟩:=hk' g hg
    refine⟨hk.lt g hg,c1,c2,by simp [Value.ownBlock],?_⟩
    rcases hk.2 with⟨hv,_⟩|⟨q,cap,cur,hv,hq,hh,_⟩
    ·rw[hv] at hg;cases hg
    ·rw[hv] at hg
     simp only[Value.ownBlock,Option.some.injEq] at hg
     subst hg
     exact⟨_,_,hh⟩⟩
  have hT2:Ties w' D' s.R (σ.R.map Bn.rn):=Ties.keep (fun _ _=>rfl) (fun g hg=>by rw[hD'];exact .inl hg) _ _ hT
  have hlen:=(hT2.drop M).length
  have hlen':(σ.R.drop M).length=(s.R.drop M).length:=by rw[List.length_drop,List.length_drop,hl]
  have hTie:Tie w' D' (.mk k (fromOf s.here (s.R.drop M)) (toOf s.here (s.R.drop M)) (s.R.drop M)) ⟨k,fromOf s.here (s.R.drop M),toOf s.here (s.R.drop M),ok,(σ.R.drop M).length,ck⟩:=by
   obtain⟨g,off,o,cap,hc,hv,ho',hcell⟩:=hk.row
   simp only[Value.slice.injEq] at hv
   obtain⟨rfl,_,rfl⟩:=hv
   rw[Tie]
   refine⟨rfl,rfl,rfl,hlen',g,off,(σ.R.map Bn.rn).drop M,⟨by rw[hlen',← hlen];exact hc,by rw[List.length_drop];omega⟩,fun hne=>?_,hcell,hT2.drop M⟩
   have e:=ho' (fun e=>hne (List.eq_nil_of_length_eq_zero (by rw[← hlen,e];rfl)))
   refine⟨e,?_⟩
   rw[hD']
   right
   show(Value.slice ok (σ.R.drop M).length ck).ownBlock=some g
   rw[e]
   rfl
  have hR:Ties w' D' (s.closed M k).R ((σ.R.take M ++ [(⟨k,fromOf s.here (s.R.drop M),toOf s.here (s.R.drop M),ok,(σ.R.drop M).length,ck,hiFrom 1 (s.H.drop M)⟩:Bn)]).map Bn.rn):=by
   rw[List.map_append,List.map_take]
   exact(hT2.take M).append (Ties.cons hTie Ties.nil)
  have hge:=hiFrom_le (s.H.drop M) 1
  have hlR2:∀ N:Bn,(σ.R.take M ++ [N]).length=M+1:=fun N=>by
   rw[List.length_append,List.length_take,Nat.min_eq_left (by omega)]
   rfl
  refine⟨v,D',rfl,fun g hg=>by rw[hD'];exact .inl hg,vR',_,hr',hO,?_,?_,?_⟩
  rotate_left
  ·unfold Rc.close
   split
   ·rw[Rc.fail_not (σ:=σ.closed M _) h1]
    show(σ.R.take M ++ _).length≤_
    rw[hlR2];omega
   ·show(σ.R.take M ++ _).length≤_
    rw[hlR2];omega
  ·unfold Rc.close
   split
   ·rw[Rc.fail_not (σ:=σ.closed M _) h1];exact hL
   ·exact hL
  unfold Rc.close
  by_cases hb:100<highOf 1 (s.H.drop M)
  ·rw[if_pos hb] at hY
   rw[if_pos (by show 100<hiFrom 1 (s.H.drop M);exact hb)]
   cases chk_fail hY
   rw[Rc.fail_not (σ:=σ.closed M _) h1]
   have hp:∀ N:Bn,(σ.closed M N).piece=s.piece:=fun N=>c_piece h2 h3
   exact⟨rfl,rfl,by show Prod.fst _=_;rw[hp],by show Prod.snd _=_;rw[hp],by show σ.op≤100;omega,by show(σ.R.take M ++ _).length+σ.L.length≤_;rw[hlR2,h2];omega,by show C.low≤(σ.R.take M ++ _).length;rw[hlR2];omega⟩
  ·rw[if_neg hb] at hY
   rw[if_neg (by show ¬ 100<hiFrom 1 (s.H.drop M);exact hb)]
   obtain⟨rfl,hz⟩:=chk_ok hY
   refine⟨h1,h2,h3,hR,?_,h6,?_,h8,hz,?_⟩
   ·show(σ.R.take M ++ [_]).map Bn.h=s.H.take M ++ [highOf 1 (s.H.drop M)]
    rw[List.map_append,List.map_take,h5]
    rfl
   ·intro x hx
    rcases List.mem_append.1 hx with hx|hx
    ·exact h7 x (List.mem_of_mem_take hx)
    ·rw[List.mem_singleton] at hx
     subst hx
     have:hiFrom 1 (s.H.drop M)=highOf 1 (s.H.drop M):=rfl
     omega
   ·show C.low≤(s.R.take M ++ _).length
    rw[List.length_append,List.length_take]
    omega
def CCloseC:Prop:=∀ (C:Kc) (w:World) (b:Nat) (x y:Res) (m m' k:Int),Hid (CAt C w b x)→(x.bad=false→m=m')→(x.bad=false→(C.low:Int)≤m')→Hid (rClose m' k x=some y)→Calls Tryz.prog 37 #[.pointer (some ⟨b,0,none⟩),.int .i64 m,.int .i64 k] w (CPost C b y)
theorem cclose_at:CCloseC:=by
 intro C w b x y m m' k h hm hlo hy
 obtain⟨vL,vS,vR,σ,D,hr,ho,hi⟩:=h.out
 refine(cclose_low m m' k ⟨vR,σ,hr,ho,hi,Nat.le_refl _,rfl⟩ hm hlo hy).mono ?_
 rintro e w' ⟨v,D',rfl,_,vR',σ',hr',ho',hi',_,_⟩
 exact⟨v,rfl,Lib.hid ⟨vL,vS,vR',σ',D',hr',ho',hi'⟩⟩
section
variable {C:Kc} {w:World} {b:Nat} {x y:Res}
theorem cnone_at (h:Hid (CAt C w b x)) (hy:Hid (rNone x=some y)):Calls Tryz.prog 35 #[.pointer (some ⟨b,0,none⟩)] w (CPost C b y):=by
 obtain⟨vL,vS,vR,σ,D,hr,ho,hi⟩:=h.out
 have hf1:=c_few hi
 have hy:=hy.out
 cases x with
 |fail a0 a1 a2=>
  cases hy
  exact(cnone_bad hr hi.1).mono fun e w' hs=>CPost.of ho hs fun vR' hn=>hi
 |ok s=>
  obtain⟨rfl,hz⟩:=chk_ok hy
  obtain⟨h1,h2,h3,h4,h5,h6,h7,h8,h9,h10⟩:=hi
  refine(cnone_any hr h1 (by omega)).mono fun e w' hs=>CPost.of ho hs fun vR' hn=>?_
  rw[c_here h2 h3]
  refine⟨h1,h2,h3,?_,?_,h6,?_,h8,hz,by show C.low≤(s.R ++ _).length;rw[List.length_append];omega⟩
  ·show Ties w' D (s.R ++ [_]) ((σ.R ++ [_]).map Bn.rn)
   rw[List.map_append]
   exact(ho.ties hn h4).append (Ties.cons (tie_none _ _ _ _ _) Ties.nil)
  ·show(σ.R ++ [_]).map Bn.h=s.H ++ [0]
   rw[List.map_append,h5]
   rfl
  ·intro x hx
   rcases List.mem_append.1 hx with hx|hx
   ·exact h7 x hx
   ·rw[List.mem_singleton.1 hx]
    omega
theorem leafB_rn (l:List Tk):(l.map leafB).map Bn.rn=l.map leaf:=by rw[List.map_map];rfl
theorem leafB_h (l:List Tk):(l.map leafB).map Bn.h=List.replicate l.length 0:=by
 induction l with
 |nil=>rfl
 |cons a l ih=>rw[List.map_cons,List.map_cons,ih];rfl
theorem ctake_is {N:Nat} {D:Nat→Prop} {σ:Rc} {s:St} {w':World} (h:CIs N w D σ (.ok s)) (hk:Ties w' D s.R (σ.R.map Bn.rn)) (hy:s.take.R.length+s.L.length≤549755813888):CIs N w' D σ.take (.ok s.take):=by
 have ha:σ.ahead 0=s.ahead 0:=c_ahead h 0
 obtain⟨h1,h2,h3,h4,h5,h6,h7,h8,h9⟩:=h
 have hnx:σ.next 0=s.next 0:=by unfold Rc.next St.next;rw[h2,h3]
 unfold Rc.take
 unfold St.take at hy ⊢
 rw[ha]
 split
 ·exact⟨h1,h2,h3,hk,h5,h6,h7,h8,h9⟩
 ·rw[if_neg ‹_›] at hy
  rename_i hne
  have hlt:s.next 0<s.L.length:=by
   rcases Nat.lt_or_ge (s.next 0) s.L.length with h|h
   ·exact h
   ·exact absurd (by unfold St.ahead;rw[List.getElem?_eq_none h]) hne
  have hge:s.at'≤s.next 0:=Nat.le_add_right _ _
  rw[hnx,h3]
  unfold St.run
  unfold St.run at hy
  refine⟨h1,h2,by show s.next 0+1=s.at'+(s.next 0+1 - s.at');omega,?_,?_,h6,?_,h8,hy,by show N≤(s.R ++ _).length;have:=h9.2;rw[List.length_append];omega⟩
  ·show Ties w' D (s.R ++ _) ((Rl σ s.at' _).map Bn.rn)
   rw[Rl,h2,List.map_append,leafB_rn]
   exact hk.append (ties_leaves _ _ _)
  ·show(Rl σ s.at' _).map Bn.h=s.H ++ _
   rw[Rl,h2,List.map_append,h5,leafB_h,List.length_take,List.length_drop,Nat.min_eq_left (by omega)]
  ·intro x hx
   rcases List.mem_append.1 hx with hx|hx
   ·exact h7 x hx
   ·rw[(List.mem_replicate.1 hx).2]
    omega
theorem take_L (s:St):s.take.L=s.L:=by unfold St.take;split <;> rfl
theorem Rc.take_failed {σ:Rc} (h:σ.failed=true):σ.take=σ:=by unfold Rc.take Rc.ahead;rw[h,if_pos rfl,if_pos rfl]
theorem ctake_at (h:Hid (CAt C w b x)) (hy:Hid (rTake x=some y)):Calls Tryz.prog 31 #[.pointer (some ⟨b,0,none⟩)] w (CPost C b y):=by
 obtain⟨vL,vS,vR,σ,D,hr,ho,hi⟩:=h.out
 have hf1:=c_few hi
 refine(ctake_any hr (by omega)).mono fun e w' hs=>CPost.of ho hs fun vR' hn=>?_
 have hy:=hy.out
 cases x with
 |fail a b c=>
  cases hy
  rw[Rc.take_failed hi.1]
  exact hi
 |ok s=>
  obtain⟨rfl,hz⟩:=chk_ok hy
  rw[take_L] at hz
  exact ctake_is hi (ho.ties hn hi.2.2.2.1) hz
end
open Go.RowKit
theorem clast_any {W:World} {b:Nat} {vL vS vR:Value} {σ:Rc} (h:RcAt W b vL vS vR σ) (hfew:σ.R.length≤1099511627776) :
  Calls Tryz.prog 63 #[.pointer (some ⟨b,0,none⟩)] W fun e w'=>e=.returned (.int .i64 (if σ.failed then 0 else match σ.R.getLast? with|some t=>t.k|none=>0))∧Below W.heap.size W w':=by
 obtain⟨⟨_,_,_,_,b4,_,_,_,_,b9⟩,_⟩:=ten_at h.cells
 cases hf:σ.failed with
 |true=>
  rw[hf] at b9
  rw[if_pos rfl]
  clear h hf
  go_enter Tryz.func63,Tryz.ntmps63
  go_wp2_with fail
  go_ret
  exact⟨rfl,Below.refl _ _⟩
 |false=>
  rw[hf] at b9
  rw[if_neg (by simp)]
  obtain⟨g,o,cap,hv,ho,_⟩:=h.row.shape
  subst hv
  by_cases hl:σ.R.length=0
  ·have hn:σ.R=[]:=List.eq_nil_of_length_eq_zero hl
   rw[hn] at b4 ⊢
   clear h hf ho hn hl hfew
   simp only[List.length_nil] at b4
   go_enter Tryz.func63,Tryz.ntmps63
   go_wp2_with fail
   go_ret
   exact⟨rfl,Below.refl _ _⟩
  ·have hne:σ.R≠[]:=fun e=>hl (by rw[e];rfl)
   have ho':=ho hne
   subst ho'
   have hlt:σ.R.length - 1<σ.R.length:=by omega
   have c0:=(cells_bt h.row.cells _ hlt).1
   rw[List.getLast?_eq_getElem?,List.getElem?_eq_getElem hlt]
   simp only[]
   generalize (σ.R[σ.R.length - 1]).k=z at *
   rw[Nat.zero_add] at c0
   obtain⟨len,hlen⟩:∃ len,σ.R.length=len:=⟨_,rfl⟩
   rw[hlen] at c0 b4 hl hfew
   obtain⟨q,rfl⟩:∃ q,len=q+1:=⟨len - 1,by omega⟩
   rw[Nat.add_sub_cancel] at c0
   have hd:decide (((q+1:Nat):Int)=0)=false:=decide_eq_false (by omega)
   have hd2:(((q+1:Nat):Int) == 0)=false:=beq_eq_false_iff_ne.2 (by omega)
   have hq0:(0:Int)≤((q+1:Nat):Int) - 1:=by omega
   have hq1:((q+1:Nat):Int) - 1<((q+1:Nat):Int):=by omega
   have hq2:(((q+1:Nat):Int) - 1).toNat=q:=by omega
   have hq3:((q+1:Nat):Int) - 1=(q:Int):=by omega
   clear h hf ho hne hl hlt hlen
   go_enter Tryz.func63,Tryz.ntmps63
   go_wp2_with fail
   go_region
   all_goals(try go_wp2_with fail)
   all_goals go_ret
   all_goals exact⟨rfl,(Below.refl _ _).drew⟩
def Res.last (x:Res):Int:=match x with|.ok s=>s.last|.fail _ _ _=>0
section
variable {C:Kc} {w:World} {b:Nat} {x y:Res}
theorem clast_at (h:Hid (CAt C w b x)):Calls Tryz.prog 63 #[.pointer (some ⟨b,0,none⟩)] w fun e w'=>e=.returned (.int .i64 x.last)∧Hid (CAt C w' b x):=by
 obtain⟨vL,vS,vR,σ,D,hr,ho,hi⟩:=h.out
 have hf1:=c_few hi
 refine(clast_any hr (by omega)).mono ?_
 rintro e w' ⟨rfl,hb⟩
 refine⟨?_,CAt.below h hb⟩
 cases x with
 |fail a0 a1 a2=>rw[hi.1,if_pos rfl];rfl
 |ok s=>
  obtain⟨h1,h2,h3,h4,_⟩:=hi
  rw[h1,if_neg (by simp)]
  have hl:=h4.length
  rw[List.length_map] at hl
  have:(match σ.R.getLast? with|some t=>t.k|none=>0)=s.last:=by
   unfold St.last
   rw[List.getLast?_eq_getElem?,List.getLast?_eq_getElem?,hl]
   cases hq:s.R[s.R.length - 1]? with
   |none=>
    rw[List.getElem?_eq_none_iff] at hq
    rw[List.getElem?_eq_none (by omega)]
   |some t=>
    obtain⟨N,a1,a2⟩:=ties_at h4 _ _ hq
    rw[List.getElem?_map] at a1
    cases hb:σ.R[s.R.length - 1]? with
    |none=>rw[hb] at a1;cases a1
    |some B=>
     rw[hb] at a1
     simp only[Option.map_some,Option.some.injEq] at a1
     have:=a2.k
     rw[← a1] at this
     exact this
  show Ending.returned (.int .i64 _)=.returned (.int .i64 s.last)
  rw[this]
theorem cexpect_at (h:Hid (CAt C w b x)) (k:Int) (hy:Hid (rExpect k x=some y)):Calls Tryz.prog 33 #[.pointer (some ⟨b,0,none⟩),.int .i64 k] w (CPostB C b y (!y.bad)):=by
 have hcase:(k≠0∧x.kind=k∧Hid (rTake x=some y)∧y.bad=false)∨(k=0∧Hid (rFail 201 x=some y)∧y.bad=true)∨(k≠0∧x.kind≠k∧Hid (rFail 201 x=some y)∧y.bad=true):=by
  have hy:=hy.out
  cases x with
  |fail a0 a1 a2=>
   cases hy
   by_cases hk:k=0
   ·exact .inr (.inl ⟨hk,Lib.hid rfl,rfl⟩)
   ·exact .inr (.inr ⟨hk,fun e=>hk (by rw[← e];rfl),Lib.hid rfl,rfl⟩)
  |ok s=>
   unfold rExpect lift St.expect at hy
   simp only[] at hy
   by_cases hk:k≠0∧s.ahead 0=k
   ·rw[if_pos hk] at hy
    obtain⟨rfl,_⟩:=chk_ok hy
    exact .inl ⟨hk.1,hk.2,Lib.hid hy,rfl⟩
   ·rw[if_neg hk] at hy
    cases chk_fail hy
    by_cases hk0:k=0
    ·exact .inr (.inl ⟨hk0,Lib.hid hy,rfl⟩)
    ·exact .inr (.inr ⟨hk0,fun e=>hk ⟨hk0,e⟩,Lib.hid hy,rfl⟩)
 clear hy
 rcases hcase with⟨hk,hx,hy,hb⟩|⟨hk,hy,hb⟩|⟨hk,hx,hy,hb⟩
 ·have hk1:decide (k=0)=false:=decide_eq_false hk
  have hk2:(k == 0)=false:=beq_eq_false_iff_ne.2 hk
  rw[hb]
  clear hb
  go_enter Tryz.func33,Tryz.ntmps33
  go_wp2_with (first|(go_at_call 57;refine(ckind_is ‹_› hx).mono ?_;rintro e w' ⟨rfl,hat⟩)|(go_at_call 31;refine(ctake_at ‹_› hy).mono ?_;rintro e w' ⟨v,rfl,hat⟩))
  go_ret
  exact⟨rfl,by assumption⟩
 ·subst hk
  rw[hb]
  clear hb
  go_enter Tryz.func33,Tryz.ntmps33
  go_wp2_with (go_at_call 45;refine(cfail_at ‹_› _ hy).mono ?_;rintro e w' ⟨v,rfl,hat⟩)
  go_ret
  exact⟨rfl,by assumption⟩
 ·have hk1:decide (k=0)=false:=decide_eq_false hk
  have hk2:(k == 0)=false:=beq_eq_false_iff_ne.2 hk
  have hx1:(x.kind == k)=false:=beq_eq_false_iff_ne.2 hx
  have hx2:decide (x.kind=k)=false:=decide_eq_false hx
  rw[hb]
  clear hb
  go_enter Tryz.func33,Tryz.ntmps33
  go_wp2_with (first|(go_at_call 57;refine(ckind_at ‹_›).mono ?_;rintro e w' ⟨rfl,hat⟩)|(go_at_call 45;refine(cfail_at ‹_› _ hy).mono ?_;rintro e w' ⟨v,rfl,hat⟩))
  go_ret
  exact⟨rfl,by assumption⟩
theorem ccame_yes (h:Hid (CAt C w b x)) {k:Int} (hk:x.kind=k) (hy:Hid (rTake x=some y)):Calls Tryz.prog 83 #[.pointer (some ⟨b,0,none⟩),.int .i64 k] w (CPostB C b y true):=by
 go_enter Tryz.func83,Tryz.ntmps83
 go_wp2_with (first|(go_at_call 57;refine(ckind_is ‹_› hk).mono ?_;rintro e w' ⟨rfl,hat⟩)|(go_at_call 31;refine(ctake_at ‹_› hy).mono ?_;rintro e w' ⟨v,rfl,hat⟩))
 go_ret
 exact⟨rfl,by assumption⟩
theorem ccame_no (h:Hid (CAt C w b x)) {k:Int} (hk:(x.kind == k)=false):Calls Tryz.prog 83 #[.pointer (some ⟨b,0,none⟩),.int .i64 k] w (CPostB C b x false):=by
 have hk1:decide (x.kind=k)=false:=decide_eq_false (beq_eq_false_iff_ne.1 hk)
 go_enter Tryz.func83,Tryz.ntmps83
 go_wp2_with (go_at_call 57;refine(ckind_at ‹_›).mono ?_;rintro e w' ⟨rfl,hat⟩)
 go_ret
 exact⟨rfl,by assumption⟩
end
theorem cPrec_any (z:Int) (w:World):Calls Tryz.prog 114 #[.int .i64 z] w fun e w'=>e=.returned (.int .i64 (precOf z))∧w=w':=by
 go_enter Tryz.func114,Tryz.ntmps114
 go_wp2_with fail
 all_goals
  go_ret
  refine⟨?_,rfl⟩
  simp_all [precOf]
open Go.RowKit
theorem CAt.kept {C:Kc} {w:World} {b:Nat} {x:Res} (h:CAt C w b x) (k:Nat) (hk:C.k.K k):w.heap[k]? = C.k.W.heap[k]? ∧ k<C.k.W.heap.size:=by
 obtain⟨vL,vS,vR,σ,D,hr,ho,hi⟩:=h
 exact⟨(ho.kept k hk).2.2.2.2,(ho.kept k hk).1⟩
theorem CAt.size {C:Kc} {w:World} {b:Nat} {x:Res} (h:CAt C w b x):C.k.W.heap.size≤w.heap.size:=by
 obtain⟨vL,vS,vR,σ,D,hr,ho,hi⟩:=h
 exact ho.size
theorem CAt.at {C:Kc} {w:World} {b:Nat} {x:Res} (h:CAt C w b x):b<w.heap.size:=by
 obtain⟨vL,vS,vR,σ,D,hr,ho,hi⟩:=h
 exact(Array.getElem?_eq_some_iff.1 hr.cells).1
theorem CAt.rebase {C C':Kc} {w w':World} {b:Nat} {x:Res} (h:CAt C w b x) (hsize:w.heap.size≤w'.heap.size)
  (hsame:∀ k,k<w.heap.size→w'.heap[k]? = w.heap[k]? ∨ (C.k.K k∧∃ cur e fz,w.heap[k]? = some (.cells cur e fz)∧e≠tk.e∧e≠nd.e∧e≠it.e))
  (hW:C'.k.W=w') (hK:∀ k,C'.k.K k→k<w'.heap.size∧(C.k.K k∨w.heap.size≤k)) (hL:C'.low=C.low):CAt C' w' b x:=by
 obtain⟨vL,vS,vR,σ,D,hr,ho,hi⟩:=h
 have hbz:b<w.heap.size:=(Array.getElem?_eq_some_iff.1 hr.cells).1
 have hof:∀ k,k<w.heap.size→¬ C.k.K k→w'.heap[k]? = w.heap[k]?:=fun k hk hn=>by
  rcases hsame k hk with h|h
  ·exact h
  ·exact absurd h.1 hn
 have hdd:∀ k,D k→w'.heap[k]? = w.heap[k]?:=fun k hk=>by
  obtain⟨a1,_,_,_,cur,fz,a5⟩:=ho.dead k hk
  rcases hsame k a1 with h|⟨_,cur',e,fz',h,_,hne,_⟩
  ·exact h
  ·rw[a5] at h
   simp only[Option.some.injEq,Obj.cells.injEq] at h
   exact absurd h.2.1.symm hne
 have hT:Mine tk w' 0 vL σ.L:=by
  refine hr.toks.keep (fun k hk hz=>?_)
  rcases hsame k hz with h|⟨_,cur,e,fz,h,hne,_⟩
  ·exact h
  ·exfalso
   rcases hr.toks.2 with⟨hv,_⟩|⟨q,cap,cur',hv,hq,hh,_⟩
   ·rw[hv] at hk;cases hk
   ·rw[hv] at hk
    simp only[Value.ownBlock,Option.some.injEq] at hk
    subst hk
    rw[hh] at h
    simp only[Option.some.injEq,Obj.cells.injEq] at h
    exact hne h.2.1.symm
 have hS:Mine it w' 0 vS (sigP 0 σ.L):=by
  refine hr.sigs.keep (fun k hk hz=>?_)
  rcases hsame k hz with h|⟨_,cur,e,fz,h,_,_,hne⟩
  ·exact h
  ·exfalso
   rcases hr.sigs.2 with⟨hv,_⟩|⟨q,cap,cur',hv,hq,hh,_⟩
   ·rw[hv] at hk;cases hk
   ·rw[hv] at hk
    simp only[Value.ownBlock,Option.some.injEq] at hk
    subst hk
    rw[hh] at h
    simp only[Option.some.injEq,Obj.cells.injEq] at h
    exact hne h.2.1.symm
 refine⟨vL,vS,vR,σ,D,⟨?_,hT,hS,?_,hr.read,hr.few⟩,?_,?_⟩
 ·rw[hof b hbz (fun hc=>(ho.kept b hc).2.1 rfl)];exact hr.cells
 ·exact hr.row.keep (fun k hk hz=>hof k hz (fun hc=>(ho.kept k hc).2.2.1 hk))
 ·refine⟨by rw[hW],by rw[hW],by rw[hW],by rw[hW];exact Nat.le_refl _,fun k hk=>?_,fun k hk=>?_⟩
  ·obtain⟨h1,h2⟩:=hK k hk
   rcases h2 with h2|h2
   ·obtain⟨_,a2,a3,a4,_⟩:=ho.kept k h2
    exact⟨by rw[hW];exact h1,a2,a3,a4,by rw[hW]⟩
   ·exact⟨by rw[hW];exact h1,by omega,fun e=>by have:=hr.row.lt k e;omega,by simp [Value.ownBlock],by rw[hW]⟩
  ·obtain⟨a1,a2,a3,a4,a5⟩:=ho.dead k hk
   exact⟨by omega,a2,a3,a4,by rw[hdd k hk];exact a5⟩
 ·cases x with
  |fail a b c=>rw[hL];exact hi
  |ok s=>
   rw[hL]
   obtain⟨h1,h2,h3,h4,h5⟩:=hi
   exact⟨h1,h2,h3,Ties.keep (fun g hg=>hdd g hg) (fun _ h=>h) _ _ h4,h5⟩
theorem CAt.back {C C1:Kc} {B:Nat} {w:World} {b:Nat} {x:Res} (he:Ext C.k C1.k B) (hL:C1.low=C.low) (h:CAt C1 w b x) (hz:∀ k,C.k.K k→k<C.k.W.heap.size):CAt C w b x:=by
 obtain⟨vL,vS,vR,σ,D,hr,ho,hi⟩:=h
 refine⟨vL,vS,vR,σ,D,hr,⟨ho.os.trans he.os,ho.tape.trans he.tape,ho.output.trans he.output,Nat.le_trans he.size ho.size,fun k hk=>?_,ho.dead⟩,by rw[← hL];exact hi⟩
 obtain⟨h1,h2,h3⟩:=he.kept k hk
 obtain⟨a1,a2,a3,a4,a5⟩:=ho.kept k h2
 exact⟨hz k hk,a2,a3,a4,a5.trans h3⟩
theorem Ext.startC {C:Kc} {w w':World} {b:Nat} {x:Res} (h:CAt C w b x) (hb:Below w.heap.size w w'):Ext C.k ⟨w',fun k=>C.k.K k∨(w.heap.size≤k∧k<w'.heap.size)⟩ w.heap.size∧CAt ⟨⟨w',fun k=>C.k.K k∨(w.heap.size≤k∧k<w'.heap.size)⟩,C.low⟩ w' b x:=by
 have h':=h
 obtain⟨vL,vS,vR,σ,D,hr,ho,hi⟩:=h'
 refine⟨⟨hb.os.trans ho.os,hb.tape.trans ho.tape,hb.output.trans ho.output,Nat.le_trans ho.size hb.size,⟨ho.size,hb.size⟩,fun k hk=>?_⟩,h.rebase hb.size (fun k hk=>.inl (hb.block k hk)) rfl (fun k hk=>?_) rfl⟩
 ·obtain⟨a1,_,_,_,a5⟩:=ho.kept k hk
  have:=ho.size
  exact⟨by omega,.inl hk,(hb.block k (by omega)).trans a5⟩
 ·rcases hk with hk|hk
  ·have:=(ho.kept k hk).1
   have:=ho.size
   have:=hb.size
   exact⟨by omega,.inl hk⟩
  ·exact⟨hk.2,.inr hk.1⟩
theorem CAt.boxed {C:Kc} {w w':World} {b:Nat} {x:Res} (h:Hid (CAt C w b x)) (hb:Below w.heap.size w w'):∃ C1:Kc,Hid (CAt C1 w' b x)∧(∀ k,w.heap.size≤k→k<w'.heap.size→∀ W' z,Hid (CAt C1 W' b z)→W'.heap[k]? = w'.heap[k]? ∧ k<W'.heap.size)∧(∀ W' z,Hid (CAt C1 W' b z)→Hid (CAt C W' b z)):=by
 obtain⟨h1,h2⟩:=Ext.startC h.out hb
 refine⟨_,Lib.hid h2,fun k hk hk2 W' z hz=>?_,fun W' z hz=>Lib.hid (CAt.back (C1:=⟨⟨w',fun k=>C.k.K k∨(w.heap.size≤k∧k<w'.heap.size)⟩,C.low⟩) h1 rfl hz.out (fun k hk=>(h.out.kept k hk).2))⟩
 have:=hz.out.kept k (.inr ⟨hk,hk2⟩)
 have hs:=hz.out.size
 exact⟨this.1,Nat.lt_of_lt_of_le hk2 hs⟩
theorem CAt.boxed1 {C:Kc} {w:World} {b:Nat} {x:Res} (h:Hid (CAt C w b x)) (v:Value) (t:TypeId):∃ C1:Kc,Hid (CAt C1 (w.alloc (.cells #[v] t)) b x)∧Hid (∀ W' z,Hid (CAt C1 W' b z)→W'.cell? ⟨w.heap.size,0,none⟩=some v)∧Hid (∀ W' z,Hid (CAt C1 W' b z)→Hid (CAt C W' b z)):=by
 obtain⟨C1,h1,h2,h3⟩:=CAt.boxed h ((Below.refl w.heap.size w).alloc (Nat.le_refl _) (.cells #[v] t))
 refine⟨C1,h1,Lib.hid (fun W' z hz=>?_),Lib.hid h3⟩
 have e:=(h2 w.heap.size (Nat.le_refl _) (by rw[World.size_alloc];omega) W' z hz).1
 rw[heap_alloc_last] at e
 rw[cell_of_row W' _ 0 _ _ _ e]
 rfl
theorem CAt.boxed2 {C:Kc} {w:World} {b:Nat} {x:Res} (h:Hid (CAt C w b x)) (v v2:Value) (t t2:TypeId):∃ C1:Kc,Hid (CAt C1 ((w.alloc (.cells #[v] t)).alloc (.cells #[v2] t2)) b x)∧Hid (∀ W' z,Hid (CAt C1 W' b z)→W'.cell? ⟨w.heap.size,0,none⟩=some v∧W'.cell? ⟨w.heap.size+1,0,none⟩=some v2)∧Hid (∀ W' z,Hid (CAt C1 W' b z)→Hid (CAt C W' b z)):=by
 have hb1:Below w.heap.size w (w.alloc (.cells #[v] t)):=(Below.refl _ _).alloc (Nat.le_refl _) _
 obtain⟨C1,h1,h2,h3⟩:=CAt.boxed h (hb1.alloc hb1.size (.cells #[v2] t2))
 have hz:(w.alloc (.cells #[v] t)).heap.size=w.heap.size+1:=World.size_alloc _ _
 refine⟨C1,h1,Lib.hid (fun W' z hz'=>⟨?_,?_⟩),Lib.hid h3⟩
 ·have e:=(h2 w.heap.size (Nat.le_refl _) (by rw[World.size_alloc,hz];omega) W' z hz').1
  have e2:((w.alloc (.cells #[v] t)).alloc (.cells #[v2] t2)).heap[w.heap.size]? = _:=((Below.refl (w.alloc (.cells #[v] t)).heap.size (w.alloc (.cells #[v] t))).alloc (Nat.le_refl _) (.cells #[v2] t2)).block w.heap.size (by rw[hz];omega)
  rw[e2,heap_alloc_last] at e
  rw[cell_of_row W' _ 0 _ _ _ e]
  rfl
 ·have e:=(h2 (w.heap.size+1) (by omega) (by rw[World.size_alloc,hz];omega) W' z hz').1
  have e2:=heap_alloc_last (w.alloc (.cells #[v] t)) (.cells #[v2] t2)
  rw[hz] at e2
  rw[e2] at e
  rw[cell_of_row W' _ 0 _ _ _ e]
  rfl
theorem low_nat {C:Kc} {w:World} {b:Nat} {s:St} (h:Hid (CAt C w b (.ok s))):C.low≤s.R.length:=by
 obtain⟨vL,vS,vR,σ,D,hr,ho,hi⟩:=h.out
 exact hi.2.2.2.2.2.2.2.2.2
theorem low_ok {C:Kc} {w:World} {b:Nat} {s:St} (h:Hid (CAt C w b (.ok s))):(C.low:Int)≤(s.R.length:Int):=Int.ofNat_le.2 (low_nat h)
def CFun (C:Kc) (b f:Nat) (A:Array Value) (g:Res→Option Res):Prop:=∀ w x y,Hid (CAt C w b x)→Hid (g x=some y)→Calls Tryz.prog f A w (CPost C b y)
open Go.RowKit
theorem wrapped_any {C:Kc} {w:World} {b f:Nat} {A B:Array Value} {g:Res→Option Res} {s:St} {z1 z2 y:Res} {k:Int} (hf:Enters Tryz.prog f) (hg:CFun C b f (A ++ B) g) (h:Hid (CAt C w b (.ok s))) (h1:Hid (rTake (.ok s)=some z1)) (h2:Hid (g z1=some z2)) (h3:Hid (rClose s.R.length k z2=some y)) :
  Calls Tryz.prog 73 #[.pointer (some ⟨b,0,none⟩),.int .i64 k,.func (.func f) A B] w (CPost C b y):=by
 unfold CFun at hg
 have HG:=Lib.hid hg
 clear hg
 unfold Enters at hf
 go_enter Tryz.func73,Tryz.ntmps73
 go_wp2_with (first|(go_at_call 61;refine(cmark_at ‹_›).mono ?_;rintro e w' ⟨rfl,rfl⟩)|(go_at_call 31;refine(ctake_at ‹_› h1).mono ?_;rintro e w' ⟨v,rfl,hat⟩)|(go_at_call 37;refine(cclose_at _ _ _ _ _ _ _ _ ‹_› (fun _=>rfl) (fun _=>low_ok h) h3).mono ?_;rintro e w' ⟨v,rfl,hat⟩)|((with_reducible refine(HG.out _ _ _ ‹_› h2).mono ?_);rintro e w' ⟨v,rfl,hat⟩))
 go_end0
 exact⟨_,rfl,by assumption⟩
def Mp (C:Kc) (b:Nat) (y:Res) (p:Pc) (w:World) (k:Nat):Prop:=∃ x,Hid (CAt C w b x)∧Hid (run k p x=some y)
noncomputable def mpOf (C:Kc) (b:Nat) (y:Res) (p:Pc) (w:World):Nat:=least (Mp C b y p w)
def Mq (C:Kc) (b:Nat) (y:Res) (p:Pc) (n:Nat) (w:World):Prop:=∃ k,k≤n∧Mp C b y p w k
section
variable {C:Kc} {w:World} {b n:Nat} {x y:Res} {p:Pc}
theorem Mq.at (hat:Hid (CAt C w b x)) (h:Hid (run n p x=some y)):Mq C b y p n w:=⟨n,Nat.le_refl _,x,hat,h⟩
theorem Mq.out (h:Mq C b y p n w):(∃ d0 d1 d2,y=.fail d0 d1 d2∧Hid (CAt C w b (.fail d0 d1 d2)))∨∃ k s,k<n∧mpOf C b y p w=k+1∧Hid (CAt C w b (.ok s))∧run (k+1) p (.ok s)=some y:=by
 obtain⟨k,hk,hp⟩:=h
 obtain⟨⟨x,hat,hr⟩,hle⟩:=least_spec hp
 have he:least (Mp C b y p w)=mpOf C b y p w:=rfl
 rw[he] at hr hle
 generalize mpOf C b y p w=q at *
 cases x with
 |fail d0 d1 d2=>
  have:=hr.out
  rw[run_fail] at this
  exact .inl ⟨d0,d1,d2,(Option.some.inj this).symm,hat⟩
 |ok s=>
  cases q with
  |zero=>exact absurd hr.out (by unfold run;simp)
  |succ q=>exact .inr ⟨q,s,by omega,rfl,hat,hr.out⟩
theorem Mq.less {k:Nat} {w0:World} (hk:k≤n) (hat:Hid (CAt C w b x)) (h:Hid (run k p x=some y)) (hq:mpOf C b y p w0=k+1):Mq C b y p n w∧mpOf C b y p w<mpOf C b y p w0:=
 ⟨⟨k,hk,x,hat,h⟩,by have h2:mpOf C b y p w≤k:=(least_spec (P:=Mp C b y p w) ⟨x,hat,h⟩).2;omega⟩
end
def Lj (C:Kc) (b:Nat) (by':Int) (n:Nat) (y z:Res) (p:Pc) (v:Value) (w:World) (k:Nat):Prop:=∃ (c:Nat) (x:Res),v=.int .i64 (c:Int)∧1≤c∧c+k≤n+1∧Hid (CAt C w b x)∧Hid (run k p x=some y)∧(c=1→x=z)∧(c≠1→(z.kind == by')=true)
noncomputable def ljOf (C:Kc) (b:Nat) (by':Int) (n:Nat) (y z:Res) (p:Pc) (v:Value) (w:World):Nat:=least (Lj C b by' n y z p v w)
theorem Lj.least {C:Kc} {b n k:Nat} {by':Int} {y z:Res} {p:Pc} {v:Value} {w:World} (h:Lj C b by' n y z p v w k):Lj C b by' n y z p v w (ljOf C b by' n y z p v w)∧ljOf C b by' n y z p v w≤k:=least_spec h
theorem joined_any {C:Kc} {w:World} {b f n:Nat} {A B:Array Value} {g:Nat→Res→Option Res} {x z y:Res} {by':Int} {p:Pc} (hn:n≤1099511627776) (hf:Enters Tryz.prog f) (hg:∀ k,k≤n→CFun C b f (A ++ B) (g k)) (hb0:by'≠0)
  (hl:∀ k s,run (k+1) p (.ok s)=if (Res.ok s).kind=by' then(rTake (.ok s) >>= fun u=>g k u >>= fun v=>run k p v) else some (.ok s)) (h:Hid (CAt C w b x)) (h1:Hid (g n x=some z)) (h2:Hid (run n p z=some y)) :
  Calls Tryz.prog 84 #[.pointer (some ⟨b,0,none⟩),.int .i64 by',.func (.func f) A B] w fun e w'=>∃ c:Int,e=.returned (.int .i64 c)∧Hid (CAt C w' b y)∧(y.bad=false→decide (1<c)=(z.kind == by')):=by
 unfold CFun at hg
 have HG:=Lib.hid hg
 have HL:=Lib.hid hl
 have HB0:=Lib.hid hb0
 clear hg hl hb0
 unfold Enters at hf
 go_enter Tryz.func84,Tryz.ntmps84
 go_wp2_with ((with_reducible refine(HG.out _ ?hk _ _ _ ‹_› ‹_›).mono ?_);(case hk=>omega);rintro e w' ⟨v,rfl,hat⟩)
 go_loopw [7] (fun pv wr=>∃ k,Lj C b by' n y z p pv wr k) (fun pv wr=>ljOf C b by' n y z p pv wr)
 case atStart=>exact⟨n,1,z,rfl,by omega,by omega,by assumption,h2,fun _=>rfl,fun e=>absurd rfl e⟩
 case round=>
  clear h h1 h2
  obtain⟨k0,hlj⟩:=hrel
  obtain⟨c,x',rfl,hc1,hck,hat',hr,hi0,hi1⟩:=(hlj.least).1
  obtain⟨q,hq⟩:∃ q,ljOf C b by' n y z p (.int .i64 (c:Int)) wr=q:=⟨_,rfl⟩
  rw[hq] at hck hr
  have HQ:=Lib.hid hq
  have HI:=Lib.hid (And.intro hi0 hi1)
  clear hlj hq hi0 hi1
  cases x' with
  |fail d0 d1 d2=>
   have hk0:((Res.fail d0 d1 d2).kind == by')=false:=beq_eq_false_iff_ne.2 (fun e=>HB0.out e.symm)
   have hy:=hr.out
   rw[run_fail] at hy
   obtain rfl:=Option.some.inj hy
   clear hy
   go_wp2_with (go_at_call 83;first|(refine(ccame_yes ‹_› ‹_› ‹_›).mono ?_;rintro e w' ⟨rfl,hat⟩)|(refine(ccame_no ‹_› ?hno).mono ?_;(case hno=>first|assumption|rfl|simp [*]);rintro e w' ⟨rfl,hat⟩))
   go_ret
   exact⟨_,rfl,by assumption,fun h=>by cases h⟩
  |ok s=>
   cases q with
   |zero=>exact absurd hr.out (by unfold run;simp)
   |succ k=>
    have hy:=hr.out
    rw[HL.out] at hy
    by_cases hkb:(Res.ok s).kind=by'
    ·rw[if_pos hkb,bind_iff] at hy
     obtain⟨u,hu,hy⟩:=hy
     rw[bind_iff] at hy
     obtain⟨v1,hv1,hy⟩:=hy
     replace hy:=Lib.hid hy
     have hc2:(c:Int)+1≤1099511627777:=by omega
     clear hr
     go_wp2_with (first|(go_at_call 83;first|(refine(ccame_yes ‹_› ‹_› ‹_›).mono ?_;rintro e w' ⟨rfl,hat⟩)|(refine(ccame_no ‹_› ?hno).mono ?_;(case hno=>first|assumption|rfl|simp [*]);rintro e w' ⟨rfl,hat⟩))|((with_reducible refine(HG.out _ ?hk _ _ _ ‹_› ‹_›).mono ?_);(case hk=>omega);rintro e w' ⟨v,rfl,hat⟩))
     go_roundw
     case rel=>exact⟨k,c+1,v1,by go_num,by omega,by omega,by assumption,hy,fun e=>by omega,fun _=>by
      by_cases h1:c=1
      ·have:=HI.out.1 h1
       rw[← this]
       exact beq_iff_eq.2 hkb
      ·exact HI.out.2 h1⟩
     case measure=>
      have hL:Lj C b by' n y z p (.int .i64 ((c+1:Nat):Int)) w' k:=⟨c+1,v1,rfl,by omega,by omega,by assumption,hy,fun e=>by omega,fun _=>by
       by_cases h1:c=1
       ·have:=HI.out.1 h1
        rw[← this]
        exact beq_iff_eq.2 hkb
       ·exact HI.out.2 h1⟩
      have h3:=(hL.least).2
      have h4:=HQ.out
      have e1:((c+1:Nat):Int)=(c:Int)+1:=by omega
      rw[e1] at h3
      omega
    ·rw[if_neg hkb] at hy
     obtain rfl:=Option.some.inj hy
     have hno:((Res.ok s).kind == by')=false:=beq_eq_false_iff_ne.2 hkb
     clear hr hy
     go_wp2_with (go_at_call 83;first|(refine(ccame_yes ‹_› ‹_› ‹_›).mono ?_;rintro e w' ⟨rfl,hat⟩)|(refine(ccame_no ‹_› ?hno).mono ?_;(case hno=>first|assumption|rfl|simp [*]);rintro e w' ⟨rfl,hat⟩))
     go_ret
     refine⟨_,rfl,by assumption,fun _=>?_⟩
     by_cases h1:c=1
     ·have:=HI.out.1 h1
      rw[← this,hno]
      subst h1
      rfl
     ·rw[HI.out.2 h1]
      exact decide_eq_true (by omega)
theorem closeList_any {C:Kc} {w:World} {b f n:Nat} {A B:Array Value} {g:Nat→Res→Option Res} {x z y:Res} {p:Pc} (hf:Enters Tryz.prog f) (hg:∀ k,k≤n→CFun C b f (A ++ B) (g k))
  (hl:∀ k s,run (k+1) p (.ok s)=if (Res.ok s).kind=60 then(rTake (.ok s) >>= fun u=>if u.kind=63 then run k p u else g k u >>= fun v=>run k p v) else some (.ok s)) (h:Hid (CAt C w b x)) (h1:Hid (run n p x=some z)) (h2:Hid (rExpect 63 z=some y)) :
  Calls Tryz.prog 116 #[.pointer (some ⟨b,0,none⟩),.func (.func f) A B] w (CPost C b y):=by
 unfold CFun at hg
 have HG:=Lib.hid hg
 have HL:=Lib.hid hl
 clear hg hl
 unfold Enters at hf
 go_enter Tryz.func116,Tryz.ntmps116
 go_wp2_with fail
 go_loopw [] (fun wr=>Mq C b z p n wr) (fun wr=>mpOf C b z p wr)
 case atStart=>exact Mq.at ‹_› h1
 case round=>
  clear h h1
  rcases hrel.out with⟨d0,d1,d2,hu,hat⟩|⟨k,s',hk,hq,hat,hy⟩
  ·subst hu
   have hk0:((Res.fail d0 d1 d2).kind == 60)=false:=rfl
   go_wp2_with (first|(go_at_call 83;first|(refine(ccame_yes ‹_› ‹_› ‹_›).mono ?_;rintro e w' ⟨rfl,hat⟩)|(refine(ccame_no ‹_› ?hno).mono ?_;(case hno=>first|assumption|rfl|simp [*]);rintro e w' ⟨rfl,hat⟩))|(go_at_call 33;refine(cexpect_at ‹_› _ (by first|assumption|exact Lib.hid rfl)).mono ?_;rintro e w' ⟨rfl,hat⟩))
   go_end0
   exact⟨_,rfl,by assumption⟩
  ·rw[HL.out] at hy
   by_cases hkb:(Res.ok s').kind=60
   ·rw[if_pos hkb,bind_iff] at hy
    obtain⟨u,hu,hy⟩:=hy
    by_cases hk63:u.kind=63
    ·rw[if_pos hk63] at hy
     replace hy:=Lib.hid hy
     go_wp2_with (first|(go_at_call 83;first|(refine(ccame_yes ‹_› ‹_› ‹_›).mono ?_;rintro e w' ⟨rfl,hat⟩)|(refine(ccame_no ‹_› ?hno).mono ?_;(case hno=>first|assumption|rfl|simp [*]);rintro e w' ⟨rfl,hat⟩))|(go_at_call 57;first|(refine(ckind_is ‹_› ‹_›).mono ?_;rintro e w' ⟨rfl,hat⟩)|(refine(ckind_at ‹_›).mono ?_;rintro e w' ⟨rfl,hat⟩)))
     go_roundw
     case rel=>exact(Mq.less (by omega) ‹_› ‹_› hq).1
     case measure=>exact(Mq.less (n:=n) (by omega) ‹_› ‹_› hq).2
    ·rw[if_neg hk63,bind_iff] at hy
     obtain⟨v1,hv1,hy⟩:=hy
     replace hy:=Lib.hid hy
     have hno63:(u.kind == 63)=false:=beq_eq_false_iff_ne.2 hk63
     go_wp2_with (first|(go_at_call 83;first|(refine(ccame_yes ‹_› ‹_› ‹_›).mono ?_;rintro e w' ⟨rfl,hat⟩)|(refine(ccame_no ‹_› ?hno).mono ?_;(case hno=>first|assumption|rfl|simp [*]);rintro e w' ⟨rfl,hat⟩))|(go_at_call 57;first|(refine(ckind_is ‹_› ‹_›).mono ?_;rintro e w' ⟨rfl,hat⟩)|(refine(ckind_at ‹_›).mono ?_;rintro e w' ⟨rfl,hat⟩))|((with_reducible refine(HG.out _ ?hk _ _ _ ‹_› ‹_›).mono ?_);(case hk=>omega);rintro e w' ⟨v,rfl,hat⟩))
     go_roundw
     case rel=>exact(Mq.less (by omega) ‹_› ‹_› hq).1
     case measure=>exact(Mq.less (n:=n) (by omega) ‹_› ‹_› hq).2
   ·rw[if_neg hkb] at hy
    obtain rfl:=Option.some.inj hy
    have hno:((Res.ok s').kind == 60)=false:=beq_eq_false_iff_ne.2 hkb
    go_wp2_with (first|(go_at_call 83;first|(refine(ccame_yes ‹_› ‹_› ‹_›).mono ?_;rintro e w' ⟨rfl,hat⟩)|(refine(ccame_no ‹_› ?hno).mono ?_;(case hno=>first|assumption|rfl|simp [*]);rintro e w' ⟨rfl,hat⟩))|(go_at_call 33;refine(cexpect_at ‹_› _ (by first|assumption|exact Lib.hid rfl)).mono ?_;rintro e w' ⟨rfl,hat⟩))
    go_end0
    exact⟨_,rfl,by assumption⟩
theorem items_any {C:Kc} {w:World} {b f n:Nat} {A B:Array Value} {g:Nat→Res→Option Res} {x z1 z y:Res} {p:Pc} (hf:Enters Tryz.prog f) (hg:∀ k,k≤n→CFun C b f (A ++ B) (g k)) (hs:∀ k d0 d1 d2,g k (.fail d0 d1 d2)=some (.fail d0 d1 d2))
  (hl:∀ k s,run (k+1) p (.ok s)=if (Res.ok s).kind=64 then some (.ok s) else(g k (.ok s) >>= fun u=>if u.kind=15∨u.kind=16 then(rTake u >>= fun v=>run k p v) else some u)) (h:Hid (CAt C w b x)) (h0:Hid (rExpect 59 x=some z1)) (h1:Hid (run n p z1=some z)) (h2:Hid (rExpect 64 z=some y)) :
  Calls Tryz.prog 78 #[.pointer (some ⟨b,0,none⟩),.func (.func f) A B] w (CPost C b y):=by
 unfold CFun at hg
 have HG:=Lib.hid hg
 have HL:=Lib.hid hl
 have HS:=Lib.hid hs
 clear hg hl hs
 unfold Enters at hf
 go_enter Tryz.func78,Tryz.ntmps78
 go_wp2_with (go_at_call 33;refine(cexpect_at ‹_› _ (by first|assumption|exact Lib.hid rfl)).mono ?_;rintro e w' ⟨rfl,hat⟩)
 go_loopw [] (fun wr=>Mq C b z p n wr) (fun wr=>mpOf C b z p wr)
 case atStart=>exact Mq.at ‹_› h1
 case round=>
  clear h h1 h0
  rcases hrel.out with⟨d0,d1,d2,hu,hat⟩|⟨k,s',hk,hq,hat,hy⟩
  ·subst hu
   have hk0:(Res.fail d0 d1 d2).kind=0:=rfl
   have hs0:Hid (g 0 (.fail d0 d1 d2)=some (.fail d0 d1 d2)):=Lib.hid (HS.out _ _ _ _)
   go_wp2_with (first|(go_at_call 57;first|(refine(ckind_is ‹_› ‹_›).mono ?_;rintro e w' ⟨rfl,hat⟩)|(refine(ckind_at ‹_›).mono ?_;rintro e w' ⟨rfl,hat⟩))|(go_at_call 83;first|(refine(ccame_yes ‹_› ‹_› ‹_›).mono ?_;rintro e w' ⟨rfl,hat⟩)|(refine(ccame_no ‹_› ?hno).mono ?_;(case hno=>first|assumption|rfl|simp [*]);rintro e w' ⟨rfl,hat⟩))|((with_reducible refine(HG.out _ ?hk _ _ _ ‹_› ‹_›).mono ?_);(case hk=>omega);rintro e w' ⟨v,rfl,hat⟩)|(go_at_call 33;refine(cexpect_at ‹_› _ (by first|assumption|exact Lib.hid rfl)).mono ?_;rintro e w' ⟨rfl,hat⟩))
   go_end0
   exact⟨_,rfl,by assumption⟩
  ·rw[HL.out] at hy
   by_cases hkb:(Res.ok s').kind=64
   ·rw[if_pos hkb] at hy
    obtain rfl:=Option.some.inj hy
    go_wp2_with (first|(go_at_call 57;first|(refine(ckind_is ‹_› ‹_›).mono ?_;rintro e w' ⟨rfl,hat⟩)|(refine(ckind_at ‹_›).mono ?_;rintro e w' ⟨rfl,hat⟩))|(go_at_call 33;refine(cexpect_at ‹_› _ (by first|assumption|exact Lib.hid rfl)).mono ?_;rintro e w' ⟨rfl,hat⟩))
    go_end0
    exact⟨_,rfl,by assumption⟩
   ·rw[if_neg hkb,bind_iff] at hy
    obtain⟨u,hu,hy⟩:=hy
    have hno64:((Res.ok s').kind == 64)=false:=beq_eq_false_iff_ne.2 hkb
    by_cases h15:u.kind=15
    ·rw[if_pos (.inl h15),bind_iff] at hy
     obtain⟨v1,hv1,hy⟩:=hy
     replace hy:=Lib.hid hy
     go_wp2_with (first|(go_at_call 57;first|(refine(ckind_is ‹_› ‹_›).mono ?_;rintro e w' ⟨rfl,hat⟩)|(refine(ckind_at ‹_›).mono ?_;rintro e w' ⟨rfl,hat⟩))|(go_at_call 83;first|(refine(ccame_yes ‹_› ‹_› ‹_›).mono ?_;rintro e w' ⟨rfl,hat⟩)|(refine(ccame_no ‹_› ?hno).mono ?_;(case hno=>first|assumption|rfl|simp [*]);rintro e w' ⟨rfl,hat⟩))|((with_reducible refine(HG.out _ ?hk _ _ _ ‹_› ‹_›).mono ?_);(case hk=>omega);rintro e w' ⟨v,rfl,hat⟩))
     go_roundw
     case rel=>exact(Mq.less (by omega) ‹_› ‹_› hq).1
     case measure=>exact(Mq.less (n:=n) (by omega) ‹_› ‹_› hq).2
    ·by_cases h16:u.kind=16
     ·rw[if_pos (.inr h16),bind_iff] at hy
      obtain⟨v1,hv1,hy⟩:=hy
      replace hy:=Lib.hid hy
      go_wp2_with (first|(go_at_call 57;first|(refine(ckind_is ‹_› ‹_›).mono ?_;rintro e w' ⟨rfl,hat⟩)|(refine(ckind_at ‹_›).mono ?_;rintro e w' ⟨rfl,hat⟩))|(go_at_call 83;first|(refine(ccame_yes ‹_› ‹_› ‹_›).mono ?_;rintro e w' ⟨rfl,hat⟩)|(refine(ccame_no ‹_› ?hno).mono ?_;(case hno=>first|assumption|rfl|simp [*]);rintro e w' ⟨rfl,hat⟩))|((with_reducible refine(HG.out _ ?hk _ _ _ ‹_› ‹_›).mono ?_);(case hk=>omega);rintro e w' ⟨v,rfl,hat⟩))
      go_roundw
      case rel=>exact(Mq.less (by omega) ‹_› ‹_› hq).1
      case measure=>exact(Mq.less (n:=n) (by omega) ‹_› ‹_› hq).2
     ·rw[if_neg (by rintro(h|h);exact h15 h;exact h16 h)] at hy
      obtain rfl:=Option.some.inj hy
      go_wp2_with (first|(go_at_call 57;first|(refine(ckind_is ‹_› ‹_›).mono ?_;rintro e w' ⟨rfl,hat⟩)|(refine(ckind_at ‹_›).mono ?_;rintro e w' ⟨rfl,hat⟩))|(go_at_call 83;first|(refine(ccame_yes ‹_› ‹_› ‹_›).mono ?_;rintro e w' ⟨rfl,hat⟩)|(refine(ccame_no ‹_› ?hno).mono ?_;(case hno=>first|assumption|rfl|simp [*]);rintro e w' ⟨rfl,hat⟩))|((with_reducible refine(HG.out _ ?hk _ _ _ ‹_› ‹_›).mono ?_);(case hk=>omega);rintro e w' ⟨v,rfl,hat⟩)|(go_at_call 33;refine(cexpect_at ‹_› _ (by first|assumption|exact Lib.hid rfl)).mono ?_;rintro e w' ⟨rfl,hat⟩))
      go_end0
      exact⟨_,rfl,by assumption⟩
end Go.Proofs.YtcekbbkidipbnaaGreat.rd
