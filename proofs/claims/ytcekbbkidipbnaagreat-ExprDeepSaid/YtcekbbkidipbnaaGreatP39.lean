/-
  Texts put together: Gk, Gl, Gm, Gn, Ha, Hb.
-/
import Derived.Test.YtcekbbkidipbnaaGreatP38
import Derived.Shelf.Abstract
set_option maxRecDepth 100000
set_option maxHeartbeats 8000000
namespace Go.Proofs.YtcekbbkidipbnaaGreat.rd
open Go.RowKit
theorem zmn {W:World} {b:Nat} {vL vS vR:Value} {σ:Rc} (h:RcAt W b vL vS vR σ) (hf:σ.failed=true) (m k:Int) :
  Calls Tryz.prog 37 #[.pointer (some ⟨b,0,none⟩),.int .i64 m,.int .i64 k] W (CSteps W b vL vS vR σ):=by
 have HRD:=Lib.hid h
 obtain⟨⟨_,_,_,_,_,_,_,_,_,b9⟩,_⟩:=zfV h.cells
 rw[hf] at b9
 clear h hf
 go_enter Tryz.func37,Tryz.ntmps37
 go_wp2_with fail
 go_end0
 exact⟨_,vR,rfl,HRD.out,Nx.refl _ _ _ _⟩
theorem ztY {W:World} {b:Nat} {vL vS vR:Value} {σ:Rc} (h:RcAt W b vL vS vR σ) (hf:σ.failed=true) :
  Calls Tryz.prog 35 #[.pointer (some ⟨b,0,none⟩)] W (CSteps W b vL vS vR σ):=by
 have HRD:=Lib.hid h
 obtain⟨⟨_,_,_,_,_,_,_,_,_,b9⟩,_⟩:=zfV h.cells
 rw[hf] at b9
 clear h hf
 go_enter Tryz.func35,Tryz.ntmps35
 go_wp2_with fail
 go_end0
 exact⟨_,vR,rfl,HRD.out,Nx.refl _ _ _ _⟩
theorem ziL {N:Nat} {w:World} {D:Nat→Prop} {σ:Rc} {x:Res} (hi:CIs N w D σ x):σ.R.length+σ.L.length≤549755813889:=by
 cases x with
 |fail a b c=>exact hi.2.2.2.2.2.1
 |ok s=>
  obtain⟨h1,h2,h3,h4,h5,h6,h7,h8,h9⟩:=hi
  have:=h4.length
  rw[List.length_map] at this
  rw[h2];omega
theorem zut {q:Nat} {u:St} {m:Int} (hm:(q:Int)≤m) (h:q≤u.R.length):q≤u.mark m:=by
 unfold St.mark
 have:q≤clamp m u.R.length:=by unfold clamp;omega
 omega
def CAtD (C:Kc) (w:World) (b:Nat) (x:Res) (D:Nat→Prop) (N:Nat) (L:List Tk) (vL vS:Value):Prop:=∃ vR σ,RcAt w b vL vS vR σ∧Own C.k w b vR (.slice none 0 0) D∧CIs C.low w D σ x∧σ.R.length≤N∧σ.L=L
theorem zlX {C:Kc} {w:World} {b:Nat} {x y:Res} {D:Nat→Prop} {N:Nat} {L:List Tk} {vL vS:Value} (m m' k:Int) (h:CAtD C w b x D N L vL vS) (hm:x.bad=false→m=m') (hlo:x.bad=false→(C.low:Int)≤m') (hy:Hid (rClose m' k x=some y)) :
  Calls Tryz.prog 37 #[.pointer (some ⟨b,0,none⟩),.int .i64 m,.int .i64 k] w fun e w'=>∃ v D',e=.returned v∧(∀ g,D g→D' g)∧CAtD C w' b y D' (N+1) L vL vS:=by
 obtain⟨vR,σ,hr,ho,hi,hN,hL⟩:=h
 have hf1:=ziL hi
 have hy:=hy.out
 cases x with
 |fail a0 a1 a2=>
  cases hy
  refine(zmn hr hi.1 m k).mono ?_
  rintro e w' ⟨v,vR',rfl,hr',hn⟩
  exact⟨_,D,rfl,fun _ h=>h,vR',σ,hr',ho.step hn,hi,by omega,hL⟩
 |ok s=>
  have hm:=hm rfl
  subst hm
  have hlo:=hlo rfl
  obtain⟨h1,h2,h3,h4,h5,h6,h7,h8,h9,h10⟩:=hi
  have hl:=h4.length
  rw[List.length_map] at hl
  have hlm:C.low≤s.mark m:=zut hlo h10
  refine(zrZ hr m k h1 zdC (fun x hx=>by have:=h7 x.h (by rw[← h5];exact List.mem_map_of_mem hx);omega)).mono ?_
  rintro e w' ⟨v,vR',ok,ck,rfl,hr',hn,hk,hk'⟩
  have hM:clampR m σ.R.length+lead ((σ.R.drop (clampR m σ.R.length)).map Bn.rn)=s.mark m:=by
   unfold St.mark
   rw[show clampR m σ.R.length=clamp m s.R.length by rw[hl];rfl,List.map_drop,zkH (h4.drop _)]
  rw[hM] at hr' hk hk'
  have hhere:σ.here=s.here:=zpq h2 h3
  simp only[List.map_drop] at hr' hk
  rw[hhere,znh _ (h4.drop _),zrc _ (h4.drop _),h5] at hr'
  have hmle:s.mark m≤s.R.length:=by
   rw[← hM]
   have:=zlf ((σ.R.drop (clampR m σ.R.length)).map Bn.rn)
   rw[List.length_map,List.length_drop] at this
   have h0:clampR m σ.R.length≤σ.R.length:=by unfold clampR;omega
   omega
  have hY:chk (if 100<highOf 1 (s.H.drop (s.mark m)) then s.fail 202 else .ok (s.closed (s.mark m) k))=some y:=hy
  generalize s.mark m=M at *
  clear hy hM
  have hO1:=ho.step hn
  have hT:Ties w' D s.R (σ.R.map Bn.rn):=ho.ties hn h4
  obtain⟨D',hD'⟩:∃ D':Nat→Prop,D'=fun g=>D g∨(Value.slice ok (σ.R.drop M).length ck).ownBlock=some g:=⟨_,rfl⟩
  have hO:Own C.k w' b vR' (.slice none 0 0) D':=⟨hO1.os,hO1.tape,hO1.output,hO1.size,hO1.kept,fun g hg=>by
   rw[hD'] at hg
   rcases hg with hg|hg
   ·exact hO1.dead g hg
   ·obtain⟨c1,c2⟩:=hk' g hg
    refine⟨hk.lt g hg,c1,c2,by simp [Value.ownBlock],?_⟩
    exact zcu⟩
  have hT2:Ties w' D' s.R (σ.R.map Bn.rn):=Ties.keep (fun _ _=>rfl) (fun g hg=>by rw[hD'];exact .inl hg) _ _ hT
  have hlen:=(hT2.drop M).length
  have hlen':(σ.R.drop M).length=(s.R.drop M).length:=by rw[List.length_drop,List.length_drop,hl]
  have hTie:Tie w' D' (.mk k (fromOf s.here (s.R.drop M)) (toOf s.here (s.R.drop M)) (s.R.drop M)) ⟨k,fromOf s.here (s.R.drop M),toOf s.here (s.R.drop M),ok,(σ.R.drop M).length,ck⟩:=by
   obtain⟨g,off,o,cap,hc,hv,ho',hcell⟩:=hk.row
   simp only[Value.slice.injEq] at hv
   obtain⟨rfl,_,rfl⟩:=hv
   rw[Tie]
   refine⟨rfl,rfl,rfl,hlen',g,off,(σ.R.map Bn.rn).drop M,⟨by rw[hlen',← hlen];exact hc,by rw[List.length_drop];omega⟩,fun hne=>?_,hcell,hT2.drop M⟩
   exact zcr
  have hR:Ties w' D' (s.closed M k).R ((σ.R.take M ++ [(⟨k,fromOf s.here (s.R.drop M),toOf s.here (s.R.drop M),ok,(σ.R.drop M).length,ck,hiFrom 1 (s.H.drop M)⟩:Bn)]).map Bn.rn):=by
   rw[List.map_append,List.map_take]
   exact(hT2.take M).append (Ties.cons hTie Ties.nil)
  have hge:=znI (s.H.drop M) 1
  have hlR2:∀ N:Bn,(σ.R.take M ++ [N]).length=M+1:=fun N=>by
   exact zcJ
  refine⟨v,D',rfl,fun g hg=>by rw[hD'];exact .inl hg,vR',_,hr',hO,?_,?_,?_⟩
  rotate_left
  ·unfold Rc.close
   split
   ·rw[Rc.fail_not (σ:=σ.closed M _) h1]
    show(σ.R.take M ++ _).length≤_
    rw[hlR2];omega
   ·show(σ.R.take M ++ _).length≤_
    rw[hlR2];omega
  ·unfold Rc.close
   split
   ·rw[Rc.fail_not (σ:=σ.closed M _) h1];exact hL
   ·exact hL
  unfold Rc.close
  by_cases hb:100<highOf 1 (s.H.drop M)
  ·rw[if_pos hb] at hY
   rw[if_pos (by show 100<hiFrom 1 (s.H.drop M);exact hb)]
   cases zgA hY
   rw[Rc.fail_not (σ:=σ.closed M _) h1]
   have hp:∀ N:Bn,(σ.closed M N).piece=s.piece:=fun N=>zqK h2 h3
   exact⟨rfl,rfl,by show Prod.fst _=_;rw[hp],by show Prod.snd _=_;rw[hp],by show σ.op≤100;omega,by show(σ.R.take M ++ _).length+σ.L.length≤_;rw[hlR2,h2];omega,by show C.low≤(σ.R.take M ++ _).length;rw[hlR2];omega⟩
  ·rw[if_neg hb] at hY
   rw[if_neg (by show ¬ 100<hiFrom 1 (s.H.drop M);exact hb)]
   obtain⟨rfl,hz⟩:=zgg hY
   refine⟨h1,h2,h3,hR,?_,h6,?_,h8,hz,?_⟩
   ·show(σ.R.take M ++ [_]).map Bn.h=s.H.take M ++ [highOf 1 (s.H.drop M)]
    rw[List.map_append,List.map_take,h5]
    rfl
   ·intro x hx
    rcases List.mem_append.1 hx with hx|hx
    ·exact h7 x (List.mem_of_mem_take hx)
    ·rw[List.mem_singleton] at hx
     subst hx
     have:hiFrom 1 (s.H.drop M)=highOf 1 (s.H.drop M):=rfl
     omega
   ·show C.low≤(s.R.take M ++ _).length
    rw[List.length_append,List.length_take]
    omega
def CCloseC:Prop:=∀ (C:Kc) (w:World) (b:Nat) (x y:Res) (m m' k:Int),Hid (CAt C w b x)→(x.bad=false→m=m')→(x.bad=false→(C.low:Int)≤m')→Hid (rClose m' k x=some y)→Calls Tryz.prog 37 #[.pointer (some ⟨b,0,none⟩),.int .i64 m,.int .i64 k] w (CPost C b y)
theorem zfP:CCloseC:=by
 intro C w b x y m m' k h hm hlo hy
 obtain⟨vL,vS,vR,σ,D,hr,ho,hi⟩:=h.out
 refine(zlX m m' k ⟨vR,σ,hr,ho,hi,Nat.le_refl _,rfl⟩ hm hlo hy).mono ?_
 rintro e w' ⟨v,D',rfl,_,vR',σ',hr',ho',hi',_,_⟩
 exact⟨v,rfl,Lib.hid ⟨vL,vS,vR',σ',D',hr',ho',hi'⟩⟩
section
variable {C:Kc} {w:World} {b:Nat} {x y:Res}
theorem zjg (h:Hid (CAt C w b x)) (hy:Hid (rNone x=some y)):Calls Tryz.prog 35 #[.pointer (some ⟨b,0,none⟩)] w (CPost C b y):=by
 obtain⟨vL,vS,vR,σ,D,hr,ho,hi⟩:=h.out
 have hf1:=ziL hi
 have hy:=hy.out
 cases x with
 |fail a0 a1 a2=>
  cases hy
  exact(ztY hr hi.1).mono fun e w' hs=>CPost.of ho hs fun vR' hn=>hi
 |ok s=>
  obtain⟨rfl,hz⟩:=zgg hy
  obtain⟨h1,h2,h3,h4,h5,h6,h7,h8,h9,h10⟩:=hi
  refine(zsO hr h1 zdC).mono fun e w' hs=>CPost.of ho hs fun vR' hn=>?_
  rw[zpq h2 h3]
  refine⟨h1,h2,h3,?_,?_,h6,?_,h8,hz,by show C.low≤(s.R ++ _).length;rw[List.length_append];omega⟩
  ·show Ties w' D (s.R ++ [_]) ((σ.R ++ [_]).map Bn.rn)
   rw[List.map_append]
   exact(ho.ties hn h4).append (Ties.cons (zhT _ _ _ _ _) Ties.nil)
  ·show(σ.R ++ [_]).map Bn.h=s.H ++ [0]
   rw[List.map_append,h5]
   rfl
  ·intro x hx
   rcases List.mem_append.1 hx with hx|hx
   ·exact h7 x hx
   ·rw[List.mem_singleton.1 hx]
    omega
theorem zpg (l:List Tk):(l.map leafB).map Bn.rn=l.map leaf:=by rw[List.map_map];rfl
theorem zvT (l:List Tk):(l.map leafB).map Bn.h=List.replicate l.length 0:=by
 induction l with
 |nil=>rfl
 |cons a l ih=>rw[List.map_cons,List.map_cons,ih];rfl
theorem zuV {N:Nat} {D:Nat→Prop} {σ:Rc} {s:St} {w':World} (h:CIs N w D σ (.ok s)) (hk:Ties w' D s.R (σ.R.map Bn.rn)) (hy:s.take.R.length+s.L.length≤549755813888):CIs N w' D σ.take (.ok s.take):=by
 have ha:σ.ahead 0=s.ahead 0:=zmF h 0
 obtain⟨h1,h2,h3,h4,h5,h6,h7,h8,h9⟩:=h
 have hnx:σ.next 0=s.next 0:=by unfold Rc.next St.next;rw[h2,h3]
 unfold Rc.take
 unfold St.take at hy ⊢
 rw[ha]
 split
 ·exact⟨h1,h2,h3,hk,h5,h6,h7,h8,h9⟩
 ·rw[if_neg ‹_›] at hy
  rename_i hne
  have hlt:s.next 0<s.L.length:=by
   exact zcS
  have hge:s.at'≤s.next 0:=Nat.le_add_right _ _
  rw[hnx,h3]
  unfold St.run
  unfold St.run at hy
  refine⟨h1,h2,by show s.next 0+1=s.at'+(s.next 0+1 - s.at');omega,?_,?_,h6,?_,h8,hy,by show N≤(s.R ++ _).length;have:=h9.2;rw[List.length_append];omega⟩
  ·show Ties w' D (s.R ++ _) ((Rl σ s.at' _).map Bn.rn)
   rw[Rl,h2,List.map_append,zpg]
   exact hk.append (zhQ _ _ _)
  ·show(Rl σ s.at' _).map Bn.h=s.H ++ _
   rw[Rl,h2,List.map_append,h5,zvT,List.length_take,List.length_drop,Nat.min_eq_left zdC]
  ·intro x hx
   rcases List.mem_append.1 hx with hx|hx
   ·exact h7 x hx
   ·rw[(List.mem_replicate.1 hx).2]
    omega
theorem zwU (s:St):s.take.L=s.L:=by unfold St.take;split <;> rfl
theorem Rc.take_failed {σ:Rc} (h:σ.failed=true):σ.take=σ:=by unfold Rc.take Rc.ahead;rw[h,if_pos rfl,if_pos rfl]
theorem zfZ (h:Hid (CAt C w b x)) (hy:Hid (rTake x=some y)):Calls Tryz.prog 31 #[.pointer (some ⟨b,0,none⟩)] w (CPost C b y):=by
 obtain⟨vL,vS,vR,σ,D,hr,ho,hi⟩:=h.out
 have hf1:=ziL hi
 refine(ztI hr zdC).mono fun e w' hs=>CPost.of ho hs fun vR' hn=>?_
 have hy:=hy.out
 cases x with
 |fail a b c=>
  cases hy
  rw[Rc.take_failed hi.1]
  exact hi
 |ok s=>
  obtain⟨rfl,hz⟩:=zgg hy
  rw[zwU] at hz
  exact zuV hi (ho.ties hn hi.2.2.2.1) hz
end
open Go.RowKit
theorem ztB {W:World} {b:Nat} {vL vS vR:Value} {σ:Rc} (h:RcAt W b vL vS vR σ) (hfew:σ.R.length≤1099511627776) :
  Calls Tryz.prog 63 #[.pointer (some ⟨b,0,none⟩)] W fun e w'=>e=.returned (.int .i64 (if σ.failed then 0 else match σ.R.getLast? with|some t=>t.k|none=>0))∧Below W.heap.size W w':=by
 obtain⟨⟨_,_,_,_,b4,_,_,_,_,b9⟩,_⟩:=zfV h.cells
 cases hf:σ.failed with
 |true=>
  rw[hf] at b9
  rw[if_pos rfl]
  clear h hf
  go_enter Tryz.func63,Tryz.ntmps63
  exact zby
 |false=>
  rw[hf] at b9
  rw[if_neg zdF]
  obtain⟨g,o,cap,hv,ho,_⟩:=h.row.shape
  subst hv
  by_cases hl:σ.R.length=0
  ·have hn:σ.R=[]:=List.eq_nil_of_length_eq_zero hl
   rw[hn] at b4 ⊢
   clear h hf ho hn hl hfew
   simp only[List.length_nil] at b4
   go_enter Tryz.func63,Tryz.ntmps63
   exact zby
  ·have hne:σ.R≠[]:=fun e=>hl (by rw[e];rfl)
   have ho':=ho hne
   subst ho'
   have hlt:σ.R.length - 1<σ.R.length:=by omega
   have c0:=(zje h.row.cells _ hlt).1
   rw[List.getLast?_eq_getElem?,List.getElem?_eq_getElem hlt]
   simp only[]
   generalize (σ.R[σ.R.length - 1]).k=z at *
   rw[Nat.zero_add] at c0
   obtain⟨len,hlen⟩:∃ len,σ.R.length=len:=⟨_,rfl⟩
   rw[hlen] at c0 b4 hl hfew
   obtain⟨q,rfl⟩:∃ q,len=q+1:=⟨len - 1,by omega⟩
   rw[Nat.add_sub_cancel] at c0
   have hd:decide (((q+1:Nat):Int)=0)=false:=decide_eq_false zdC
   have hd2:(((q+1:Nat):Int) == 0)=false:=beq_eq_false_iff_ne.2 zdC
   have hq0:(0:Int)≤((q+1:Nat):Int) - 1:=by omega
   have hq1:((q+1:Nat):Int) - 1<((q+1:Nat):Int):=by omega
   have hq2:(((q+1:Nat):Int) - 1).toNat=q:=by omega
   have hq3:((q+1:Nat):Int) - 1=(q:Int):=by omega
   clear h hf ho hne hl hlt hlen
   go_enter Tryz.func63,Tryz.ntmps63
   go_wp2_with fail
   go_region
   all_goals(try go_wp2_with fail)
   all_goals go_ret
   all_goals exact⟨rfl,(Below.refl _ _).drew⟩
def Res.last (x:Res):Int:=match x with|.ok s=>s.last|.fail _ _ _=>0
section
variable {C:Kc} {w:World} {b:Nat} {x y:Res}
theorem zhe (h:Hid (CAt C w b x)):Calls Tryz.prog 63 #[.pointer (some ⟨b,0,none⟩)] w fun e w'=>e=.returned (.int .i64 x.last)∧Hid (CAt C w' b x):=by
 obtain⟨vL,vS,vR,σ,D,hr,ho,hi⟩:=h.out
 have hf1:=ziL hi
 refine(ztB hr zdC).mono ?_
 rintro e w' ⟨rfl,hb⟩
 refine⟨?_,CAt.below h hb⟩
 cases x with
 |fail a0 a1 a2=>rw[hi.1,if_pos rfl];rfl
 |ok s=>
  obtain⟨h1,h2,h3,h4,_⟩:=hi
  rw[h1,if_neg zdF]
  have hl:=h4.length
  rw[List.length_map] at hl
  have:(match σ.R.getLast? with|some t=>t.k|none=>0)=s.last:=by
   unfold St.last
   rw[List.getLast?_eq_getElem?,List.getLast?_eq_getElem?,hl]
   cases hq:s.R[s.R.length - 1]? with
   |none=>
    rw[List.getElem?_eq_none_iff] at hq
    rw[List.getElem?_eq_none zdC]
   |some t=>
    obtain⟨N,a1,a2⟩:=zht h4 _ _ hq
    rw[List.getElem?_map] at a1
    cases hb:σ.R[s.R.length - 1]? with
    |none=>rw[hb] at a1;cases a1
    |some B=>
     rw[hb] at a1
     simp only[Option.map_some,Option.some.injEq] at a1
     have:=a2.k
     rw[← a1] at this
     exact this
  show Ending.returned (.int .i64 _)=.returned (.int .i64 s.last)
  rw[this]
theorem zfO (h:Hid (CAt C w b x)) (k:Int) (hy:Hid (rExpect k x=some y)):Calls Tryz.prog 33 #[.pointer (some ⟨b,0,none⟩),.int .i64 k] w (CPostB C b y (!y.bad)):=by
 have hcase:(k≠0∧x.kind=k∧Hid (rTake x=some y)∧y.bad=false)∨(k=0∧Hid (rFail 201 x=some y)∧y.bad=true)∨(k≠0∧x.kind≠k∧Hid (rFail 201 x=some y)∧y.bad=true):=by
  have hy:=hy.out
  cases x with
  |fail a0 a1 a2=>
   cases hy
   by_cases hk:k=0
   ·exact .inr (.inl ⟨hk,Lib.hid rfl,rfl⟩)
   ·exact .inr (.inr ⟨hk,fun e=>hk (by rw[← e];rfl),Lib.hid rfl,rfl⟩)
  |ok s=>
   unfold rExpect lift St.expect at hy
   simp only[] at hy
   by_cases hk:k≠0∧s.ahead 0=k
   ·rw[if_pos hk] at hy
    obtain⟨rfl,_⟩:=zgg hy
    exact .inl ⟨hk.1,hk.2,Lib.hid hy,rfl⟩
   ·rw[if_neg hk] at hy
    cases zgA hy
    by_cases hk0:k=0
    ·exact .inr (.inl ⟨hk0,Lib.hid hy,rfl⟩)
    ·exact .inr (.inr ⟨hk0,fun e=>hk ⟨hk0,e⟩,Lib.hid hy,rfl⟩)
 clear hy
 rcases hcase with⟨hk,hx,hy,hb⟩|⟨hk,hy,hb⟩|⟨hk,hx,hy,hb⟩
 ·have hk1:decide (k=0)=false:=decide_eq_false hk
  have hk2:(k == 0)=false:=beq_eq_false_iff_ne.2 hk
  rw[hb]
  clear hb
  go_enter Tryz.func33,Tryz.ntmps33
  exact zbs
 ·subst hk
  rw[hb]
  clear hb
  go_enter Tryz.func33,Tryz.ntmps33
  go_wp2_with (go_at_call 45;refine(zgu ‹_› _ hy).mono ?_;rintro e w' ⟨v,rfl,hat⟩)
  go_ret
  exact⟨rfl,by assumption⟩
 ·have hk1:decide (k=0)=false:=decide_eq_false hk
  have hk2:(k == 0)=false:=beq_eq_false_iff_ne.2 hk
  have hx1:(x.kind == k)=false:=beq_eq_false_iff_ne.2 hx
  have hx2:decide (x.kind=k)=false:=decide_eq_false hx
  rw[hb]
  clear hb
  go_enter Tryz.func33,Tryz.ntmps33
  go_wp2_with (first|(go_at_call 57;refine(zfH ‹_›).mono ?_;rintro e w' ⟨rfl,hat⟩)|(go_at_call 45;refine(zgu ‹_› _ hy).mono ?_;rintro e w' ⟨v,rfl,hat⟩))
  go_ret
  exact⟨rfl,by assumption⟩
theorem zfX (h:Hid (CAt C w b x)) {k:Int} (hk:x.kind=k) (hy:Hid (rTake x=some y)):Calls Tryz.prog 83 #[.pointer (some ⟨b,0,none⟩),.int .i64 k] w (CPostB C b y true):=by
 go_enter Tryz.func83,Tryz.ntmps83
 go_wp2_with (first|(go_at_call 57;refine(zfI ‹_› hk).mono ?_;rintro e w' ⟨rfl,hat⟩)|(go_at_call 31;refine(zfZ ‹_› hy).mono ?_;rintro e w' ⟨v,rfl,hat⟩))
 go_ret
 exact⟨rfl,by assumption⟩
theorem zgb (h:Hid (CAt C w b x)) {k:Int} (hk:(x.kind == k)=false):Calls Tryz.prog 83 #[.pointer (some ⟨b,0,none⟩),.int .i64 k] w (CPostB C b x false):=by
 have hk1:decide (x.kind=k)=false:=decide_eq_false (beq_eq_false_iff_ne.1 hk)
 go_enter Tryz.func83,Tryz.ntmps83
 go_wp2_with (go_at_call 57;refine(zfH ‹_›).mono ?_;rintro e w' ⟨rfl,hat⟩)
 go_ret
 exact⟨rfl,by assumption⟩
end
theorem zhX (z:Int) (w:World):Calls Tryz.prog 114 #[.int .i64 z] w fun e w'=>e=.returned (.int .i64 (precOf z))∧w=w':=by
 go_enter Tryz.func114,Tryz.ntmps114
 go_wp2_with fail
 all_goals
  go_ret
  refine⟨?_,rfl⟩
  simp_all [precOf]
open Go.RowKit
theorem CAt.kept {C:Kc} {w:World} {b:Nat} {x:Res} (h:CAt C w b x) (k:Nat) (hk:C.k.K k):w.heap[k]? = C.k.W.heap[k]? ∧ k<C.k.W.heap.size:=by
 obtain⟨vL,vS,vR,σ,D,hr,ho,hi⟩:=h
 exact⟨(ho.kept k hk).2.2.2.2,(ho.kept k hk).1⟩
theorem CAt.size {C:Kc} {w:World} {b:Nat} {x:Res} (h:CAt C w b x):C.k.W.heap.size≤w.heap.size:=by
 obtain⟨vL,vS,vR,σ,D,hr,ho,hi⟩:=h
 exact ho.size
theorem CAt.at {C:Kc} {w:World} {b:Nat} {x:Res} (h:CAt C w b x):b<w.heap.size:=by
 obtain⟨vL,vS,vR,σ,D,hr,ho,hi⟩:=h
 exact(Array.getElem?_eq_some_iff.1 hr.cells).1
theorem CAt.rebase {C C':Kc} {w w':World} {b:Nat} {x:Res} (h:CAt C w b x) (hsize:w.heap.size≤w'.heap.size)
  (hsame:∀ k,k<w.heap.size→w'.heap[k]? = w.heap[k]? ∨ (C.k.K k∧∃ cur e fz,w.heap[k]? = some (.cells cur e fz)∧e≠tk.e∧e≠nd.e∧e≠it.e))
  (hW:C'.k.W=w') (hK:∀ k,C'.k.K k→k<w'.heap.size∧(C.k.K k∨w.heap.size≤k)) (hL:C'.low=C.low):CAt C' w' b x:=by
 obtain⟨vL,vS,vR,σ,D,hr,ho,hi⟩:=h
 have hbz:b<w.heap.size:=(Array.getElem?_eq_some_iff.1 hr.cells).1
 have hof:∀ k,k<w.heap.size→¬ C.k.K k→w'.heap[k]? = w.heap[k]?:=fun k hk hn=>by
  rcases hsame k hk with h|h
  ·exact h
  ·exact absurd h.1 hn
 have hdd:∀ k,D k→w'.heap[k]? = w.heap[k]?:=fun k hk=>by
  obtain⟨a1,_,_,_,cur,fz,a5⟩:=ho.dead k hk
  rcases hsame k a1 with h|⟨_,cur',e,fz',h,_,hne,_⟩
  ·exact h
  ·rw[a5] at h
   exact zca
 have hT:Mine tk w' 0 vL σ.L:=by
  exact zbF
 have hS:Mine it w' 0 vS (sigP 0 σ.L):=by
  refine hr.sigs.keep (fun k hk hz=>?_)
  rcases hsame k hz with h|⟨_,cur,e,fz,h,_,_,hne⟩
  ·exact h
  ·exfalso
   rcases hr.sigs.2 with⟨hv,_⟩|⟨q,cap,cur',hv,hq,hh,_⟩
   ·rw[hv] at hk;cases hk
   ·rw[hv] at hk
    simp only[Value.ownBlock,Option.some.injEq] at hk
    subst hk
    rw[hh] at h
    simp only[Option.some.injEq,Obj.cells.injEq] at h
    exact hne h.2.1.symm
 refine⟨vL,vS,vR,σ,D,⟨?_,hT,hS,?_,hr.read,hr.few⟩,?_,?_⟩
 ·rw[hof b hbz (fun hc=>(ho.kept b hc).2.1 rfl)];exact hr.cells
 ·exact hr.row.keep (fun k hk hz=>hof k hz (fun hc=>(ho.kept k hc).2.2.1 hk))
 ·refine⟨by rw[hW],by rw[hW],by rw[hW],by rw[hW];exact Nat.le_refl _,fun k hk=>?_,fun k hk=>?_⟩
  ·obtain⟨h1,h2⟩:=hK k hk
   rcases h2 with h2|h2
   ·obtain⟨_,a2,a3,a4,_⟩:=ho.kept k h2
    exact⟨by rw[hW];exact h1,a2,a3,a4,by rw[hW]⟩
   ·exact⟨by rw[hW];exact h1,by omega,fun e=>by have:=hr.row.lt k e;omega,by simp [Value.ownBlock],by rw[hW]⟩
  ·obtain⟨a1,a2,a3,a4,a5⟩:=ho.dead k hk
   exact zdn
 ·cases x with
  |fail a b c=>rw[hL];exact hi
  |ok s=>
   rw[hL]
   exact zck
theorem CAt.back {C C1:Kc} {B:Nat} {w:World} {b:Nat} {x:Res} (he:Ext C.k C1.k B) (hL:C1.low=C.low) (h:CAt C1 w b x) (hz:∀ k,C.k.K k→k<C.k.W.heap.size):CAt C w b x:=by
 obtain⟨vL,vS,vR,σ,D,hr,ho,hi⟩:=h
 refine⟨vL,vS,vR,σ,D,hr,⟨ho.os.trans he.os,ho.tape.trans he.tape,ho.output.trans he.output,Nat.le_trans he.size ho.size,fun k hk=>?_,ho.dead⟩,by rw[← hL];exact hi⟩
 exact zdd
theorem Ext.startC {C:Kc} {w w':World} {b:Nat} {x:Res} (h:CAt C w b x) (hb:Below w.heap.size w w'):Ext C.k ⟨w',fun k=>C.k.K k∨(w.heap.size≤k∧k<w'.heap.size)⟩ w.heap.size∧CAt ⟨⟨w',fun k=>C.k.K k∨(w.heap.size≤k∧k<w'.heap.size)⟩,C.low⟩ w' b x:=by
 have h':=h
 obtain⟨vL,vS,vR,σ,D,hr,ho,hi⟩:=h'
 refine⟨⟨hb.os.trans ho.os,hb.tape.trans ho.tape,hb.output.trans ho.output,Nat.le_trans ho.size hb.size,⟨ho.size,hb.size⟩,fun k hk=>?_⟩,h.rebase hb.size (fun k hk=>.inl (hb.block k hk)) rfl (fun k hk=>?_) rfl⟩
 ·obtain⟨a1,_,_,_,a5⟩:=ho.kept k hk
  have:=ho.size
  exact⟨by omega,.inl hk,(hb.block k zdC).trans a5⟩
 ·rcases hk with hk|hk
  ·have:=(ho.kept k hk).1
   have:=ho.size
   have:=hb.size
   exact⟨by omega,.inl hk⟩
  ·exact⟨hk.2,.inr hk.1⟩
theorem CAt.boxed {C:Kc} {w w':World} {b:Nat} {x:Res} (h:Hid (CAt C w b x)) (hb:Below w.heap.size w w'):∃ C1:Kc,Hid (CAt C1 w' b x)∧(∀ k,w.heap.size≤k→k<w'.heap.size→∀ W' z,Hid (CAt C1 W' b z)→W'.heap[k]? = w'.heap[k]? ∧ k<W'.heap.size)∧(∀ W' z,Hid (CAt C1 W' b z)→Hid (CAt C W' b z)):=by
 obtain⟨h1,h2⟩:=Ext.startC h.out hb
 refine⟨_,Lib.hid h2,fun k hk hk2 W' z hz=>?_,fun W' z hz=>Lib.hid (CAt.back (C1:=⟨⟨w',fun k=>C.k.K k∨(w.heap.size≤k∧k<w'.heap.size)⟩,C.low⟩) h1 rfl hz.out (fun k hk=>(h.out.kept k hk).2))⟩
 have:=hz.out.kept k (.inr ⟨hk,hk2⟩)
 have hs:=hz.out.size
 exact⟨this.1,Nat.lt_of_lt_of_le hk2 hs⟩
theorem CAt.boxed1 {C:Kc} {w:World} {b:Nat} {x:Res} (h:Hid (CAt C w b x)) (v:Value) (t:TypeId):∃ C1:Kc,Hid (CAt C1 (w.alloc (.cells #[v] t)) b x)∧Hid (∀ W' z,Hid (CAt C1 W' b z)→W'.cell? ⟨w.heap.size,0,none⟩=some v)∧Hid (∀ W' z,Hid (CAt C1 W' b z)→Hid (CAt C W' b z)):=by
 obtain⟨C1,h1,h2,h3⟩:=CAt.boxed h ((Below.refl w.heap.size w).alloc (Nat.le_refl _) (.cells #[v] t))
 refine⟨C1,h1,Lib.hid (fun W' z hz=>?_),Lib.hid h3⟩
 have e:=(h2 w.heap.size (Nat.le_refl _) zeP W' z hz).1
 rw[heap_alloc_last] at e
 rw[cell_of_row W' _ 0 _ _ _ e]
 rfl
theorem zgs {C:Kc} {w:World} {b:Nat} {s:St} (h:Hid (CAt C w b (.ok s))):C.low≤s.R.length:=by
 obtain⟨vL,vS,vR,σ,D,hr,ho,hi⟩:=h.out
 exact hi.2.2.2.2.2.2.2.2.2
theorem zoi {C:Kc} {w:World} {b:Nat} {s:St} (h:Hid (CAt C w b (.ok s))):(C.low:Int)≤(s.R.length:Int):=Int.ofNat_le.2 (zgs h)
def CFun (C:Kc) (b f:Nat) (A:Array Value) (g:Res→Option Res):Prop:=∀ w x y,Hid (CAt C w b x)→Hid (g x=some y)→Calls Tryz.prog f A w (CPost C b y)
open Go.RowKit
theorem zgF {C:Kc} {w:World} {b f:Nat} {A B:Array Value} {g:Res→Option Res} {s:St} {z1 z2 y:Res} {k:Int} (hf:Enters Tryz.prog f) (hg:CFun C b f (A ++ B) g) (h:Hid (CAt C w b (.ok s))) (h1:Hid (rTake (.ok s)=some z1)) (h2:Hid (g z1=some z2)) (h3:Hid (rClose s.R.length k z2=some y)) :
  Calls Tryz.prog 73 #[.pointer (some ⟨b,0,none⟩),.int .i64 k,.func (.func f) A B] w (CPost C b y):=by
 unfold CFun at hg
 have HG:=Lib.hid hg
 clear hg
 unfold Enters at hf
 go_enter Tryz.func73,Tryz.ntmps73
 exact zaB
def Mp (C:Kc) (b:Nat) (y:Res) (p:Pc) (w:World) (k:Nat):Prop:=∃ x,Hid (CAt C w b x)∧Hid (run k p x=some y)
noncomputable def mpOf (C:Kc) (b:Nat) (y:Res) (p:Pc) (w:World):Nat:=least (Mp C b y p w)
def Mq (C:Kc) (b:Nat) (y:Res) (p:Pc) (n:Nat) (w:World):Prop:=∃ k,k≤n∧Mp C b y p w k
section
variable {C:Kc} {w:World} {b n:Nat} {x y:Res} {p:Pc}
theorem Mq.at (hat:Hid (CAt C w b x)) (h:Hid (run n p x=some y)):Mq C b y p n w:=⟨n,Nat.le_refl _,x,hat,h⟩
theorem Mq.out (h:Mq C b y p n w):(∃ d0 d1 d2,y=.fail d0 d1 d2∧Hid (CAt C w b (.fail d0 d1 d2)))∨∃ k s,k<n∧mpOf C b y p w=k+1∧Hid (CAt C w b (.ok s))∧run (k+1) p (.ok s)=some y:=by
 obtain⟨k,hk,hp⟩:=h
 obtain⟨⟨x,hat,hr⟩,hle⟩:=zgc hp
 have he:least (Mp C b y p w)=mpOf C b y p w:=rfl
 rw[he] at hr hle
 generalize mpOf C b y p w=q at *
 exact zbT
theorem Mq.less {k:Nat} {w0:World} (hk:k≤n) (hat:Hid (CAt C w b x)) (h:Hid (run k p x=some y)) (hq:mpOf C b y p w0=k+1):Mq C b y p n w∧mpOf C b y p w<mpOf C b y p w0:=
 ⟨⟨k,hk,x,hat,h⟩,by have h2:mpOf C b y p w≤k:=(zgc (P:=Mp C b y p w) ⟨x,hat,h⟩).2;omega⟩
end
def Lj (C:Kc) (b:Nat) (by':Int) (n:Nat) (y z:Res) (p:Pc) (v:Value) (w:World) (k:Nat):Prop:=∃ (c:Nat) (x:Res),v=.int .i64 (c:Int)∧1≤c∧c+k≤n+1∧Hid (CAt C w b x)∧Hid (run k p x=some y)∧(c=1→x=z)∧(c≠1→(z.kind == by')=true)
noncomputable def ljOf (C:Kc) (b:Nat) (by':Int) (n:Nat) (y z:Res) (p:Pc) (v:Value) (w:World):Nat:=least (Lj C b by' n y z p v w)
theorem Lj.least {C:Kc} {b n k:Nat} {by':Int} {y z:Res} {p:Pc} {v:Value} {w:World} (h:Lj C b by' n y z p v w k):Lj C b by' n y z p v w (ljOf C b by' n y z p v w)∧ljOf C b by' n y z p v w≤k:=zgc h
theorem zmv {C:Kc} {w:World} {b f n:Nat} {A B:Array Value} {g:Nat→Res→Option Res} {x z y:Res} {by':Int} {p:Pc} (hn:n≤1099511627776) (hf:Enters Tryz.prog f) (hg:∀ k,k≤n→CFun C b f (A ++ B) (g k)) (hb0:by'≠0)
  (hl:∀ k s,run (k+1) p (.ok s)=if (Res.ok s).kind=by' then(rTake (.ok s) >>= fun u=>g k u >>= fun v=>run k p v) else some (.ok s)) (h:Hid (CAt C w b x)) (h1:Hid (g n x=some z)) (h2:Hid (run n p z=some y)) :
  Calls Tryz.prog 84 #[.pointer (some ⟨b,0,none⟩),.int .i64 by',.func (.func f) A B] w fun e w'=>∃ c:Int,e=.returned (.int .i64 c)∧Hid (CAt C w' b y)∧(y.bad=false→decide (1<c)=(z.kind == by')):=by
 unfold CFun at hg
 have HG:=Lib.hid hg
 have HL:=Lib.hid hl
 have HB0:=Lib.hid hb0
 clear hg hl hb0
 unfold Enters at hf
 go_enter Tryz.func84,Tryz.ntmps84
 go_wp2_with ((with_reducible refine(HG.out _ ?hk _ _ _ ‹_› ‹_›).mono ?_);(case hk=>omega);rintro e w' ⟨v,rfl,hat⟩)
 go_loopw [7] (fun pv wr=>∃ k,Lj C b by' n y z p pv wr k) (fun pv wr=>ljOf C b by' n y z p pv wr)
 case atStart=>exact⟨n,1,z,rfl,by omega,by omega,by assumption,h2,fun _=>rfl,fun e=>absurd rfl e⟩
 case round=>
  clear h h1 h2
  obtain⟨k0,hlj⟩:=hrel
  obtain⟨c,x',rfl,hc1,hck,hat',hr,hi0,hi1⟩:=(hlj.least).1
  obtain⟨q,hq⟩:∃ q,ljOf C b by' n y z p (.int .i64 (c:Int)) wr=q:=⟨_,rfl⟩
  rw[hq] at hck hr
  have HQ:=Lib.hid hq
  have HI:=Lib.hid (And.intro hi0 hi1)
  clear hlj hq hi0 hi1
  cases x' with
  |fail d0 d1 d2=>
   have hk0:((Res.fail d0 d1 d2).kind == by')=false:=beq_eq_false_iff_ne.2 (fun e=>HB0.out e.symm)
   have hy:=hr.out
   rw[zfB] at hy
   obtain rfl:=Option.some.inj hy
   clear hy
   go_wp2_with (go_at_call 83;first|(refine(zfX ‹_› ‹_› ‹_›).mono ?_;rintro e w' ⟨rfl,hat⟩)|(refine(zgb ‹_› ?hno).mono ?_;(case hno=>first|assumption|rfl|simp [*]);rintro e w' ⟨rfl,hat⟩))
   go_ret
   exact⟨_,rfl,by assumption,fun h=>by cases h⟩
  |ok s=>
   cases q with
   |zero=>exact absurd hr.out zeC
   |succ k=>
    have hy:=hr.out
    rw[HL.out] at hy
    by_cases hkb:(Res.ok s).kind=by'
    ·rw[if_pos hkb,zfu] at hy
     obtain⟨u,hu,hy⟩:=hy
     rw[zfu] at hy
     obtain⟨v1,hv1,hy⟩:=hy
     replace hy:=Lib.hid hy
     have hc2:(c:Int)+1≤1099511627777:=by omega
     clear hr
     go_wp2_with (first|(go_at_call 83;first|(refine(zfX ‹_› ‹_› ‹_›).mono ?_;rintro e w' ⟨rfl,hat⟩)|(refine(zgb ‹_› ?hno).mono ?_;(case hno=>first|assumption|rfl|simp [*]);rintro e w' ⟨rfl,hat⟩))|((with_reducible refine(HG.out _ ?hk _ _ _ ‹_› ‹_›).mono ?_);(case hk=>omega);rintro e w' ⟨v,rfl,hat⟩))
     go_roundw
     case rel=>exact⟨k,c+1,v1,by go_num,by omega,by omega,by assumption,hy,fun e=>by omega,fun _=>by
      exact zdw⟩
     case measure=>
      have hL:Lj C b by' n y z p (.int .i64 ((c+1:Nat):Int)) w' k:=⟨c+1,v1,rfl,by omega,by omega,by assumption,hy,fun e=>by omega,fun _=>by
       exact zdw⟩
      have h3:=(hL.least).2
      have h4:=HQ.out
      have e1:((c+1:Nat):Int)=(c:Int)+1:=by omega
      rw[e1] at h3
      omega
    ·rw[if_neg hkb] at hy
     obtain rfl:=Option.some.inj hy
     have hno:((Res.ok s).kind == by')=false:=beq_eq_false_iff_ne.2 hkb
     clear hr hy
     go_wp2_with (go_at_call 83;first|(refine(zfX ‹_› ‹_› ‹_›).mono ?_;rintro e w' ⟨rfl,hat⟩)|(refine(zgb ‹_› ?hno).mono ?_;(case hno=>first|assumption|rfl|simp [*]);rintro e w' ⟨rfl,hat⟩))
     go_ret
     refine⟨_,rfl,by assumption,fun _=>?_⟩
     by_cases h1:c=1
     ·have:=HI.out.1 h1
      rw[← this,hno]
      subst h1
      rfl
     ·rw[HI.out.2 h1]
      exact decide_eq_true zdC
theorem ziJ {C:Kc} {w:World} {b f n:Nat} {A B:Array Value} {g:Nat→Res→Option Res} {x z y:Res} {p:Pc} (hf:Enters Tryz.prog f) (hg:∀ k,k≤n→CFun C b f (A ++ B) (g k))
  (hl:∀ k s,run (k+1) p (.ok s)=if (Res.ok s).kind=60 then(rTake (.ok s) >>= fun u=>if u.kind=63 then run k p u else g k u >>= fun v=>run k p v) else some (.ok s)) (h:Hid (CAt C w b x)) (h1:Hid (run n p x=some z)) (h2:Hid (rExpect 63 z=some y)) :
  Calls Tryz.prog 116 #[.pointer (some ⟨b,0,none⟩),.func (.func f) A B] w (CPost C b y):=by
 unfold CFun at hg
 have HG:=Lib.hid hg
 have HL:=Lib.hid hl
 clear hg hl
 unfold Enters at hf
 go_enter Tryz.func116,Tryz.ntmps116
 go_wp2_with fail
 go_loopw [] (fun wr=>Mq C b z p n wr) (fun wr=>mpOf C b z p wr)
 case atStart=>exact Mq.at ‹_› h1
 case round=>
  clear h h1
  rcases hrel.out with⟨d0,d1,d2,hu,hat⟩|⟨k,s',hk,hq,hat,hy⟩
  ·subst hu
   have hk0:((Res.fail d0 d1 d2).kind == 60)=false:=rfl
   exact zaB
  ·rw[HL.out] at hy
   by_cases hkb:(Res.ok s').kind=60
   ·rw[if_pos hkb,zfu] at hy
    obtain⟨u,hu,hy⟩:=hy
    by_cases hk63:u.kind=63
    ·rw[if_pos hk63] at hy
     replace hy:=Lib.hid hy
     exact zaR
    ·rw[if_neg hk63,zfu] at hy
     obtain⟨v1,hv1,hy⟩:=hy
     replace hy:=Lib.hid hy
     have hno63:(u.kind == 63)=false:=beq_eq_false_iff_ne.2 hk63
     exact zaR
   ·rw[if_neg hkb] at hy
    obtain rfl:=Option.some.inj hy
    have hno:((Res.ok s').kind == 60)=false:=beq_eq_false_iff_ne.2 hkb
    exact zaB
theorem znz {C:Kc} {w:World} {b f n:Nat} {A B:Array Value} {g:Nat→Res→Option Res} {x z1 z y:Res} {p:Pc} (hf:Enters Tryz.prog f) (hg:∀ k,k≤n→CFun C b f (A ++ B) (g k)) (hs:∀ k d0 d1 d2,g k (.fail d0 d1 d2)=some (.fail d0 d1 d2))
  (hl:∀ k s,run (k+1) p (.ok s)=if (Res.ok s).kind=64 then some (.ok s) else(g k (.ok s) >>= fun u=>if u.kind=15∨u.kind=16 then(rTake u >>= fun v=>run k p v) else some u)) (h:Hid (CAt C w b x)) (h0:Hid (rExpect 59 x=some z1)) (h1:Hid (run n p z1=some z)) (h2:Hid (rExpect 64 z=some y)) :
  Calls Tryz.prog 78 #[.pointer (some ⟨b,0,none⟩),.func (.func f) A B] w (CPost C b y):=by
 unfold CFun at hg
 have HG:=Lib.hid hg
 have HL:=Lib.hid hl
 have HS:=Lib.hid hs
 clear hg hl hs
 unfold Enters at hf
 go_enter Tryz.func78,Tryz.ntmps78
 go_wp2_with (go_at_call 33;refine(zfO ‹_› _ (by first|assumption|exact Lib.hid rfl)).mono ?_;rintro e w' ⟨rfl,hat⟩)
 go_loopw [] (fun wr=>Mq C b z p n wr) (fun wr=>mpOf C b z p wr)
 case atStart=>exact Mq.at ‹_› h1
 case round=>
  clear h h1 h0
  rcases hrel.out with⟨d0,d1,d2,hu,hat⟩|⟨k,s',hk,hq,hat,hy⟩
  ·subst hu
   have hk0:(Res.fail d0 d1 d2).kind=0:=rfl
   have hs0:Hid (g 0 (.fail d0 d1 d2)=some (.fail d0 d1 d2)):=Lib.hid (HS.out _ _ _ _)
   exact zaB
  ·rw[HL.out] at hy
   by_cases hkb:(Res.ok s').kind=64
   ·rw[if_pos hkb] at hy
    obtain rfl:=Option.some.inj hy
    exact zaB
   ·rw[if_neg hkb,zfu] at hy
    obtain⟨u,hu,hy⟩:=hy
    have hno64:((Res.ok s').kind == 64)=false:=beq_eq_false_iff_ne.2 hkb
    by_cases h15:u.kind=15
    ·rw[if_pos (.inl h15),zfu] at hy
     obtain⟨v1,hv1,hy⟩:=hy
     replace hy:=Lib.hid hy
     exact zaR
    ·by_cases h16:u.kind=16
     ·rw[if_pos (.inr h16),zfu] at hy
      obtain⟨v1,hv1,hy⟩:=hy
      replace hy:=Lib.hid hy
      exact zaR
     ·rw[if_neg (by rintro(h|h);exact h15 h;exact h16 h)] at hy
      obtain rfl:=Option.some.inj hy
      exact zaB
open Go.RowKit
def P0 (f n:Nat) (p:Pc):Prop:=∀ (C:Kc) (w:World) (b:Nat) (x y:Res),Hid (CAt C w b x)→Hid (run n p x=some y)→Calls Tryz.prog f #[.pointer (some ⟨b,0,none⟩)] w (CPost C b y)
def PB (f n:Nat) (p:Bool→Pc):Prop:=∀ (C:Kc) (w:World) (b:Nat) (x y:Res) (h:Bool),Hid (CAt C w b x)→Hid (run n (p h) x=some y)→Calls Tryz.prog f #[.pointer (some ⟨b,0,none⟩),.bool h] w (CPost C b y)
def PM (f n:Nat) (p:Nat→Pc):Prop:=∀ (C:Kc) (w:World) (b:Nat) (x y:Res) (m:Int) (m':Nat),Hid (CAt C w b x)→(x.bad=false→m=(m':Int))→(x.bad=false→C.low≤m')→Hid (run n (p m') x=some y)→Calls Tryz.prog f #[.pointer (some ⟨b,0,none⟩),.int .i64 m] w (CPost C b y)
def PBin (f n:Nat):Prop:=∀ (C:Kc) (w:World) (b:Nat) (x y:Res) (p:Int) (h:Bool),Hid (CAt C w b x)→Hid (run n (.binary p h) x=some y)→Calls Tryz.prog f #[.pointer (some ⟨b,0,none⟩),.bool h,.int .i64 p] w (CPost C b y)
def PArr (f n:Nat):Prop:=∀ (C:Kc) (w:World) (b:Nat) (s:St) (y:Res),Hid (CAt C w b (.ok s))→Hid (run n (.array s.R.length) (.ok s)=some y)→Calls Tryz.prog f #[.pointer (some ⟨b,0,none⟩)] w (CPost C b y)
def PVal (f n:Nat):Prop:=∀ (C:Kc) (w:World) (b:Nat) (x z y:Res) (m m' k:Int),Hid (CAt C w b x)→(x.bad=false→m=m')→(x.bad=false→(C.low:Int)≤m')→Hid (run n .values x=some z)→Hid (rClose m' k z=some y)→Calls Tryz.prog f #[.pointer (some ⟨b,0,none⟩),.int .i64 m,.int .i64 k] w (CPost C b y)
def PUni (f n:Nat):Prop:=∀ (C:Kc) (w:World) (b:Nat) (x z y:Res),Hid (CAt C w b x)→Hid (run n .term x=some z)→Hid (run n .unionL z=some y)→Calls Tryz.prog f #[.pointer (some ⟨b,0,none⟩)] w fun e w'=>∃ c:Int,e=.returned (.int .i64 c)∧Hid (CAt C w' b y)∧(y.bad=false→decide (1<c)=(z.kind == 26))
structure AllC (n:Nat):Prop where
 X:PB 22 n .X
 unary:PB 113 n .unary
 primary:PB 137 n .primary
 binary:PBin 71 n
 period:PM 154 n .period
 index:PM 155 n .index
 cut:PM 176 n .cut
 call:PM 156 n .call
 value:P0 190 n .value
 operand:P0 153 n .operand
 flat:P0 189 n .flat
 type:P0 23 n .type
 field:P0 79 n .field
 element:P0 81 n .element
 term:P0 140 n .term
 sig:P0 24 n .sig
 params:P0 53 n .params
 group:P0 82 n .group
 values:PVal 158 n
 array:PArr 75 n
theorem Res.kind_fail (a b c:Int):(Res.fail a b c).kind=0:=rfl
section
variable {C:Kc} {w:World} {b:Nat} {x y:Res}
theorem zik (h:Hid (CAt C w b x)) (hy:Hid (rName x=some y)):Calls Tryz.prog 47 #[.pointer (some ⟨b,0,none⟩)] w (CPost C b y):=by
 have hy:=hy.out
 cases x with
 |fail d0 d1 d2=>
  obtain rfl:=Option.some.inj hy
  clear hy
  have hk0:(Res.fail d0 d1 d2).kind=0:=rfl
  all_goals go_enter Tryz.func47,Tryz.ntmps47
  all_goals exact zaa
 |ok s=>
  unfold rName at hy
  try dsimp only at hy
  iterate 16 (all_goals try(first|split at hy|(rw[zfu] at hy;obtain⟨z,hz,hy⟩:=hy;try(rw[zfF] at hz;subst hz))))
  all_goals(first|(obtain rfl:=Option.some.inj hy)|(replace hy:=Lib.hid hy))
  iterate 2 (all_goals try(rename _∧_=>ho;obtain⟨_,_⟩:=ho))
  iterate 7 (all_goals try(rename _∨_=>ho;rcases ho with ho|ho))
  all_goals(repeat (rename ¬ (_∨_)=>ho;rw[not_or] at ho;obtain⟨_,_⟩:=ho))
  all_goals go_enter Tryz.func47,Tryz.ntmps47
  all_goals exact zaa
theorem ziK (h:Hid (CAt C w b x)) (hy:Hid (rQualified x=some y)):Calls Tryz.prog 115 #[.pointer (some ⟨b,0,none⟩)] w (CPost C b y):=by
 have hy:=hy.out
 cases x with
 |fail d0 d1 d2=>
  obtain rfl:=Option.some.inj hy
  clear hy
  have hk0:(Res.fail d0 d1 d2).kind=0:=rfl
  all_goals go_enter Tryz.func115,Tryz.ntmps115
  all_goals exact zaa
 |ok s=>
  unfold rQualified at hy
  try dsimp only at hy
  iterate 16 (all_goals try(first|split at hy|(rw[zfu] at hy;obtain⟨z,hz,hy⟩:=hy;try(rw[zfF] at hz;subst hz))))
  all_goals(first|(obtain rfl:=Option.some.inj hy)|(replace hy:=Lib.hid hy))
  iterate 2 (all_goals try(rename _∧_=>ho;obtain⟨_,_⟩:=ho))
  iterate 7 (all_goals try(rename _∨_=>ho;rcases ho with ho|ho))
  all_goals(repeat (rename ¬ (_∨_)=>ho;rw[not_or] at ho;obtain⟨_,_⟩:=ho))
  all_goals go_enter Tryz.func115,Tryz.ntmps115
  all_goals exact zaa
end
open Go.RowKit
theorem cX_f:∀ (C:Kc) (w:World) (b:Nat) (d0 d1 d2:Int) (h:Bool),Hid (CAt C w b (.fail d0 d1 d2))→Calls Tryz.prog 22 #[.pointer (some ⟨b,0,none⟩),.bool h] w (CPost C b (.fail d0 d1 d2)):=by
 intro C w b d0 d1 d2 h hat
 have hk0:(Res.fail d0 d1 d2).kind=0:=rfl
 go_enter Tryz.func22,Tryz.ntmps22
 exact zab
theorem zgv:∀ (C:Kc) (w:World) (b:Nat) (d0 d1 d2:Int),Hid (CAt C w b (.fail d0 d1 d2))→Calls Tryz.prog 139 #[.pointer (some ⟨b,0,none⟩)] w (CPost C b (.fail d0 d1 d2)):=by
 intro C w b d0 d1 d2 hat
 have hk0:(Res.fail d0 d1 d2).kind=0:=rfl
 go_enter Tryz.func139,Tryz.ntmps139
 exact zab
theorem zij:∀ (C:Kc) (w:World) (b:Nat) (d0 d1 d2:Int),Hid (CAt C w b (.fail d0 d1 d2))→Calls Tryz.prog 23 #[.pointer (some ⟨b,0,none⟩)] w (CPost C b (.fail d0 d1 d2)):=by
 intro C w b d0 d1 d2 hat
 have hk0:(Res.fail d0 d1 d2).kind=0:=rfl
 go_enter Tryz.func23,Tryz.ntmps23
 exact zal
theorem zgm:∀ (C:Kc) (w:World) (b:Nat) (d0 d1 d2:Int),Hid (CAt C w b (.fail d0 d1 d2))→Calls Tryz.prog 153 #[.pointer (some ⟨b,0,none⟩)] w (CPost C b (.fail d0 d1 d2)):=by
 intro C w b d0 d1 d2 hat
 have hk0:(Res.fail d0 d1 d2).kind=0:=rfl
 go_enter Tryz.func153,Tryz.ntmps153
 exact zab
theorem ziN:∀ (C:Kc) (w:World) (b:Nat) (d0 d1 d2:Int) (h:Bool),Hid (CAt C w b (.fail d0 d1 d2))→Calls Tryz.prog 137 #[.pointer (some ⟨b,0,none⟩),.bool h] w (CPost C b (.fail d0 d1 d2)):=by
 intro C w b d0 d1 d2 h hat
 have hk0:(Res.fail d0 d1 d2).kind=0:=rfl
 go_enter Tryz.func137,Tryz.ntmps137
 go_wp2_with (first|(go_at_call 61;first|(refine(zfS ‹_›).mono ?_;rintro e w' ⟨rfl,rfl⟩)|(refine(zfQ ‹_›).mono ?_;rintro e w' ⟨⟨v,_,rfl⟩,rfl⟩))|(go_at_call 153;refine(zgm _ _ _ _ _ _ ‹_›).mono ?_;rintro e w' ⟨v,rfl,hat⟩)|(go_at_call 57;first|(refine(zfI ‹_› ‹_›).mono ?_;rintro e w' ⟨rfl,hat⟩)|(refine(zfH ‹_›).mono ?_;rintro e w' ⟨rfl,hat⟩)))
 go_step3
 go_wp2_with (first|(go_at_call 61;first|(refine(zfS ‹_›).mono ?_;rintro e w' ⟨rfl,rfl⟩)|(refine(zfQ ‹_›).mono ?_;rintro e w' ⟨⟨v,_,rfl⟩,rfl⟩))|(go_at_call 153;refine(zgm _ _ _ _ _ _ ‹_›).mono ?_;rintro e w' ⟨v,rfl,hat⟩)|(go_at_call 57;first|(refine(zfI ‹_› ‹_›).mono ?_;rintro e w' ⟨rfl,hat⟩)|(refine(zfH ‹_›).mono ?_;rintro e w' ⟨rfl,hat⟩)))
 go_step3
 go_wp2_with (first|(go_at_call 61;first|(refine(zfS ‹_›).mono ?_;rintro e w' ⟨rfl,rfl⟩)|(refine(zfQ ‹_›).mono ?_;rintro e w' ⟨⟨v,_,rfl⟩,rfl⟩))|(go_at_call 153;refine(zgm _ _ _ _ _ _ ‹_›).mono ?_;rintro e w' ⟨v,rfl,hat⟩)|(go_at_call 57;first|(refine(zfI ‹_› ‹_›).mono ?_;rintro e w' ⟨rfl,hat⟩)|(refine(zfH ‹_›).mono ?_;rintro e w' ⟨rfl,hat⟩)))
 go_loopw [] (fun wr=>Hid (CAt C wr b (.fail d0 d1 d2))) (fun _=>0)
 case atStart=>assumption
 case round=>
  have hat:=hrel
  go_wp2_with (first|(go_at_call 61;first|(refine(zfS ‹_›).mono ?_;rintro e w' ⟨rfl,rfl⟩)|(refine(zfQ ‹_›).mono ?_;rintro e w' ⟨⟨v,_,rfl⟩,rfl⟩))|(go_at_call 153;refine(zgm _ _ _ _ _ _ ‹_›).mono ?_;rintro e w' ⟨v,rfl,hat⟩)|(go_at_call 57;first|(refine(zfI ‹_› ‹_›).mono ?_;rintro e w' ⟨rfl,hat⟩)|(refine(zfH ‹_›).mono ?_;rintro e w' ⟨rfl,hat⟩)))
  all_goals(try rw[Exit.noGoto_ret])
  all_goals exact zar
theorem zhk:∀ (C:Kc) (w:World) (b:Nat) (d0 d1 d2:Int) (h:Bool),Hid (CAt C w b (.fail d0 d1 d2))→Calls Tryz.prog 113 #[.pointer (some ⟨b,0,none⟩),.bool h] w (CPost C b (.fail d0 d1 d2)):=by
 intro C w b d0 d1 d2 h hat
 have hk0:(Res.fail d0 d1 d2).kind=0:=rfl
 go_enter Tryz.func113,Tryz.ntmps113
 exact zab
theorem zhD:∀ (C:Kc) (w:World) (b:Nat) (d0 d1 d2:Int) (p:Int) (h:Bool),Hid (CAt C w b (.fail d0 d1 d2))→Calls Tryz.prog 71 #[.pointer (some ⟨b,0,none⟩),.bool h,.int .i64 p] w (CPost C b (.fail d0 d1 d2)):=by
 intro C w b d0 d1 d2 p h hat
 have hk0:(Res.fail d0 d1 d2).kind=0:=rfl
 go_enter Tryz.func71,Tryz.ntmps71
 go_wp2_with (first|(go_at_call 61;first|(refine(zfS ‹_›).mono ?_;rintro e w' ⟨rfl,rfl⟩)|(refine(zfQ ‹_›).mono ?_;rintro e w' ⟨⟨v,_,rfl⟩,rfl⟩))|(go_at_call 113;refine(zhk _ _ _ _ _ _ _ ‹_›).mono ?_;rintro e w' ⟨v,rfl,hat⟩)|(go_at_call 57;first|(refine(zfI ‹_› ‹_›).mono ?_;rintro e w' ⟨rfl,hat⟩)|(refine(zfH ‹_›).mono ?_;rintro e w' ⟨rfl,hat⟩))|(go_at_call 114;refine(zhX _ _).mono ?_;rintro e w' ⟨rfl,rfl⟩))
 go_loopw [] (fun wr=>Hid (CAt C wr b (.fail d0 d1 d2))) (fun _=>0)
 case atStart=>assumption
 case round=>
  have hat:=hrel
  exact zab
theorem zki:∀ (C:Kc) (w:World) (b:Nat) (d0 d1 d2:Int),Hid (CAt C w b (.fail d0 d1 d2))→Calls Tryz.prog 190 #[.pointer (some ⟨b,0,none⟩)] w (CPost C b (.fail d0 d1 d2)):=by
 intro C w b d0 d1 d2 hat
 have hk0:(Res.fail d0 d1 d2).kind=0:=rfl
 go_enter Tryz.func190,Tryz.ntmps190
 exact zan
theorem znN:∀ (C:Kc) (w:World) (b:Nat) (d0 d1 d2:Int),Hid (CAt C w b (.fail d0 d1 d2))→Calls Tryz.prog 129 #[.pointer (some ⟨b,0,none⟩)] w (CPost C b (.fail d0 d1 d2)):=by
 intro C w b d0 d1 d2 hat
 have hk0:(Res.fail d0 d1 d2).kind=0:=rfl
 go_enter Tryz.func129,Tryz.ntmps129
 exact zab
end Go.Proofs.YtcekbbkidipbnaaGreat.rd
