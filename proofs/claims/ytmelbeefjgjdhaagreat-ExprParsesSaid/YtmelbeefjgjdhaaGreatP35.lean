/-
  Texts put together: Kl, Jf, Jg, Jh, Ji, Kp.
-/
import Derived.Test.YtmelbeefjgjdhaaGreatP34
import Derived.Test.YtmelbeefjgjdhaaGreatP6
import Derived.Test.YtmelbeefjgjdhaaGreatP4
import Derived.Test.YtmelbeefjgjdhaaGreatP33
set_option maxRecDepth 100000
set_option maxHeartbeats 8000000
namespace Go.Proofs.YtmelbeefjgjdhaaGreat.rd
open Go.RowKit
theorem cParse_any {w:World} {v:Value} {T:List Tk} {N:Nat} {x1 y:Res} (hN:N≤1099511627776) (hr:Row tk w v T) (hn:T.length≤549755813888) (h1:Hid (run N (.X false) (.ok ⟨T,0,[],[],0⟩)=some x1)) (h2:Hid (rDone x1=some y)) :
  Calls Tryz.prog 18 #[v] w fun e w'=>∃ (n:Rn) (D:Nat→Prop),e=.returned (tells n.v y.diag (!y.bad))∧Below w.heap.size w w'∧Tie w' D y.tree n∧OfNodes w' D:=by
 have hz1:(w.alloc (.cells #[.int .i64 0,.int .i64 0,.int .i64 0,.slice none 0 0] 43)).heap.size=w.heap.size+1:=World.size_alloc _ _
 have hB1:Below w.heap.size w (w.alloc (.cells #[.int .i64 0,.int .i64 0,.int .i64 0,.slice none 0 0] 43)):=(Below.refl _ _).alloc (Nat.le_refl _) _
 have hx1:=heap_alloc_last w (.cells #[.int .i64 0,.int .i64 0,.int .i64 0,.slice none 0 0] 43)
 obtain⟨W1,hW1⟩:∃ W1,w.alloc (.cells #[.int .i64 0,.int .i64 0,.int .i64 0,.slice none 0 0] 43)=W1:=⟨_,rfl⟩
 rw[hW1] at hz1 hB1 hx1
 have hz2:(W1.alloc (.cells #[.int .i64 0,.int .i64 0,.int .i64 0] 37)).heap.size=W1.heap.size+1:=World.size_alloc _ _
 have hB2:Below W1.heap.size W1 (W1.alloc (.cells #[.int .i64 0,.int .i64 0,.int .i64 0] 37)):=(Below.refl _ _).alloc (Nat.le_refl _) _
 have hx2:=heap_alloc_last W1 (.cells #[.int .i64 0,.int .i64 0,.int .i64 0] 37)
 obtain⟨W2,hW2⟩:∃ W2,W1.alloc (.cells #[.int .i64 0,.int .i64 0,.int .i64 0] 37)=W2:=⟨_,rfl⟩
 rw[hW2] at hz2 hB2 hx2
 have hB:Below w.heap.size w W2:=hB1.trans (hB2.mono hB1.size)
 have hx1:W2.heap[w.heap.size]? = _:=(hB2.block _ (by omega)).trans hx1
 rw[hz1] at hx2
 have HNEW:=Lib.hid (cnew_any (hr.below hB) hn)
 have HBX:=Lib.hid hB
 have HZ:=Lib.hid (And.intro hz1 hz2)
 have HX1:=Lib.hid hx1
 have HX2:=Lib.hid hx2
 have HWW:=Lib.hid (And.intro hW1 hW2)
 obtain⟨_,_,o,cap,_,rfl,_,_⟩:=hr
 clear hz1 hz2 hB1 hB2 hx1 hx2 hB hW1 hW2
 go_enter Tryz.func18,Tryz.ntmps18
 go_wp2_with (first|(go_at_call 9;rw[HWW.out.1,HWW.out.2];refine HNEW.out.mono ?_;rintro e w3 ⟨b,rfl,hat⟩;have hat3:=Lib.hid hat;clear hat)|(go_at_call 22;refine((prog_all N hN).X _ _ _ _ _ _ hat3 h1).mono ?_;rintro e w4 ⟨v4,rfl,hat4⟩))
 go_at_call 15
 refine(cdone_at hat4 h2).mono ?_
 rintro e w5 ⟨hkp,hd⟩
 have hBel:Below w.heap.size w w5:=by
  have hB:=HBX.out
  exact⟨hkp.os.trans hB.os,hkp.tape.trans hB.tape,hkp.output.trans hB.output,Nat.le_trans hB.size hkp.size,fun k hk=>(hkp.kept k (Nat.lt_of_lt_of_le hk hB.size)).trans (hB.block k hk)⟩
 have hX1:=(hkp.kept w.heap.size (Array.getElem?_eq_some_iff.1 HX1.out).1).trans HX1.out
 have hX2:=(hkp.kept (w.heap.size+1) (Array.getElem?_eq_some_iff.1 HX2.out).1).trans HX2.out
 have hz5:w.heap.size+1<w5.heap.size:=(Array.getElem?_eq_some_iff.1 hX2).1
 have HB5:=Lib.hid hBel
 have HXX:=Lib.hid (And.intro hX1 (And.intro hX2 hz5))
 clear hkp hBel hX1 hX2
 have hdata:∃ (vv:Value) (d0 d1 d2:Int) (ok:Bool) (R:List Rn) (D:Nat→Prop) (l:List Tree),e=.returned (.tuple #[vv,.agg #[.int .i64 d0,.int .i64 d1,.int .i64 d2],.bool ok])∧Row nd w5 vv R∧Ties w5 D l R∧OfNodes w5 D∧R.length≤1099511627776∧Neats l∧y.tree=headT l∧y.diag=(d0,d1,d2)∧(!y.bad)=ok:=by
  rcases hd with⟨d0,d1,d2,rfl,rfl⟩|⟨t,v5,R,D,rfl,rfl,hm,ht,hD,hle⟩
  ·exact⟨.slice none 0 0,d0,d1,d2,false,[],fun _=>False,[],rfl,Row.nil _ _ _,Ties.nil,fun g hg=>hg.elim,by simp,by rw[Neats];trivial,rfl,rfl,rfl⟩
  ·have hnt:Neats t.R:=nt_done (run_nt N (.X false) ⟨T,0,[],[],0⟩ x1 (by show Neats [];rw[Neats];trivial) h1.out) h2 t rfl
   exact⟨v5,0,0,0,true,R,D,t.R,rfl,hm.row,ht,hD,by rw[ht.length];omega,hnt,rfl,rfl,rfl⟩
 clear hd
 obtain⟨vv,d0,d1,d2,ok,R,D,l,rfl,hrow,hties,hof,hle,hnt,hyt,hyd,hyb⟩:=hdata
 have HYY:=Lib.hid (And.intro hyd (And.intro hyb hyt))
 have HDD:=Lib.hid (And.intro hrow (And.intro hties (And.intro hof (And.intro hnt hle))))
 obtain⟨gv,offv,ov,cv,hcv,rfl,hov,hcellv⟩:=hrow.lt
 have HOV:=Lib.hid (And.intro hov hcellv)
 have HIX:Hid (∀ u,Below w5.heap.size w5 u→Calls Tryz.prog 68 #[.slice ov R.length cv,.func (.func 69) #[] #[]] u fun e w'=>∃ r:Int,e=.returned (.int .i64 r)∧((r = -1∧headT l=.mk 0 0 0 [])∨∃ (i:Nat) (hi:i<l.length),r=(i:Int)∧headT l=l[i])∧Below u.heap.size u w'):=Lib.hid (fun u hu=>cindexN_any (hrow.below hu) (hties.below hof hu) hle)
 clear hrow hties hof hnt hov hcellv hyt hyd hyb h1 h2 hat3 hat4
 go_wp2_with fail
 go_at_call 68
 have hb6:Below w5.heap.size w5 (w5.alloc (.cells #[.int .i64 d0,.int .i64 d1,.int .i64 d2] 37)):=(Below.refl _ _).alloc (Nat.le_refl _) _
 refine(HIX.out _ hb6).mono ?_
 rintro e w7 ⟨r,rfl,hrr,hbr⟩
 have hbx:=three_boxes HXX.out.1 HXX.out.2.1 (d0:=d0) (d1:=d1) (d2:=d2)
 obtain⟨W6,hW6⟩:∃ W6,w5.alloc (.cells #[.int .i64 d0,.int .i64 d1,.int .i64 d2] 37)=W6:=⟨_,rfl⟩
 rw[hW6] at hbx hb6 hbr
 obtain⟨X1,hX1e⟩:∃ X1,w.heap.size=X1:=⟨_,rfl⟩
 obtain⟨X3,hX3e⟩:∃ X3,w5.heap.size=X3:=⟨_,rfl⟩
 rw[hX1e,hX3e] at hbx
 have HBR:Hid (∀ wr,Below W6.heap.size W6 wr→wr.heap[X1]? = some (.cells #[.int .i64 0,.int .i64 0,.int .i64 0,.slice none 0 0] 43 (0,0))∧wr.heap[X1+1]? = some (.cells #[.int .i64 0,.int .i64 0,.int .i64 0] 37 (0,0))∧wr.heap[X3]? = some (.cells #[.int .i64 d0,.int .i64 d1,.int .i64 d2] 37 (0,0))):=Lib.hid (fun wr hb=>
  ⟨(hb.block _ (Array.getElem?_eq_some_iff.1 hbx.1).1).trans hbx.1,(hb.block _ (Array.getElem?_eq_some_iff.1 hbx.2.1).1).trans hbx.2.1,(hb.block _ (Array.getElem?_eq_some_iff.1 hbx.2.2).1).trans hbx.2.2⟩)
 have HW6:=Lib.hid (And.intro hb6 hX1e)
 have e12:X1≠X1+1:=by omega
 have e13:X1≠X3:=by have:=HXX.out.2.2;omega
 have e23:X1+1≠X3:=by have:=HXX.out.2.2;omega
 have HE:=Lib.hid (And.intro e12 e13)
 have k12:(X1 == X1+1)=false:=beq_eq_false_iff_ne.2 e12
 have k21:(X1+1 == X1)=false:=beq_eq_false_iff_ne.2 (fun h=>e12 h.symm)
 have k13:(X1 == X3)=false:=beq_eq_false_iff_ne.2 e13
 have k31:(X3 == X1)=false:=beq_eq_false_iff_ne.2 (fun h=>e13 h.symm)
 have k23:(X1+1 == X3)=false:=beq_eq_false_iff_ne.2 e23
 have k32:(X3 == X1+1)=false:=beq_eq_false_iff_ne.2 (fun h=>e23 h.symm)
 have HEQ:=Lib.hid (And.intro hX1e hX3e)
 clear hbx e12 e13 e23 hb6 hW6 hz5
 rcases hrr with⟨rfl,hh⟩|⟨i,hi,rfl,hh⟩
 ·have hTN:Neat (.mk 0 0 0 [])∧Tie w5 D (.mk 0 0 0 []) ⟨0,0,0,none,0,0⟩∧OfNodes w5 D∧headT l=.mk 0 0 0 []:=⟨by rw[Neat,Neats];exact⟨trivial,trivial⟩,tie_none _ _ _ _ _,HDD.out.2.2.1,hh⟩
  have HTN:=Lib.hid hTN
  clear hTN hh
  obtain⟨b1,b2,b3⟩:=HBR.out _ hbr
  obtain⟨⟨n0,n1,n2,n3⟩,fn⟩:=four_cells b1
  obtain⟨⟨m0,m1,m2⟩,fm⟩:=three_cells b2
  obtain⟨⟨p0,p1,p2⟩,fp⟩:=three_cells b3
  have f0:=fn 0
  have f1:=fn 1
  have f2:=fn 2
  have f3:=fn 3
  have g0:=fm 0
  have g1:=fm 1
  have g2:=fm 2
  have hw7:∀ k,k≠X1→((((w7.setCell ⟨X1,0,none⟩ (.int .i64 0)).setCell ⟨X1,1,none⟩ (.int .i64 0)).setCell ⟨X1,2,none⟩ (.int .i64 0)).setCell ⟨X1,3,none⟩ (.slice none 0 0)).heap[k]? = w7.heap[k]?:=fun k hk=>by rw[set_one _ _ _ _ _ hk];exact three_set _ _ _ _ _ k hk
  obtain⟨⟨m0',m1',m2'⟩,fm'⟩:=three_cells ((hw7 _ (fun h=>HE.out.1 h.symm)).trans b2)
  obtain⟨⟨p0',p1',p2'⟩,_⟩:=three_cells ((hw7 _ (fun h=>HE.out.2 h.symm)).trans b3)
  have g0':=fm' 0
  have g1':=fm' 1
  have g2':=fm' 2
  have HBB:=Lib.hid (And.intro b1 b2)
  have HBRR:=Lib.hid hbr
  clear hw7 b1 b2 b3 fn fm fp fm' hbr
  go_wp2_with fail
  go_region
  all_goals(try go_wp2_with fail)
  try simp only[Exit.inBlock,Exit.then]
  obtain⟨W8,hW8,q1,q2,q3,q4,q5,q6,q7⟩:=boxes_end (k:=0) (i:=0) (j:=0) (o:=none) (nn:=0) (c:=0) (d0:=d0) (d1:=d1) (d2:=d2) HBB.out.1 HBB.out.2 (show X1≠X1+1 by omega)
  rw[← hW8]
  clear hW8
  refine bodyPost_ret (results_mix2 rfl _ _ (X1+1) X1 37 43 _ _ (0,0) (0,0) _ _ rfl q2 Tryz.underlying37 rfl (by as_aux_lemma=>kernel_rfl) rfl q1 Tryz.underlying43 rfl (by as_aux_lemma=>kernel_rfl)) rfl ?_
  obtain⟨hb6,hx1⟩:=HW6.out
  obtain⟨r1,r2,r3⟩:=parse_fin HB5.out hb6 HBRR.out hx1 (by rw[← hx1];exact HXX.out.1) (by rw[← hx1];exact⟨_,HXX.out.2.1⟩) HTN.out.1 HTN.out.2.1 HTN.out.2.2.1 q3 q4 q5 q6 q7
  exact⟨⟨0,0,0,none,0,0⟩,_,by rw[HYY.out.1,HYY.out.2.1];rfl,r1,by rw[HYY.out.2.2,HTN.out.2.2.2];exact r2,r3⟩
 ·have hiR:i<R.length:=by rw[HDD.out.2.1.length];exact hi
  obtain⟨hoo,hgz⟩:=HOV.out.1 (by intro e;rw[e] at hiR;simp at hiR)
  subst hoo
  obtain⟨a0,a1,a2,a3⟩:=cells_nd HOV.out.2 i hiR
  have hb57:Below w5.heap.size w5 w7:=HW6.out.1.trans (hbr.mono HW6.out.1.size)
  have c0:=(hb57.cell (p:=⟨gv,offv+i*4,none⟩) hgz).trans a0
  have c1:=(hb57.cell (p:=⟨gv,offv+i*4+1,none⟩) hgz).trans a1
  have c2:=(hb57.cell (p:=⟨gv,offv+i*4+2,none⟩) hgz).trans a2
  have c3:=(hb57.cell (p:=⟨gv,offv+i*4+3,none⟩) hgz).trans a3
  have htie:=ties_get' HDD.out.2.1 hi hiR
  obtain⟨⟨nk,ni,nj,no,nn,nc⟩,hnode⟩:∃ n,R[i]=n:=⟨_,rfl⟩
  rw[hnode] at c0 c1 c2 c3 htie
  simp only[] at c0 c1 c2 c3
  have hTN:Neat l[i]∧Tie w5 D l[i] ⟨nk,ni,nj,no,nn,nc⟩∧OfNodes w5 D∧headT l=l[i]:=⟨neats_get HDD.out.2.2.2.1 hi,htie,HDD.out.2.2.1,hh⟩
  have HTN:=Lib.hid hTN
  have hq0:(0:Int)≤(i:Int):=by omega
  have hdi:decide ((0:Int)≤(i:Int))=true:=decide_eq_true hq0
  have hq1:(i:Int)<(R.length:Int):=by omega
  clear hTN hh htie hnode a0 a1 a2 a3 hb57
  obtain⟨b1,b2,b3⟩:=HBR.out _ hbr
  obtain⟨⟨n0,n1,n2,n3⟩,fn⟩:=four_cells b1
  obtain⟨⟨m0,m1,m2⟩,fm⟩:=three_cells b2
  obtain⟨⟨p0,p1,p2⟩,fp⟩:=three_cells b3
  have f0:=fn 0
  have f1:=fn 1
  have f2:=fn 2
  have f3:=fn 3
  have g0:=fm 0
  have g1:=fm 1
  have g2:=fm 2
  have hw7:∀ k,k≠X1→((((w7.setCell ⟨X1,0,none⟩ (.int .i64 nk)).setCell ⟨X1,1,none⟩ (.int .i64 ni)).setCell ⟨X1,2,none⟩ (.int .i64 nj)).setCell ⟨X1,3,none⟩ (.slice no nn nc)).heap[k]? = w7.heap[k]?:=fun k hk=>by rw[set_one _ _ _ _ _ hk];exact three_set _ _ _ _ _ k hk
  obtain⟨⟨m0',m1',m2'⟩,fm'⟩:=three_cells ((hw7 _ (fun h=>HE.out.1 h.symm)).trans b2)
  obtain⟨⟨p0',p1',p2'⟩,_⟩:=three_cells ((hw7 _ (fun h=>HE.out.2 h.symm)).trans b3)
  have g0':=fm' 0
  have g1':=fm' 1
  have g2':=fm' 2
  have HBB:=Lib.hid (And.intro b1 b2)
  have HBRR:=Lib.hid hbr
  clear hw7 b1 b2 b3 fn fm fp fm' hbr
  go_wp2_with fail
  go_region
  all_goals(try go_wp2_with fail)
  try simp only[Exit.inBlock,Exit.then]
  obtain⟨W8,hW8,q1,q2,q3,q4,q5,q6,q7⟩:=boxes_end (k:=nk) (i:=ni) (j:=nj) (o:=no) (nn:=nn) (c:=nc) (d0:=d0) (d1:=d1) (d2:=d2) HBB.out.1 HBB.out.2 (show X1≠X1+1 by omega)
  rw[← hW8]
  clear hW8
  refine bodyPost_ret (results_mix2 rfl _ _ (X1+1) X1 37 43 _ _ (0,0) (0,0) _ _ rfl q2 Tryz.underlying37 rfl (by as_aux_lemma=>kernel_rfl) rfl q1 Tryz.underlying43 rfl (by as_aux_lemma=>kernel_rfl)) rfl ?_
  obtain⟨hb6,hx1⟩:=HW6.out
  obtain⟨r1,r2,r3⟩:=parse_fin HB5.out hb6 HBRR.out hx1 (by rw[← hx1];exact HXX.out.1) (by rw[← hx1];exact⟨_,HXX.out.2.1⟩) HTN.out.1 HTN.out.2.1 HTN.out.2.2.1 q3 q4 q5 q6 q7
  exact⟨⟨nk,ni,nj,no,nn,nc⟩,_,by rw[HYY.out.1,HYY.out.2.1];rfl,r1,by rw[HYY.out.2.2,HTN.out.2.2.2];exact r2,r3⟩
def Ends (o:Option Res) (Q:Res→Prop):Prop:=∃ y,o=some y∧Q y
theorem Ends.bind {o:Option Res} {Q Q':Res→Prop} {f:Res→Option Res} (h:Ends o Q) (hf:∀ y,Q y→Ends (f y) Q'):Ends (o >>= f) Q':=by
 obtain⟨y,rfl,hq⟩:=h
 exact hf y hq
theorem Ends.mono {o:Option Res} {Q Q':Res→Prop} (h:Ends o Q) (hf:∀ y,Q y→Q' y):Ends o Q':=by
 obtain⟨y,h1,h2⟩:=h
 exact⟨y,h1,hf y h2⟩
structure InS (L:List Tk) (a w:Int) (t:St):Prop where
 eq:t.L=L
 le:t.at'≤L.length
 left:(L.length:Int) - (t.at':Int)≤a
 few:(t.R.length:Int)+64*((L.length:Int) - (t.at':Int))≤w
def In (L:List Tk) (a w:Int) (y:Res):Prop:=∀ t,y=.ok t→InS L a w t
section
variable {L:List Tk} {a w B:Int} {x:Res}
theorem In.fail (d0 d1 d2:Int):In L a w (.fail d0 d1 d2):=fun t e=>by cases e
theorem InS.in {s:St} (h:InS L a w s):In L a w (.ok s):=fun t e=>by cases e;exact h
theorem In.mono {a' w':Int} (h:In L a w x) (ha:a≤a') (hw:w≤w'):In L a' w' x:=fun t e=>by
 obtain⟨h1,h2,h3,h4⟩:=h t e
 exact⟨h1,h2,by omega,by omega⟩
theorem InS.rlen {s:St} (h:InS L a w s):(s.R.length:Int)≤w:=by
 have:=h.2;have:=h.4;omega
theorem InS.pos {s:St} (h:InS L a w s):0≤a:=by
 have:=h.2;have:=h.3;omega
theorem chk_ends {s:St} {Q:Res→Prop} (h:s.R.length+s.L.length≤549755813888) (hq:Q (.ok s)):Ends (chk (.ok s)) Q:=⟨.ok s,by unfold chk;simp only[];rw[if_pos h],hq⟩
theorem chk_endf {d0 d1 d2:Int} {Q:Res→Prop} (hq:Q (.fail d0 d1 d2)):Ends (chk (.fail d0 d1 d2)) Q:=⟨_,rfl,hq⟩
theorem lift_ends {f:St→Res} {Q:Res→Prop} (hq:∀ d0 d1 d2,Q (.fail d0 d1 d2)) (h:∀ s,x=.ok s→Ends (chk (f s)) Q):Ends (lift f x) Q:=by
 cases x with
 |fail d0 d1 d2=>exact⟨_,rfl,hq _ _ _⟩
 |ok s=>exact h s rfl
theorem take_in {s:St} (h:InS L a w s):InS L a w s.take∧(s.ahead 0≠0→InS L (a - 1) (w - 63) s.take):=by
 obtain⟨h1,h2,h3,h4⟩:=h
 unfold St.take
 split
 ·rename_i h0
  exact⟨⟨h1,h2,h3,h4⟩,fun h=>absurd h0 h⟩
 ·rename_i h0
  have hlt:s.next 0<s.L.length:=by
   rcases Nat.lt_or_ge (s.next 0) s.L.length with h|h
   ·exact h
   ·exact absurd (by unfold St.ahead;rw[List.getElem?_eq_none h]) h0
  have hge:s.at'≤s.next 0:=Nat.le_add_right _ _
  have hlen:((s.L.drop s.at').take (s.next 0+1 - s.at')).length=s.next 0+1 - s.at':=by rw[List.length_take,List.length_drop];omega
  have hR:(s.run (s.next 0+1 - s.at')).R.length=s.R.length+(s.next 0+1 - s.at'):=by
   show(s.R ++ ((s.L.drop s.at').take _).map Tk.tree).length=_
   rw[List.length_append,List.length_map,hlen]
  have hat:(s.run (s.next 0+1 - s.at')).at'=s.next 0+1:=by
   show s.at'+(s.next 0+1 - s.at')=_
   omega
  rw[h1] at hlt
  exact⟨⟨h1,by rw[hat];omega,by rw[hat];omega,by rw[hat,hR];omega⟩,fun _=>⟨h1,by rw[hat];omega,by rw[hat];omega,by rw[hat,hR];omega⟩⟩
theorem en_take0 (h:In L a w x) (hB:B+(L.length:Int)≤549755813888) (hw:w≤B):Ends (rTake x) (In L a w):=lift_ends (fun _ _ _=>In.fail _ _ _) fun s e=>by
 have hs:=(take_in (h s e)).1
 exact chk_ends (by have:=hs.rlen;have:=hs.eq;rw[hs.eq];omega) hs.in
theorem en_take (h:In L a w x) (hB:B+(L.length:Int)≤549755813888) (hw:w≤B) (hk:x.kind≠0):Ends (rTake x) (In L (a - 1) (w - 63)):=lift_ends (fun _ _ _=>In.fail _ _ _) fun s e=>by
 have hs:=(take_in (h s e)).2 (by subst e;exact hk)
 exact chk_ends (by have:=hs.rlen;rw[hs.eq];omega) hs.in
theorem en_none (h:In L a w x) (hB:B+(L.length:Int)≤549755813888) (hw:w+1≤B):Ends (rNone x) (In L a (w+1)):=lift_ends (fun _ _ _=>In.fail _ _ _) fun s e=>by
 obtain⟨h1,h2,h3,h4⟩:=h s e
 have hl:s.none.R.length=s.R.length+1:=by show(s.R ++ [_]).length=_;rw[List.length_append];rfl
 have hs:InS L a (w+1) s.none:=⟨h1,h2,h3,by rw[hl];show((s.R.length+1:Nat):Int)+64*((L.length:Int) - (s.at':Int))≤_;omega⟩
 exact chk_ends (by have:=hs.rlen;rw[hs.eq];omega) hs.in
theorem closed_len {s:St} (m:Int) (k:Int):(s.closed (s.mark m) k).R.length≤s.R.length+1:=by
 show(s.R.take (s.mark m) ++ [_]).length≤_
 rw[List.length_append,List.length_take]
 simp only[List.length_cons,List.length_nil]
 omega
theorem en_close {m k:Int} (h:In L a w x) (hB:B+(L.length:Int)≤549755813888) (hw:w+1≤B):Ends (rClose m k x) (In L a (w+1)):=lift_ends (fun _ _ _=>In.fail _ _ _) fun s e=>by
 unfold St.close
 split
 ·exact chk_endf (In.fail _ _ _)
 ·obtain⟨h1,h2,h3,h4⟩:=h s e
  have hl:=closed_len (s:=s) m k
  have hs:InS L a (w+1) (s.closed (s.mark m) k):=⟨h1,h2,h3,by show((s.closed (s.mark m) k).R.length:Int)+64*((L.length:Int) - (s.at':Int))≤_;omega⟩
  exact chk_ends (by have:=hs.rlen;rw[hs.eq];omega) hs.in
theorem en_expect {k:Int} (h:In L a w x) (hB:B+(L.length:Int)≤549755813888) (hw:w≤B):Ends (rExpect k x) (In L (a - 1) (w - 63)):=lift_ends (fun _ _ _=>In.fail _ _ _) fun s e=>by
 unfold St.expect
 split
 ·rename_i hk
  have hs:=(take_in (h s e)).2 (by rw[hk.2];exact hk.1)
  exact chk_ends (by have:=hs.rlen;rw[hs.eq];omega) hs.in
 ·exact chk_endf (In.fail _ _ _)
theorem en_fail {c:Int} {Q:Res→Prop} (hQ:∀ d0 d1 d2,Q (.fail d0 d1 d2)):Ends (rFail c x) Q:=lift_ends hQ fun _ _=>chk_endf (hQ _ _ _)
theorem en_down (h:In L a w x) (hB:B+(L.length:Int)≤549755813888) (hw:w≤B):Ends (rDown x) (In L a w):=lift_ends (fun _ _ _=>In.fail _ _ _) fun s e=>by
 unfold St.down
 split
 ·exact chk_endf (In.fail _ _ _)
 ·obtain⟨h1,h2,h3,h4⟩:=h s e
  have hs:InS L a w { s with op:=s.op+1 }:=⟨h1,h2,h3,h4⟩
  exact chk_ends (by have:=hs.rlen;rw[hs.eq];show s.R.length+_≤_;have:((s.R.length:Nat):Int)≤w:=hs.rlen;omega) hs.in
theorem en_up (h:In L a w x) (hB:B+(L.length:Int)≤549755813888) (hw:w≤B):Ends (rUp x) (In L a w):=lift_ends (fun _ _ _=>In.fail _ _ _) fun s e=>by
 obtain⟨h1,h2,h3,h4⟩:=h s e
 have hs:InS L a w s.up:=⟨h1,h2,h3,h4⟩
 exact chk_ends (by have:((s.R.length:Nat):Int)≤w:=hs.rlen;rw[hs.eq];show s.R.length+_≤_;omega) hs.in
theorem en_name (h:In L a w x) (hB:B+(L.length:Int)≤549755813888) (hw:w≤B):Ends (rName x) (In L (a - 1) (w - 62)):=by
 unfold rName
 refine Ends.bind (en_expect h hB hw) fun y hy=>?_
 exact(en_close hy hB (by omega)).mono fun z hz=>hz.mono (by omega) (by omega)
theorem en_qual (h:In L a w x) (hB:B+(L.length:Int)≤549755813888) (hw:w≤B):Ends (rQualified x) (In L (a - 1) (w - 62)):=by
 unfold rQualified
 refine Ends.bind (en_name h hB hw) fun y hy=>?_
 split
 ·refine Ends.bind (en_take hy hB (by omega) (by omega)) fun y2 hy2=>?_
  refine Ends.bind (en_name hy2 hB (by omega)) fun y3 hy3=>?_
  exact(en_close hy3 hB (by omega)).mono fun z hz=>hz.mono (by omega) (by omega)
 ·exact⟨_,rfl,hy⟩
def rk:Pc→Int
 |.type=>10|.array _=>9|.term=>11|.union=>12|.element=>13|.field=>1|.itL _=>14|.operand=>11|.primary _=>12|.primL _ _=>5
 |.unary _=>13|.binary _ _=>14|.X _=>15|.value=>16|.valL=>17|.callL=>16|.list _=>16|.sig=>3|.params=>2|.entry=>20|.tpL=>2|_=>1
def dd:Pc→Int
 |.binL _ _ _=>0|.primL _ _=>0|.idxL=>0|.callL=>0|.valL=>0|.flatL _=>0|.tyL=>0|.itL _=>0|.unionL=>0|.listL _=>0|.names=>0|_=>1
def cc:Pc→Int
 |.binL _ _ _=>0|.primL _ _=>0|.idxL=>0|.callL=>0|.valL=>0|.flatL _=>0|.tyL=>0|.itL _=>0|.unionL=>0|.listL _=>0|.names=>0
 |.values=>-100|.type=>-40|.array _=>-40|.term=>-40|.union=>-40|.params=>-60|.sig=>-40|.entry=>-40|.list _=>-20|_=>-30
def fl:Pc→Bool
 |.period _=>true|.index _=>true|.cut _=>true|.call _=>true|.array _=>true|_=>false
def Tot (L:List Tk) (B:Int) (n:Nat):Prop:=∀ (p:Pc) (s:St) (a w:Int),InS L a w s→(fl p=true→(Res.ok s).kind≠0)→100*a+rk p≤(n:Int)→w+8≤B→Ends (run n p (.ok s)) (In L (a - dd p) (w+cc p))
theorem en_run {n:Nat} (ih:Tot L B n) {p:Pc} (h:In L a w x) (hf:fl p=true→x.kind≠0) (hn:100*a+rk p≤(n:Int)) (hw:w+8≤B):Ends (run n p x) (In L (a - dd p) (w+cc p)):=by
 cases x with
 |fail d0 d1 d2=>exact⟨_,run_fail _ _ _ _ _,In.fail _ _ _⟩
 |ok s=>exact ih p s a w (h s rfl) hf hn hw
theorem tot_zero:Tot L B 0:=fun p s a w h _ hn _=>by
 have:=h.pos
 have:1≤rk p:=by cases p <;> simp [rk]
 simp only[Int.natCast_zero] at hn
 omega
end
theorem wfE_up:∀ (l:List Ent) (lo n n':Nat),wfE lo l n=true→n≤n'→wfE lo l n'=true
 |[],lo,n,n',h,hn=>by
  rw[wfE,decide_eq_true_iff] at h ⊢
  omega
 |e::r,lo,n,n',h,hn=>by
  rw[wfE,Bool.and_eq_true] at h ⊢
  exact⟨h.1,wfE_up r _ _ _ h.2 hn⟩
theorem wfE_snoc:∀ (l:List Ent) (lo m n:Nat) (e:Ent),wfE lo l m=true→m≤e.a→e.a≤e.b→e.b≤n→wfE lo (l ++ [e]) n=true
 |[],lo,m,n,e,h,h1,h2,h3=>by
  rw[wfE,decide_eq_true_iff] at h
  show(decide (lo≤e.a) && decide (e.a≤e.b) && decide (e.b≤n))=true
  rw[decide_eq_true (show lo≤e.a by omega),decide_eq_true h2,decide_eq_true h3]
  rfl
 |f::r,lo,m,n,e,h,h1,h2,h3=>by
  rw[wfE,Bool.and_eq_true] at h
  show(decide (lo≤f.a) && decide (f.a≤f.b) && wfE f.b (r ++ [e]) n)=true
  rw[Bool.and_eq_true]
  exact⟨h.1,wfE_snoc r _ _ _ _ h.2 h1 h2 h3⟩
section
variable {L:List Tk} {B:Int}
theorem en_ents (hB:B+(L.length:Int)≤549755813888) {n:Nat} (ih:Tot L B n) (kp:RunKp n):∀ (k:Nat) (l:List Ent) (x:Res) (a w:Int),In L a w x→100*a+20≤(n:Int)→a+1≤(k:Int)→1≤k→w+8≤B→(∀ s,x=.ok s→wfE 0 l s.R.length=true) →
  ∃ y l',rEnts (run n .entry) k l x=some (y,l')∧In L a (w - (l'.length:Int)+(l.length:Int)) y∧∀ t,y=.ok t→wfE 0 l' t.R.length=true
 |0,l,x,a,w,hx,hn,hk,hk1,hw,hwf=>by omega
 |k+1,l,x,a,w,hx,hn,hk,hk1,hw,hwf=>by
  rw[rEnts]
  cases x with
  |fail d0 d1 d2=>exact⟨_,_,by rw[if_pos (.inl (bad_fail _ _ _))],In.fail _ _ _,fun t e=>by cases e⟩
  |ok s=>
   by_cases h62:(Res.ok s).kind=62
   ·refine⟨_,_,by rw[if_pos (.inr h62)],?_,hwf⟩
    exact hx.mono (Int.le_refl _) (by omega)
   ·rw[if_neg (by rw[bad_ok];simp [h62])]
    have hap:=(hx s rfl).pos
    obtain⟨y1,hy1,hi1⟩:=en_run ih (p:=.entry) hx (fun h=>by cases h) (by show 100*a+20≤_;exact hn) hw
    have hi1:In L (a - 1) (w + -40) y1:=hi1
    have hk1:=kp .entry s y1 s.R.length (Nat.le_refl _) (fun m hm=>by cases hm) hy1
    rw[hy1]
    show ∃ y l',(if y1.kind=60 then(rTake y1).bind fun z=>rEnts (run n .entry) k (l ++ [⟨(Res.ok s).len,y1.len,(Res.ok s).named⟩]) z else some (y1,l ++ [⟨(Res.ok s).len,y1.len,(Res.ok s).named⟩]))=some (y,l')∧_
    have hl1:(l ++ [(⟨(Res.ok s).len,y1.len,(Res.ok s).named⟩:Ent)]).length=l.length+1:=by rw[List.length_append];rfl
    have hwf1:∀ t,y1=.ok t→wfE 0 (l ++ [(⟨(Res.ok s).len,y1.len,(Res.ok s).named⟩:Ent)]) t.R.length=true:=by
     intro t ht
     have hle:=(hk1 t ht).le
     subst ht
     exact wfE_snoc l 0 s.R.length t.R.length _ (hwf s rfl) (Nat.le_refl _) hle (Nat.le_refl _)
    by_cases h60:y1.kind=60
    ·rw[if_pos h60]
     obtain⟨t1,rfl⟩:=ok_of_kind h60 (by decide)
     obtain⟨y2,hy2,hi2⟩:=en_take hi1 hB (by omega) (by rw[h60];decide)
     have hi2b:=hi1 t1 rfl
     have hap1:=hi2b.pos
     have hk2:=kp_take (Lib.hid hy2) (Kp.refl (s:=t1) (Nat.le_refl t1.R.length))
     rw[hy2]
     show ∃ y l',rEnts (run n .entry) k (l ++ [⟨(Res.ok s).len,(Res.ok t1).len,(Res.ok s).named⟩]) y2=some (y,l')∧_
     obtain⟨y,l',e1,e2,e3⟩:=en_ents hB ih kp k (l ++ [⟨(Res.ok s).len,(Res.ok t1).len,(Res.ok s).named⟩]) y2 _ _ hi2 (by omega) (by omega) (by omega) (by omega) (fun t ht=>wfE_up _ _ _ _ (hwf1 t1 rfl) (hk2 t ht).le)
     refine⟨y,l',e1,e2.mono (by omega) (by rw[hl1];omega),e3⟩
    ·rw[if_neg h60]
     exact⟨_,_,rfl,hi1.mono (by omega) (by rw[hl1];omega),hwf1⟩
def Most (s:St) (M:Int) (y:Res):Prop:=∀ t,y=.ok t→t.L=s.L∧t.at'=s.at'∧(t.R.length:Int)≤M
theorem back_len (u:St) (R:List Tree) (H:List Int) {a b:Nat} (h1:a≤b):((u.back R H a b).R.length:Int)≤u.R.length+((b:Int) - (a:Int)):=by
 show((u.R ++ _).length:Int)≤_
 rw[List.length_append,List.length_take]
 omega
theorem en_groups (s:St) {M:Int} (hM:M+(s.L.length:Int)≤549755813888) (R:List Tree) (H:List Int) (any:Bool):∀ (l:List Ent) (m a lo:Nat) (x:Res),wfE lo l R.length=true→a≤lo→Most s (M - ((R.length:Int) - (a:Int)) - (l.length:Int)) x→Ends (rGroups R H any l m a x) (Most s M)
 |[],m,a,lo,x,hwf,ha,hx=>by
  rw[rGroups]
  rw[wfE,decide_eq_true_iff] at hwf
  refine⟨_,rfl,fun t ht=>?_⟩
  obtain⟨h1,h2,h3⟩:=hx t ht
  simp only[List.length_nil] at h3
  exact⟨h1,h2,by omega⟩
 |e::r,m,a,lo,x,hwf,ha,hx=>by
  rw[rGroups.eq_def]
  have hw:=hwf
  rw[wfE,Bool.and_eq_true,Bool.and_eq_true,decide_eq_true_iff,decide_eq_true_iff] at hw
  obtain⟨⟨w1,w2⟩,w4⟩:=hw
  have hlo:∀ (l:List Ent) (lo n:Nat),wfE lo l n=true→lo≤n:=by
   intro l
   induction l with
   |nil=>intro lo n h;rw[wfE,decide_eq_true_iff] at h;exact h
   |cons f r ih=>
    intro lo n h
    rw[wfE,Bool.and_eq_true,Bool.and_eq_true,decide_eq_true_iff,decide_eq_true_iff] at h
    have:=ih _ _ h.2
    omega
  have w3:=hlo _ _ _ w4
  cases x with
  |fail d0 d1 d2=>exact⟨_,rfl,fun t e=>by cases e⟩
  |ok u=>
   obtain⟨h1,h2,h3⟩:=hx u rfl
   have hb:=back_len u R H (show a≤e.b by omega)
   rw[List.length_cons] at h3
   simp only[]
   split
   ·have hc:Ends (rClose (m:Int) 233 (.ok (u.back R H a e.b))) (Most s (M - ((R.length:Int) - (e.b:Int)) - (r.length:Int))):=by
     show Ends (chk (St.close _ _ _)) _
     unfold St.close
     split
     ·exact chk_endf (fun t e=>by cases e)
     ·have hl:=closed_len (s:=u.back R H a e.b) (m:Int) 233
      refine chk_ends ?_ (fun t ht=>?_)
      ·show _+u.L.length≤_
       rw[h1]
       omega
      ·cases ht
       exact⟨h1,h2,by omega⟩
    refine Ends.bind hc fun y hy=>?_
    cases y with
    |fail d0 d1 d2=>exact⟨_,rfl,fun t e=>by cases e⟩
    |ok t=>
     simp only[]
     obtain⟨g1,g2,g3⟩:=hy t rfl
     cases r with
     |nil=>
      have hb2:=back_len t R H w3
      refine en_groups s hM R H any [] _ R.length R.length _ (by rw[wfE,decide_eq_true_iff];exact Nat.le_refl _) (Nat.le_refl _) (fun v hv=>?_)
      cases hv
      refine⟨g1,g2,?_⟩
      show((t.back R H e.b R.length).R.length:Int)≤_
      simp only[List.length_nil] at g3 ⊢
      omega
     |cons f r=>
      have w5:e.b≤f.a:=by
       rw[wfE,Bool.and_eq_true,Bool.and_eq_true,decide_eq_true_iff] at w4
       exact w4.1.1
      have hb2:=back_len t R H w5
      have w6:wfE f.a (f::r) R.length=true:=by
       rw[wfE,Bool.and_eq_true,Bool.and_eq_true,decide_eq_true_iff,decide_eq_true_iff] at w4 ⊢
       exact⟨⟨Nat.le_refl _,w4.1.2⟩,w4.2⟩
      refine en_groups s hM R H any (f::r) _ f.a f.a _ w6 (Nat.le_refl _) (fun v hv=>?_)
      cases hv
      refine⟨g1,g2,?_⟩
      show((t.back R H e.b f.a).R.length:Int)≤_
      omega
   ·refine en_groups s hM R H any r _ e.b e.b _ w4 (Nat.le_refl _) (fun v hv=>?_)
    cases hv
    exact⟨h1,h2,by omega⟩
theorem en_finish (hB:B+(L.length:Int)≤549755813888) {m:Nat} {l:List Ent} {x:Res} {a w:Int} (hx:In L a (w - (l.length:Int)) x) (hw:w+8≤B) (hwf:∀ t,x=.ok t→wfE 0 l t.R.length=true):Ends (rFinish m l x) (In L (a - 1) (w - 62)):=by
 cases x with
 |fail d0 d1 d2=>exact⟨_,rfl,In.fail _ _ _⟩
 |ok s=>
  have hs:=hx s rfl
  have hrl:=hs.rlen
  have hL:=hs.eq
  unfold rFinish
  simp only[]
  rw[if_pos (by rw[hwf s rfl,Bool.true_and,decide_eq_true_iff,hL];omega)]
  split
  ·exact en_fail (fun _ _ _=>In.fail _ _ _)
  ·have hg:Ends (rGroup l (l.any (·.is)) (.ok s)) (In L a w):=by
    unfold rGroup
    cases l with
    |nil=>
     refine⟨_,rfl,hx.mono (Int.le_refl _) ?_⟩
     simp
    |cons e r=>
     simp only[]
     have hw2:=hwf s rfl
     rw[wfE,Bool.and_eq_true,Bool.and_eq_true,decide_eq_true_iff,decide_eq_true_iff] at hw2
     have hw3:wfE e.a (e::r) s.R.length=true:=by
      rw[wfE,Bool.and_eq_true,Bool.and_eq_true,decide_eq_true_iff,decide_eq_true_iff]
      exact⟨⟨Nat.le_refl _,hw2.1.2⟩,hw2.2⟩
     have hm:=en_groups s (M:=(s.R.length:Int)+((e::r).length:Int)) (by rw[hL];omega) s.R s.H ((e::r).any (·.is)) (e::r) e.a e.a e.a (.ok { s with R:=s.R.take e.a,H:=s.H.take e.a }) hw3 (Nat.le_refl _) (fun t ht=>by
      cases ht
      refine⟨rfl,rfl,?_⟩
      show((s.R.take e.a).length:Int)≤_
      rw[List.length_take]
      omega)
     refine hm.mono fun y hy t ht=>?_
     obtain⟨h1,h2,h3⟩:=hy t ht
     obtain⟨i1,i2,i3,i4⟩:=hs
     exact⟨h1.trans i1,by rw[h2];exact i2,by rw[h2];exact i3,by rw[h2];omega⟩
   refine Ends.bind hg fun y hy=>?_
   refine Ends.bind (en_expect hy hB (by omega)) fun y2 hy2=>?_
   exact(en_close hy2 hB (by omega)).mono fun z hz=>hz.mono (by omega) (by omega)
end
theorem Ends.here {L:List Tk} {a w a' w':Int} {x:Res} (h:In L a w x) (ha:a≤a') (hw:w≤w'):Ends (some x) (In L a' w'):=⟨x,rfl,h.mono ha hw⟩
theorem Ends.bad {L:List Tk} {a w:Int} {x:Res} (h:x.bad=true):Ends (some x) (In L a w):=by
 cases x with
 |fail d0 d1 d2=>exact⟨_,rfl,In.fail _ _ _⟩
 |ok s=>cases h
theorem prec_zero:precOf 0=0:=by decide
theorem prec_pos {k p:Int} (h:¬ (precOf k=0∨precOf k<p)):k≠0:=fun e=>h (.inl (by rw[e];exact prec_zero))
theorem tot_most {L:List Tk} {B a w:Int} {n:Nat} {s:St} (p:Pc) (hp:p≠.params) (hB:B+(L.length:Int)≤549755813888) (ih:Tot L B n) (hx:In L a w (.ok s)) (hap:0≤a) (hf:fl p=true→(Res.ok s).kind≠0) (hn:100*a+rk p≤((n+1:Nat):Int)) (hw:w+8≤B):Ends (run (n+1) p (.ok s)) (In L (a - dd p) (w+cc p)):=by
 cases p
 all_goals first|(exact absurd rfl hp)|(as_aux_lemma=>
 clear hp
 have _:=hap
 have _:=hB
 have _:=ih
 first|(have hf:=hf rfl)|clear hf
 rw[run]
 try dsimp only
 dsimp only [rk,dd,cc] at hn ⊢
 iterate 24 (all_goals(first|(with_reducible exact en_fail (fun _ _ _=>In.fail _ _ _))|((with_reducible refine Ends.here ‹_› ?_ ?_) <;> omega)|(with_reducible exact Ends.bad ‹_›)|(with_reducible refine Ends.bind (Q:=In L (a - 1) (w - 63)) (en_fail (fun _ _ _=>In.fail _ _ _)) (fun y hy=>?_))|(with_reducible refine Ends.bind (Ends.here ‹_› (Int.le_refl _) (Int.le_refl _)) (fun y hy=>?_))|((with_reducible refine Ends.bind (en_take ‹_› hB ?_ ?_) (fun y hy=>?_));(focus omega);(focus omega))|((with_reducible refine Ends.bind (en_take ‹_› hB ?_ (prec_pos ‹_›)) (fun y hy=>?_));(focus omega))|((with_reducible refine Ends.bind (en_take0 ‹_› hB ?_) (fun y hy=>?_));(focus omega))|((with_reducible refine Ends.bind (en_none ‹_› hB ?_) (fun y hy=>?_));(focus omega))|((with_reducible refine Ends.bind (en_close ‹_› hB ?_) (fun y hy=>?_));(focus omega))|((with_reducible refine Ends.bind (en_expect ‹_› hB ?_) (fun y hy=>?_));(focus omega))|((with_reducible refine Ends.bind (en_down ‹_› hB ?_) (fun y hy=>?_));(focus omega))|((with_reducible refine Ends.bind (en_up ‹_› hB ?_) (fun y hy=>?_));(focus omega))|((with_reducible refine Ends.bind (en_name ‹_› hB ?_) (fun y hy=>?_));(focus omega))|((with_reducible refine Ends.bind (en_qual ‹_› hB ?_) (fun y hy=>?_));(focus omega))|((refine Ends.bind (en_run ih ‹_› (fun h=>(by first|(cases h;done)|omega)) (by dsimp only [rk];omega) (by omega)) (fun y hy=>?_));dsimp only [dd,cc] at hy)|((with_reducible refine Ends.mono (en_take ‹_› hB ?_ ?_) (fun y hy=>In.mono hy ?_ ?_)) <;> omega)|((with_reducible refine Ends.mono (en_take ‹_› hB ?_ (prec_pos ‹_›)) (fun y hy=>In.mono hy ?_ ?_)) <;> omega)|((with_reducible refine Ends.mono (en_take0 ‹_› hB ?_) (fun y hy=>In.mono hy ?_ ?_)) <;> omega)|((with_reducible refine Ends.mono (en_none ‹_› hB ?_) (fun y hy=>In.mono hy ?_ ?_)) <;> omega)|((with_reducible refine Ends.mono (en_close ‹_› hB ?_) (fun y hy=>In.mono hy ?_ ?_)) <;> omega)|((with_reducible refine Ends.mono (en_expect ‹_› hB ?_) (fun y hy=>In.mono hy ?_ ?_)) <;> omega)|((with_reducible refine Ends.mono (en_down ‹_› hB ?_) (fun y hy=>In.mono hy ?_ ?_)) <;> omega)|((with_reducible refine Ends.mono (en_up ‹_› hB ?_) (fun y hy=>In.mono hy ?_ ?_)) <;> omega)|((with_reducible refine Ends.mono (en_name ‹_› hB ?_) (fun y hy=>In.mono hy ?_ ?_)) <;> omega)|((with_reducible refine Ends.mono (en_qual ‹_› hB ?_) (fun y hy=>In.mono hy ?_ ?_)) <;> omega)|((refine Ends.mono (en_run ih ‹_› (fun h=>(by first|(cases h;done)|omega)) (by dsimp only [rk];omega) (by omega)) (fun y hy=>In.mono hy ?_ ?_)) <;> dsimp only [dd,cc] <;> omega)|split|skip)))
theorem tot_params {L:List Tk} {B a w:Int} {n:Nat} {s:St} (hB:B+(L.length:Int)≤549755813888) (ih:Tot L B n) (kp:RunKp n) (hx:In L a w (.ok s)) (hap:0≤a) (hn:100*a+rk .params≤((n+1:Nat):Int)) (hw:w+8≤B):Ends (run (n+1) .params (.ok s)) (In L (a - dd .params) (w+cc .params)):=by
 rw[run]
 dsimp only
 dsimp only [rk,dd,cc] at hn ⊢
 have _:=hap
 refine Ends.bind (en_expect hx hB (by omega)) (fun y hy=>?_)
 cases y with
 |fail d0 d1 d2=>
  have h1:0<n:=by omega
  obtain⟨k,rfl⟩:∃ k,n=k+1:=⟨n - 1,by omega⟩
  exact⟨_,rfl,In.fail _ _ _⟩
 |ok t=>
  have hp:=(hy t rfl).pos
  obtain⟨y2,l2,e1,e2,e3⟩:=en_ents hB ih kp n [] (.ok t) (a - 1) (w - 63) hy (by omega) (by omega) (by omega) (by omega) (fun u hu=>by cases hu;rw[wfE,decide_eq_true_iff];exact Nat.zero_le _)
  rw[e1]
  show Ends (rFinish _ l2 y2) _
  simp only[List.length_nil,Int.natCast_zero,Int.add_zero] at e2
  exact(en_finish hB e2 (by omega) e3).mono fun z hz=>hz.mono (by omega) (by omega)
theorem tot_all {L:List Tk} {B:Int} (hB:B+(L.length:Int)≤549755813888):∀ n,Tot L B n
 |0=>tot_zero
 |n+1=>fun p s a w hS hf hn hw=>by
  have ih:=tot_all hB n
  have kp:=run_kp n
  by_cases hp:p=.params
  ·subst hp
   exact tot_params hB ih kp hS.in hS.pos hn hw
  ·exact tot_most p hp hB ih hS.in hS.pos hf hn hw
theorem run_ends {L:List Tk} {B a w:Int} (hB:B+(L.length:Int)≤549755813888) (hw:w+8≤B) (p:Pc) (x:Res) (h:In L a w x) (hf:fl p=true→x.kind≠0) (n:Nat) (hn:100*a+20≤(n:Int)):Ends (run n p x) (In L (a - dd p) (w+cc p)):=
 en_run (tot_all hB n) h hf (by have hr:rk p≤20:=(by cases p <;> simp [rk]);omega) hw
open Go.RowKit
theorem reads (T:List Tk) (hn:T.length≤16384):∃ (N:Nat) (x1 y:Res),N≤1099511627776∧Hid (run N (.X false) (.ok ⟨T,0,[],[],0⟩)=some x1)∧Hid (rDone x1=some y):=by
 have hin:In T (T.length:Int) (64*(T.length:Int)) (.ok ⟨T,0,[],[],0⟩):=InS.in ⟨rfl,Nat.zero_le _,by simp,by simp⟩
 obtain⟨x1,h1,hi⟩:=run_ends (L:=T) (B:=64*(T.length:Int)+1000) (by omega) (by omega) (.X false) _ hin (fun h=>by cases h) (100*T.length+20) (by omega)
 obtain⟨y,h2,_⟩:Ends (rDone x1) (fun _=>True):=by
  unfold rDone
  refine lift_ends (fun _ _ _=>trivial) ?_
  rintro s rfl
  obtain⟨e1,e2,e3,e4⟩:=hi s rfl
  split
  ·refine chk_ends ?_ trivial
   have hl:(s.run (s.L.length - s.at')).R.length=s.R.length+(s.L.length - s.at'):=by simp [St.run]
   rw[hl]
   show s.R.length+(s.L.length - s.at')+s.L.length≤_
   rw[e1]
   simp only[cc] at e4
   omega
  ·exact chk_endf trivial
 exact⟨_,x1,y,by omega,Lib.hid h1,Lib.hid h2⟩
theorem Mine.typed {α:Type} {F:Kd α} {w:World} {B g n cap:Nat} {T:List α} (h:Mine F w B (.slice (some ⟨g,0,none⟩) n cap) T):∃ cur fz,w.heap[g]? = some (.cells cur F.e fz):=by
 rcases h.2 with⟨h',_⟩|⟨q,cap',cur,h',hq,hh,_⟩
 ·simp at h'
 ·simp only[Value.slice.injEq,Option.some.injEq,Addr.mk.injEq] at h'
  obtain⟨⟨rfl,_⟩,_⟩:=h'
  exact⟨_,_,hh⟩
theorem Row.spoilt {w w':World} {v:Value} {T:List Tk} {g:Nat} (h:Row tk w v T) (hs:Spoilt w w' g) (hg:∀ o n c,v=.slice (some o) n c→T≠[]→o.block≠g):Row tk w' v T:=by
 obtain⟨gl,off,o,cap,hcap,rfl,ho,hcell⟩:=h.lt
 by_cases hT:T=[]
 ·subst hT;exact Row.nil _ _ _
 ·obtain⟨rfl,hlt⟩:=ho hT
  have hne:=hg _ _ _ rfl hT
  exact⟨gl,off,_,cap,hcap,rfl,fun _=>rfl,fun j u hu=>(cell_same (hs.block gl hlt hne) _).trans (hcell j u hu)⟩
theorem Mine.full {α:Type} {F:Kd α} {w:World} {B:Nat} {v:Value} {T:List α} (h:Mine F w B v T) (hT:T≠[]):∃ g cap,v=.slice (some ⟨g,0,none⟩) T.length cap∧B≤g∧g<w.heap.size:=by
 obtain⟨g,o,cap,rfl,h1,h2,h3⟩:=h.shape
 rw[h1 hT]
 exact⟨g,cap,rfl,h2,h3.resolve_right (fun e=>hT e.1)⟩
theorem told_boxes (w:World) (k i j:Int) (o:Option Addr) (nn c:Nat) (d0 d1 d2:Int):∃ W2,(w.alloc (.cells #[.int .i64 k,.int .i64 i,.int .i64 j,.slice o nn c] 43)).alloc (.cells #[.int .i64 d0,.int .i64 d1,.int .i64 d2] 37)=W2∧Below w.heap.size w W2∧W2.heap[w.heap.size]? = some (.cells #[.int .i64 k,.int .i64 i,.int .i64 j,.slice o nn c] 43 (0,0))∧W2.heap[w.heap.size+1]? = some (.cells #[.int .i64 d0,.int .i64 d1,.int .i64 d2] 37 (0,0)):=by
 have z1:(w.alloc (.cells #[.int .i64 k,.int .i64 i,.int .i64 j,.slice o nn c] 43)).heap.size=w.heap.size+1:=World.size_alloc _ _
 have b1:Below w.heap.size w (w.alloc (.cells #[.int .i64 k,.int .i64 i,.int .i64 j,.slice o nn c] 43)):=(Below.refl _ _).alloc (Nat.le_refl _) _
 have a1:=heap_alloc_last w (.cells #[.int .i64 k,.int .i64 i,.int .i64 j,.slice o nn c] 43)
 generalize w.alloc (.cells #[.int .i64 k,.int .i64 i,.int .i64 j,.slice o nn c] 43)=W1 at *
 have a2:=heap_alloc_last W1 (.cells #[.int .i64 d0,.int .i64 d1,.int .i64 d2] 37)
 rw[z1] at a2
 refine⟨_,rfl,b1.alloc b1.size _,(heap_alloc_old W1 _ (by omega)).trans a1,a2⟩
theorem node_not_tok:nd.e≠tk.e:=by decide
theorem parses_law (v:Value) (T:List Tk) (w:World) (hr:Row tk w v T) (hbig:T.length≤140737488351232) :
  Calls Tryz.prog 4 #[v] w fun e w'=>e=.returned (.bool true)∧Below w.heap.size w w':=by
 obtain⟨len,hlen⟩:∃ len,T.length=len:=⟨_,rfl⟩
 have HR:=Lib.hid hr
 have HLN:=Lib.hid hlen
 obtain⟨gl,offl,o,cap,hcap,rfl,ho,_⟩:=hr.lt
 have HO:=Lib.hid ho
 clear ho hr
 rw[hlen] at HR hcap hbig ⊢
 clear hlen
 go_enter Tryz.func4,Tryz.ntmps4
 by_cases hlt:16384<len
 ·have hd:decide ((16384:Int)<(len:Int))=true:=decide_eq_true (by omega)
  have hd':decide (16384<len)=true:=decide_eq_true hlt
  go_wp2_with fail
  go_ret
  exact⟨rfl,Below.refl _ _⟩
 ·have hd:decide ((16384:Int)<(len:Int))=false:=decide_eq_false (by omega)
  have hd':decide (16384<len)=false:=decide_eq_false hlt
  have hT:T.length≤16384:=by rw[HLN.out];omega
  obtain⟨N,x1,y,hN,h1,h2⟩:=reads T hT
  obtain⟨d0,d1,d2,hyd⟩:∃ d0 d1 d2,y.diag=(d0,d1,d2):=⟨_,_,_,rfl⟩
  obtain⟨ok,hyo⟩:∃ ok,(!y.bad)=ok:=⟨_,rfl⟩
  have HYY:=Lib.hid (And.intro hyd hyo)
  clear hyd hyo
  have HL:=Lib.hid (lent_any HR.out (by omega))
  go_wp2_with fail
  go_at_call 8
  refine HL.out.mono ?_
  rintro e w1 ⟨v1,rfl,hm1,hb1⟩
  obtain⟨g,c1,rfl,hg0,hg1⟩:=hm1.full (by simp [marks])
  have hll:(T ++ marks).length=len+2:=by rw[List.length_append,HLN.out];rfl
  rw[hll] at hm1
  have hup:=hm1.upto len (by omega)
  rw[show(T ++ marks).take len=T by rw[← HLN.out,List.take_left'];rfl] at hup
  have hsl:∀ u,(Instr.slice 22 (.slice (some ⟨g,0,none⟩) (len+2) c1) none (some (.int .i64 (len:Int))) none).run Tryz.prog u=.ok (.slice (some ⟨g,0,none⟩) len c1) u:=hup.1
  have HUP:=Lib.hid hup.2
  have HM1:=Lib.hid (And.intro hm1 (And.intro hb1 (And.intro hg0 hg1)))
  have HP:=Lib.hid (cParse_any hN hup.2.row (by omega) h1 h2)
  clear hup hm1 hb1 hg0 hg1
  rw[hll]
  go_wp2_with fail
  go_at_call 18
  refine HP.out.mono ?_
  rintro e w2 ⟨⟨nk,ni,nj,no,nn,nc⟩,D,rfl,hb2,ht2,hD2⟩
  rw[HYY.out.1,HYY.out.2]
  dsimp only [tells,Rn.v]
  obtain⟨hm1,hb1,hg0,hg1⟩:=HM1.out
  obtain⟨W2,hW2,hbw,hx0,hx1⟩:=told_boxes w2 nk ni nj no nn nc d0 d1 d2
  have HX2:=Lib.hid (And.intro hx0 hx1)
  have ht2:=ht2.below hD2 hbw
  have hD2:OfNodes W2 D:=fun k hk=>by rw[hbw.block k (hD2.lt k hk)];exact hD2 k hk
  have hz2:=hb2.size
  have hb2:=hb2.trans (hbw.mono hb2.size)
  have hx2:=hm1.below hb2
  have hl2:=(HR.out.below hb1).below hb2
  have hgl:∀ o' n' c',(Value.slice o len cap)=.slice (some o') n' c'→T≠[]→o'.block≠g:=fun o' n' c' e hne=>by
   obtain⟨rfl,h⟩:=HO.out hne
   simp only[Value.slice.injEq,Option.some.injEq] at e
   obtain⟨rfl,_⟩:=e
   exact fun e=>by simp only[] at e;omega
  have HST:=Lib.hid (still_any (by rw[HLN.out];exact hx2) hl2 (by omega) hgl)
  rw[HLN.out] at HST
  have HM2:=Lib.hid (And.intro hx2 (And.intro hl2 (And.intro hgl (And.intro hb2 (And.intro ht2 hD2)))))
  have HGZ:=Lib.hid (show g<w2.heap.size by omega)
  clear hm1 hb1 hg0 hg1 hx2 hl2 hgl hb2 ht2 hD2 hsl hbw hx0 hx1 hz2
  go_wp2_with fail
  go_at_call 11
  refine HST.out.mono ?_
  rintro e w3 ⟨rfl,hsp⟩
  obtain⟨hx2,hl2,hgl,hb2,ht2,hD2⟩:=HM2.out
  have hDg:∀ k,D k→k≠g:=by
   rintro k hk rfl
   obtain⟨c1,f1,e1⟩:=hD2 k hk
   obtain⟨c2,f2,e2⟩:=hx2.typed
   rw[e1] at e2
   simp only[Option.some.injEq,Obj.cells.injEq] at e2
   exact node_not_tok e2.2.1
  have hl3:=hl2.spoilt hsp hgl
  have ht3:=Tie.keep (fun k hk=>hsp.block k (hD2.lt k hk) (hDg k hk)) (fun _ h=>h) _ _ ht2
  have hD3:OfNodes w3 D:=fun k hk=>by rw[hsp.block k (hD2.lt k hk) (hDg k hk)];exact hD2 k hk
  obtain⟨hm1,hb1,hg0,hg1⟩:=HM1.out
  have hB3:Below w.heap.size w w3:=by
   have hb:=hb1.trans (hb2.mono hb1.size)
   exact⟨hsp.os.trans hb.os,hsp.tape.trans hb.tape,hsp.output.trans hb.output,Nat.le_trans hb.size hsp.size,fun k hk=>(hsp.block k (Nat.lt_of_lt_of_le hk hb.size) (by omega)).trans (hb.block k hk)⟩
  obtain⟨hx0,hx1⟩:=HX2.out
  have hgz:=HGZ.out
  have hx0:=(hsp.block _ (Array.getElem?_eq_some_iff.1 hx0).1 (by omega)).trans hx0
  have hx1:=(hsp.block _ (Array.getElem?_eq_some_iff.1 hx1).1 (by omega)).trans hx1
  have HX3:=Lib.hid (And.intro hx0 hx1)
  have HM3:=Lib.hid (And.intro ht3 (And.intro hD3 hB3))
  have HRP:=Lib.hid (refParse_any hN hl3 (by omega) h1 h2)
  clear hx0 hx1 hgz HGZ HX2 hx2 hl2 hgl hb2 ht2 hD2 hDg hl3 ht3 hD3 hm1 hb1 hg0 hg1 hB3 hsp HST
  go_wp2_with fail
  go_at_call 19
  refine HRP.out.mono ?_
  rintro e w4 ⟨⟨mk,mi,mj,mo,mn,mc⟩,D4,rfl,hb4,ht4,hD4⟩
  rw[HYY.out.1,HYY.out.2]
  dsimp only [tells,Rn.v]
  obtain⟨ht3,hD3,hB3⟩:=HM3.out
  obtain⟨W5,hW5,hbw,hy0,hy1⟩:=told_boxes w4 mk mi mj mo mn mc d0 d1 d2
  have hb5:=hb4.trans (hbw.mono hb4.size)
  have HSAME:=Lib.hid (same_t y.tree W5 D D4 _ _ (ht3.below hD3 hb5) (fun k hk=>by rw[hb5.block k (hD3.lt k hk)];exact hD3 k hk) (ht4.below hD4 hbw) (fun k hk=>by rw[hbw.block k (hD4.lt k hk)];exact hD4 k hk))
  have HB4:=Lib.hid (hB3.trans (hb5.mono hB3.size))
  obtain⟨hx0,hx1⟩:=HX3.out
  obtain⟨⟨n0,n1,n2,n3⟩,fn⟩:=four_cells ((hb5.block _ (Array.getElem?_eq_some_iff.1 hx0).1).trans hx0)
  obtain⟨⟨e0,e1,e2⟩,fe⟩:=three_cells ((hb5.block _ (Array.getElem?_eq_some_iff.1 hx1).1).trans hx1)
  obtain⟨⟨m0,m1,m2,m3⟩,fm⟩:=four_cells hy0
  obtain⟨⟨f0,f1,f2⟩,ff⟩:=three_cells hy1
  have HE:=Lib.hid (And.intro hy0 (And.intro hy1 ((hb5.block _ (Array.getElem?_eq_some_iff.1 hx1).1).trans hx1)))
  dsimp only [Rn.v] at HSAME
  clear ht3 hD3 hB3 hb4 ht4 hD4 hb5 hbw hx0 hx1 hy0 hy1
  go_wp2_with fail
  go_at_call 20
  refine HSAME.out.mono ?_
  rintro e w6 ⟨rfl,hb6⟩
  have HB6:=Lib.hid (HB4.out.trans (hb6.mono HB4.out.size))
  have hlt3:=HM3.out.2.2.size
  obtain⟨hy0,hy1,hx1⟩:=HE.out
  obtain⟨⟨e0,e1,e2⟩,fe⟩:=three_cells ((hb6.block _ (Array.getElem?_eq_some_iff.1 hx1).1).trans hx1)
  obtain⟨⟨f0,f1,f2⟩,ff⟩:=three_cells ((hb6.block _ (Array.getElem?_eq_some_iff.1 hy1).1).trans hy1)
  clear hy0 hy1 hx1 hb6
  go_wp2_with fail
  go_ret
  exact⟨rfl,HB6.out⟩
end Go.Proofs.YtmelbeefjgjdhaaGreat.rd
