/-
  Texts put together: Km, Ki, Kj.
-/
import Derived.Test.YtmelbeefjgjdhaaGreatP32
import Derived.Test.YtmelbeefjgjdhaaGreatP4
set_option maxRecDepth 100000
set_option maxHeartbeats 8000000
namespace Go.Proofs.YtmelbeefjgjdhaaGreat.rd
open Go.RowKit
def SameT (t:Tree):Prop:=∀ (w:World) (D D2:Nat→Prop) (n n2:Rn),Tie w D t n→OfNodes w D→Tie w D2 t n2→OfNodes w D2→Calls Tryz.prog 20 #[n.v,n2.v] w fun e w'=>e=.returned (.bool true)∧Below w.heap.size w w'
theorem same_node (k i j:Int) (l:List Tree) (ih:∀ t∈l,SameT t):SameT (.mk k i j l):=by
 intro w D D2 n n2 hT hD hT2 hD2
 obtain⟨k',i',j',o,nn,c⟩:=n
 obtain⟨k2,i2,j2,o2,nn2,c2⟩:=n2
 rw[Tie] at hT hT2
 obtain⟨rfl,rfl,rfl,hnn,g0,off0,R,⟨hc,hl⟩,ho,hcell,hties⟩:=hT
 obtain⟨hk2,hi2,hj2,hnn2,g2,off2,R2,⟨hc2,_⟩,ho2,hcell2,hties2⟩:=hT2
 simp only[] at hnn hc ho hnn2 hc2 ho2 hk2 hi2 hj2
 subst hnn hnn2 hk2 hi2 hj2
 show Calls Tryz.prog 20 #[.agg #[.int .i64 k2,.int .i64 i2,.int .i64 j2,.slice o l.length c],.agg #[.int .i64 k2,.int .i64 i2,.int .i64 j2,.slice o2 l.length c2]] w _
 go_enter Tryz.func20,Tryz.ntmps20
 go_wp2_with fail
 have hlR:=hties.length
 have hlR2:=hties2.length
 obtain⟨len,hlen⟩:∃ len,l.length=len:=⟨_,rfl⟩
 have z1:(w.alloc (.cells #[.int .i64 k2,.int .i64 i2,.int .i64 j2,.slice o l.length c] 43)).heap.size=w.heap.size+1:=World.size_alloc _ _
 have b1:Below w.heap.size w (w.alloc (.cells #[.int .i64 k2,.int .i64 i2,.int .i64 j2,.slice o l.length c] 43)):=(Below.refl _ _).alloc (Nat.le_refl _) _
 have a1:=heap_alloc_last w (.cells #[.int .i64 k2,.int .i64 i2,.int .i64 j2,.slice o l.length c] 43)
 obtain⟨W1,hW1⟩:∃ W1,w.alloc (.cells #[.int .i64 k2,.int .i64 i2,.int .i64 j2,.slice o l.length c] 43)=W1:=⟨_,rfl⟩
 rw[hW1] at z1 b1 a1 ⊢
 have a2:=heap_alloc_last W1 (.cells #[.int .i64 k2,.int .i64 i2,.int .i64 j2,.slice o2 l.length c2] 43)
 have a1':=(heap_alloc_old W1 (.cells #[.int .i64 k2,.int .i64 i2,.int .i64 j2,.slice o2 l.length c2] 43) (show w.heap.size<W1.heap.size by omega)).trans a1
 have b2:=b1.alloc b1.size (.cells #[.int .i64 k2,.int .i64 i2,.int .i64 j2,.slice o2 l.length c2] 43)
 obtain⟨W2,hW2⟩:∃ W2,W1.alloc (.cells #[.int .i64 k2,.int .i64 i2,.int .i64 j2,.slice o2 l.length c2] 43)=W2:=⟨_,rfl⟩
 rw[hW2] at a2 a1' b2 ⊢
 rw[z1] at a2
 obtain⟨X,hX⟩:∃ X,w.heap.size=X:=⟨_,rfl⟩
 have HXB:=Lib.hid (And.intro hX b2)
 rw[hX] at a2 a1' ⊢
 rw[hlen] at a2 a1' hl hlR hlR2 ⊢
 have HA:=Lib.hid (And.intro a1' a2)
 have HT:=Lib.hid (And.intro hties (And.intro hD (And.intro hties2 hD2)))
 have HC:=Lib.hid (And.intro hcell hcell2)
 have HOO:=Lib.hid (And.intro ho ho2)
 have HIH:=Lib.hid ih
 have HLN:=Lib.hid (And.intro hlen (And.intro hlR hlR2))
 have hB2:=b2
 clear hlR hlR2 hlen z1 b1 a1 hW1 a2 a1' b2 hW2 hX hties hties2 hD hD2 hcell hcell2 ho ho2 ih hc hc2 hB2
 go_loopw [5] (fun p wr=>∃ i:Nat,i≤len∧p=.int .i64 (i:Int)∧Below W2.heap.size W2 wr) (fun p _=>len - (intOf p).toNat)
 case atStart=>exact⟨0,Nat.zero_le _,rfl,Below.refl _ _⟩
 case round=>
  obtain⟨i,hil,rfl,hb⟩:=hrel
  obtain⟨x1,x2⟩:=HA.out
  have y1:=(hb.block X (Array.getElem?_eq_some_iff.1 x1).1).trans x1
  have y2:=(hb.block (X+1) (Array.getElem?_eq_some_iff.1 x2).1).trans x2
  have q1:X<wr.heap.size:=(Array.getElem?_eq_some_iff.1 y1).1
  have q2:X+1<wr.heap.size:=(Array.getElem?_eq_some_iff.1 y2).1
  obtain⟨⟨_,_,_,e1⟩,_⟩:=four_cells0 y1
  obtain⟨⟨_,_,_,e2⟩,_⟩:=four_cells0 y2
  have hbw:Below w.heap.size w wr:=HXB.out.2.trans (hb.mono HXB.out.2.size)
  have HB:=Lib.hid hb
  by_cases hlt:i<len
  ·have hlne:l≠[]:=by intro e;have:=HLN.out.1;rw[e] at this;simp at this;omega
   have hil2:i<l.length:=by rw[HLN.out.1];exact hlt
   have hiR:i<R.length:=by rw[HLN.out.2.1];exact hlt
   have hiR2:i<R2.length:=by rw[HLN.out.2.2];exact hlt
   obtain⟨ho,hd0⟩:=HOO.out.1 hlne
   obtain⟨ho2,hd2⟩:=HOO.out.2 hlne
   subst ho ho2
   have hg0:=HT.out.2.1.lt g0 hd0
   have hg2:=HT.out.2.2.2.lt g2 hd2
   obtain⟨a0,a1,a2,a3⟩:=cells_nd HC.out.1 i hiR
   obtain⟨s0,s1,s2,s3⟩:=cells_nd HC.out.2 i hiR2
   have t1:=(ties_get' HT.out.1 hil2 hiR)
   have t2:=(ties_get' HT.out.2.2.1 hil2 hiR2)
   obtain⟨⟨nk,ni,nj,no,nn,nc⟩,hn1⟩:∃ n,R[i]=n:=⟨_,rfl⟩
   obtain⟨⟨mk,mi,mj,mo,mn,mc⟩,hn2⟩:∃ n,R2[i]=n:=⟨_,rfl⟩
   rw[hn1] at a0 a1 a2 a3 t1
   rw[hn2] at s0 s1 s2 s3 t2
   have c0:=(hbw.cell (p:=⟨g0,off0+i*4,none⟩) hg0).trans a0
   have c1:=(hbw.cell (p:=⟨g0,off0+i*4+1,none⟩) hg0).trans a1
   have c2':=(hbw.cell (p:=⟨g0,off0+i*4+2,none⟩) hg0).trans a2
   have c3:=(hbw.cell (p:=⟨g0,off0+i*4+3,none⟩) hg0).trans a3
   have d0:=(hbw.cell (p:=⟨g2,off2+i*4,none⟩) hg2).trans s0
   have d1:=(hbw.cell (p:=⟨g2,off2+i*4+1,none⟩) hg2).trans s1
   have d2:=(hbw.cell (p:=⟨g2,off2+i*4+2,none⟩) hg2).trans s2
   have d3:=(hbw.cell (p:=⟨g2,off2+i*4+3,none⟩) hg2).trans s3
   have HCALL:Hid (∀ u,Below wr.heap.size wr u→Calls Tryz.prog 20 #[.agg #[.int .i64 nk,.int .i64 ni,.int .i64 nj,.slice no nn nc],.agg #[.int .i64 mk,.int .i64 mi,.int .i64 mj,.slice mo mn mc]] u fun e w'=>e=.returned (.bool true)∧Below u.heap.size u w'):=Lib.hid (fun u hu=>by
    have hbu:=hbw.trans (hu.mono hbw.size)
    exact HIH.out l[i] (List.getElem_mem hil2) u D D2 ⟨nk,ni,nj,no,nn,nc⟩ ⟨mk,mi,mj,mo,mn,mc⟩ (t1.below HT.out.2.1 hbu) (HT.out.2.1.below hbu) (t2.below HT.out.2.2.2 hbu) (HT.out.2.2.2.below hbu))
   have hq0:(0:Int)≤(i:Int):=by omega
   have hww:(i:Int)+1≤1099511627777:=by omega
   have hd:decide ((i:Int)<(len:Int))=true:=decide_eq_true (by omega)
   have hd':decide (i<len)=true:=decide_eq_true hlt
   simp only[] at c0 c1 c2' c3 d0 d1 d2 d3
   clear a0 a1 a2 a3 s0 s1 s2 s3 t1 t2 hn1 hn2 hbw x1 x2 y1 y2 hb
   go_wp2_with fail
   go_cut [52] (fun v wx=>v=.bool false∧Below wr.heap.size wr wx)
   case first=>
    go_region_law (first|(go_simp;go_at_call 20;refine(HCALL.out _ ?_).mono ?_;(first|exact(Below.refl _ _).drew|exact Below.refl _ _);rintro e w9 ⟨rfl,hb9⟩;have hbb:Below wr.heap.size wr w9:=(by first|exact(Below.refl _ _).drew.trans hb9|exact hb9);have HBB:=Lib.hid hbb;clear hb9 hbb;dsimp only))
    all_goals(go_simp;(try go_wp2_with fail);go_meet)
    all_goals exact⟨rfl,HBB.out⟩
   case rest=>
    obtain⟨rfl,hbc⟩:=hcut
    have HBB:=Lib.hid hbc
    clear hbc
    go_wp2_with fail
    all_goals first|exact⟨⟨i+1,by omega,by go_num,HB.out.trans (HBB.out.mono HB.out.size)⟩,by simp [intOf];omega⟩|(go_roundw;(case rel=>exact⟨i+1,by omega,by go_num,HB.out.trans (HBB.out.mono HB.out.size)⟩);(case measure=>simp [intOf];omega))
  ·have hd:decide ((i:Int)<(len:Int))=false:=decide_eq_false (by omega)
   have hd':decide (i<len)=false:=decide_eq_false hlt
   have HBW:=Lib.hid hbw
   clear x1 x2 y1 y2 hb hbw
   go_wp2_with fail
   go_ret
   exact⟨rfl,HBW.out⟩
mutual
theorem same_t:∀ t:Tree,SameT t
 |.mk k i j l=>same_node k i j l (same_l l)
theorem same_l:∀ (l:List Tree),∀ t∈l,SameT t
 |[],t,h=>by cases h
 |u::l,t,h=>by
  rcases List.mem_cons.1 h with h|h
  ·rw[h];exact same_t u
  ·exact same_l l t h
end
open Go.RowKit
theorem RcAt.beside {w w':World} {b X:Nat} {vL vS vR:Value} {σ:Rc} (h:RcAt w b vL vS vR σ) (hX:∃ cs,w.heap[X]? = some (.cells cs 37 (0,0))) (hs:∀ k,k≠X→w'.heap[k]? = w.heap[k]?):RcAt w' b vL vS vR σ:=by
 obtain⟨cs,hX⟩:=hX
 have hbx:b≠X:=by rintro rfl;rw[h.cells] at hX;simp only[Option.some.injEq,Obj.cells.injEq] at hX;exact absurd hX.2.1 (by decide)
 refine⟨(hs b hbx).trans h.cells,h.toks.keep (fun k hk _=>hs k (fun e=>h.toks.ne hX (by decide) (by rw[← e];exact hk))),h.sigs.keep (fun k hk _=>hs k (fun e=>h.sigs.ne hX (by decide) (by rw[← e];exact hk))),h.row.keep (fun k hk _=>hs k (fun e=>h.row.ne hX (by decide) (by rw[← e];exact hk))),h.read,h.few⟩
theorem three_at {w:World} {X:Nat} {x0 x1 x2:Value} {e:TypeId} (h:w.heap[X]? = some (.cells #[x0,x1,x2] e (0,0))):(w.cell? ⟨X,0,none⟩=some x0∧w.cell? ⟨X,1,none⟩=some x1∧w.cell? ⟨X,2,none⟩=some x2)∧∀ j,w.frozen? ⟨X,j,none⟩=false:=
 ⟨⟨by rw[cell_of_row w X 0 _ _ _ h];rfl,by rw[cell_of_row w X 1 _ _ _ h];rfl,by rw[cell_of_row w X 2 _ _ _ h];rfl⟩,fun j=>frozen_of_row w X j _ _ h⟩
theorem cDone_bad {W:World} {b:Nat} {vL vS vR:Value} {σ:Rc} (h:RcAt W b vL vS vR σ) (hf:σ.failed=true) :
  Calls Tryz.prog 15 #[.pointer (some ⟨b,0,none⟩)] W fun e w'=>e=.returned (.tuple #[.slice none 0 0,.agg #[.int .i64 σ.d0,.int .i64 σ.d1,.int .i64 σ.d2],.bool false])∧Below W.heap.size W w':=by
 have hB1:Below W.heap.size W (W.alloc (.cells #[.int .i64 0,.int .i64 0,.int .i64 0] 37)):=(Below.refl _ _).alloc (Nat.le_refl _) _
 have hX:(W.alloc (.cells #[.int .i64 0,.int .i64 0,.int .i64 0] 37)).heap[W.heap.size]? = some (.cells #[.int .i64 0,.int .i64 0,.int .i64 0] 37 (0,0)):=heap_alloc_last _ _
 obtain⟨W1,hW1⟩:∃ W1,W.alloc (.cells #[.int .i64 0,.int .i64 0,.int .i64 0] 37)=W1:=⟨_,rfl⟩
 rw[hW1] at hB1 hX
 replace h:=h.below hB1
 have HK:=Lib.hid (ckind_any h)
 have h0:σ.ahead 0=0:=by unfold Rc.ahead;rw[hf];rfl
 rw[h0] at HK
 have HW1:=Lib.hid hW1
 have HH:=Lib.hid (And.intro h (And.intro hB1 hX))
 clear h h0 hB1 hX hW1
 go_enter Tryz.func15,Tryz.ntmps15
 go_wp2_with fail
 rw[HW1.out]
 go_at_call 57
 refine HK.out.mono ?_
 rintro e w2 ⟨rfl,hb2⟩
 obtain⟨h,hB1,hX⟩:=HH.out
 have h2:=h.below hb2
 have hX2:=(hb2.block _ (Array.getElem?_eq_some_iff.1 hX).1).trans hX
 obtain⟨⟨_,_,_,_,_,_,b6,b7,b8,b9⟩,_⟩:=ten_at h2.cells
 rw[hf] at b9
 obtain⟨⟨x0,x1,x2⟩,fx⟩:=three_at hX2
 have z0:=fx 0
 have z1:=fx 1
 have z2:=fx 2
 have HXX:=Lib.hid hX2
 have HB:=Lib.hid (hB1.trans (hb2.mono hB1.size))
 clear h hB1 hX h2 hX2 hb2 fx
 go_wp2_with fail
 go_region
 all_goals(try go_wp2_with fail)
 try simp only[Exit.inBlock,Exit.then]
 have hbox:(((w2.setCell ⟨W.heap.size,0,none⟩ (.int .i64 σ.d0)).setCell ⟨W.heap.size,1,none⟩ (.int .i64 σ.d1)).setCell ⟨W.heap.size,2,none⟩ (.int .i64 σ.d2)).heap[W.heap.size]? = some (.cells #[.int .i64 σ.d0,.int .i64 σ.d1,.int .i64 σ.d2] 37 (0,0)):=heap_setCell_same _ _ 2 _ _ _ (heap_setCell_same _ _ 1 _ _ _ (heap_setCell_same _ _ 0 _ _ _ HXX.out))
 refine bodyPost_ret (results_mix rfl _ _ W.heap.size 37 _ (0,0) _ rfl hbox Tryz.underlying37 rfl (by as_aux_lemma=>kernel_rfl)) rfl ?_
 have hb:=HB.out
 refine⟨rfl,⟨hb.os,hb.tape,hb.output,?_,fun k hk=>(three_set _ _ _ _ _ k (by omega)).trans (hb.block k hk)⟩⟩
 show W.heap.size≤(World.setCell _ _ _).heap.size
 rw[size_set,size_set,size_set]
 exact hb.size
theorem cDone_left {W:World} {b:Nat} {vL vS vR:Value} {σ:Rc} (h:RcAt W b vL vS vR σ) (hf:σ.failed=false) (hk:σ.ahead 0≠0) :
  Calls Tryz.prog 15 #[.pointer (some ⟨b,0,none⟩)] W fun e w'=>∃ vR',e=.returned (.tuple #[.slice none 0 0,.agg #[.int .i64 (σ.fail 201).d0,.int .i64 (σ.fail 201).d1,.int .i64 (σ.fail 201).d2],.bool false])∧Nx W b vR (.slice none 0 0) w' vR' (.slice none 0 0):=by
 have hB1:Below W.heap.size W (W.alloc (.cells #[.int .i64 0,.int .i64 0,.int .i64 0] 37)):=(Below.refl _ _).alloc (Nat.le_refl _) _
 have hX:(W.alloc (.cells #[.int .i64 0,.int .i64 0,.int .i64 0] 37)).heap[W.heap.size]? = some (.cells #[.int .i64 0,.int .i64 0,.int .i64 0] 37 (0,0)):=heap_alloc_last _ _
 obtain⟨W1,hW1⟩:∃ W1,W.alloc (.cells #[.int .i64 0,.int .i64 0,.int .i64 0] 37)=W1:=⟨_,rfl⟩
 rw[hW1] at hB1 hX
 replace h:=h.below hB1
 have HK:=Lib.hid (ckind_any h)
 have hk0:(σ.ahead 0 == 0)=false:=beq_eq_false_iff_ne.2 hk
 obtain⟨k0,hk0e⟩:∃ k0,σ.ahead 0=k0:=⟨_,rfl⟩
 rw[hk0e] at HK hk0
 clear hk hk0e
 have HW1:=Lib.hid hW1
 have HH:=Lib.hid (And.intro h (And.intro hB1 hX))
 clear h hB1 hX hW1
 go_enter Tryz.func15,Tryz.ntmps15
 go_wp2_with fail
 rw[HW1.out]
 go_at_call 57
 refine HK.out.mono ?_
 rintro e w2 ⟨rfl,hb2⟩
 obtain⟨h,hB1,hX⟩:=HH.out
 have HF:=Lib.hid (cfail_any (h.below hb2) 201)
 have hf2:(σ.fail 201).failed=true:=by unfold Rc.fail;rw[hf];rfl
 have hX2:=(hb2.block _ (Array.getElem?_eq_some_iff.1 hX).1).trans hX
 have hbx:b≠W.heap.size:=by rintro rfl;rw[h.cells] at hX;simp only[Option.some.injEq,Obj.cells.injEq] at hX;exact absurd hX.2.1 (by decide)
 have hbR:=h.row.ne hX (by decide)
 have HX2:=Lib.hid (And.intro hX2 (And.intro hbx (And.intro hbR (hB1.trans (hb2.mono hB1.size)))))
 clear h hB1 hX hX2 hbx hbR hb2
 go_wp2_with fail
 go_at_call 45
 refine HF.out.mono ?_
 rintro e w3 ⟨v3,vR3,rfl,h3,hn3⟩
 obtain⟨hX2,hbx,hbR,hbW⟩:=HX2.out
 have hX3:=(hn3.block _ (Array.getElem?_eq_some_iff.1 hX2).1 (fun e=>hbx e.symm) hbR (by simp [Value.ownBlock])).trans hX2
 obtain⟨⟨_,_,_,_,_,_,b6,b7,b8,b9⟩,_⟩:=ten_at h3.cells
 rw[hf2] at b9
 obtain⟨⟨x0,x1,x2⟩,fx⟩:=three_at hX3
 have z0:=fx 0
 have z1:=fx 1
 have z2:=fx 2
 have HXX:=Lib.hid hX3
 have HB:=Lib.hid (And.intro hbW hn3)
 clear h3 hn3 hX2 hbx hbR hbW hX3 fx
 go_wp2_with fail
 go_region
 all_goals(try go_wp2_with fail)
 try simp only[Exit.inBlock,Exit.then]
 have hbox:(((w3.setCell ⟨W.heap.size,0,none⟩ (.int .i64 (σ.fail 201).d0)).setCell ⟨W.heap.size,1,none⟩ (.int .i64 (σ.fail 201).d1)).setCell ⟨W.heap.size,2,none⟩ (.int .i64 (σ.fail 201).d2)).heap[W.heap.size]? = some (.cells #[.int .i64 (σ.fail 201).d0,.int .i64 (σ.fail 201).d1,.int .i64 (σ.fail 201).d2] 37 (0,0)):=heap_setCell_same _ _ 2 _ _ _ (heap_setCell_same _ _ 1 _ _ _ (heap_setCell_same _ _ 0 _ _ _ HXX.out))
 refine bodyPost_ret (results_mix rfl _ _ W.heap.size 37 _ (0,0) _ rfl hbox Tryz.underlying37 rfl (by as_aux_lemma=>kernel_rfl)) rfl ?_
 obtain⟨hb,hn⟩:=HB.out
 have hnn:=(Nx.below hb:Nx W b vR (.slice none 0 0) w2 vR (.slice none 0 0)).trans hn
 refine⟨_,rfl,⟨hnn.os,hnn.tape,hnn.output,?_,fun k hk a1 a2 a3=>(three_set _ _ _ _ _ k (by omega)).trans (hnn.block k hk a1 a2 a3),hnn.newR,hnn.newH⟩⟩
 show W.heap.size≤(World.setCell _ _ _).heap.size
 rw[size_set,size_set,size_set]
 exact hnn.size
open Go.RowKit
structure Dn (w3 wr:World) (vr:Value) (l:List Tree) (q:Nat) (R':List Rn) (D':Nat→Prop):Prop where
 below:Below w3.heap.size w3 wr
 row:Mine nd wr w3.heap.size vr R'
 len:R'.length=q
 ties:Ties wr D' (l.take q) R'
 dead:∀ h,D' h→w3.heap.size≤h∧vr.ownBlock≠some h∧∃ cur fz,wr.heap[h]? = some (.cells cur nd.e fz)
theorem Dn.push {w3 wr w9:World} {vr:Value} {l:List Tree} {q:Nat} {R':List Rn} {D' D2:Nat→Prop} {n:Rn} (h:Dn w3 wr vr l q R' D') (hb:Below wr.heap.size wr w9) (hq:q<l.length) (hl:l.length≤1099511627776) (hT:Tie w9 D2 l[q] n) (hD2:∀ g,D2 g→wr.heap.size≤g∧∃ cur fz,w9.heap[g]? = some (.cells cur nd.e fz)) :
  ∃ v' wA,(∀ ty,(Builtin.append_ #[35,35] ty #[vr,.slice (some ⟨w9.heap.size,0,none⟩) 1 1]).run Tryz.prog (w9.alloc (.cells #[.int .i64 n.k,.int .i64 n.i,.int .i64 n.j,.slice n.o n.n n.c] 43))=.ok v' wA)∧(∃ o l' c,v'=.slice o l' c)∧Dn w3 wA v' l (q+1) (R' ++ [n]) (fun h=>D' h∨D2 h):=by
 have hu:Below w9.heap.size w9 (w9.alloc (.cells (nd.c n).toArray nd.e)):=(Below.refl _ _).alloc (Nat.le_refl _) _
 have hz:(w9.alloc (.cells (nd.c n).toArray nd.e)).heap.size=w9.heap.size+1:=World.size_alloc _ _
 have hbu:Below wr.heap.size wr (w9.alloc (.cells (nd.c n).toArray nd.e)):=hb.trans (hu.mono hb.size)
 have hle:=h.len
 have hs3:=h.below.size
 have hs9:=hb.size
 obtain⟨g,cap,wA,h3,h4,h5,h6⟩:=app_lies (F:=nd) (x:=n) (h.row.below hbu) (heap_alloc_last w9 _) (by omega) (by simp [maxLen];omega) (by show(R'.length+1)*48≤_;omega)
 have hgw:w3.heap.size≤g:=by
  rcases h6 with h6|h6
  ·exact(World.ownsRow.lt h.row g h6).1
  ·rw[h6];omega
 have hold:∀ k o,(w9.alloc (.cells (nd.c n).toArray nd.e)).heap[k]? = some o→vr.ownBlock≠some k→wA.heap[k]? = some o:=fun k o hk hv=>(h5.block k (Array.getElem?_eq_some_iff.1 hk).1 (fun e=>hv e.symm)).trans hk
 have hvl:∀ k,vr.ownBlock=some k→w3.heap.size≤k∧k<wr.heap.size:=fun k hk=>World.ownsRow.lt h.row k hk
 have hdd:∀ k,D' k→wA.heap[k]? = wr.heap[k]?:=fun k hk=>by
  obtain⟨a,b,cur,fz,hc⟩:=h.dead k hk
  rw[hc]
  exact hold k _ ((hbu.block k (Array.getElem?_eq_some_iff.1 hc).1).trans hc) b
 have hd2:∀ k,D2 k→wA.heap[k]? = w9.heap[k]?:=fun k hk=>by
  obtain⟨a,cur,fz,hc⟩:=hD2 k hk
  rw[hc]
  exact hold k _ ((hu.block k (Array.getElem?_eq_some_iff.1 hc).1).trans hc) (fun e=>by have:=hvl k e;omega)
 have hbel:Below w3.heap.size w3 wA:=(h.below.trans (hbu.mono hs3)).grown h5 (by omega) (fun k hk=>(hvl k hk).1)
 refine⟨_,wA,h3,⟨_,_,_,rfl⟩,⟨hbel,?_,by rw[List.length_append,hle];rfl,?_,fun k hk=>?_⟩⟩
 ·exact h4
 ·rw[List.take_add_one,List.getElem?_eq_getElem hq]
  exact Ties.append (Ties.keep hdd (fun _ h=>.inl h) _ _ h.ties) (Ties.cons (Tie.keep hd2 (fun _ h=>.inr h) _ _ hT) Ties.nil)
 ·rcases hk with hk|hk
  ·obtain⟨a,b,cur,fz,hc⟩:=h.dead k hk
   refine⟨a,fun e=>?_,cur,fz,by rw[hdd k hk];exact hc⟩
   simp only[Value.ownBlock,Option.some.injEq] at e
   subst e
   rcases h6 with h6|h6
   ·exact b h6
   ·have:=(Array.getElem?_eq_some_iff.1 hc).1
    omega
  ·obtain⟨a,cur,fz,hc⟩:=hD2 k hk
   refine⟨by omega,fun e=>?_,cur,fz,by rw[hd2 k hk];exact hc⟩
   simp only[Value.ownBlock,Option.some.injEq] at e
   subst e
   have hkl:=(Array.getElem?_eq_some_iff.1 hc).1
   rcases h6 with h6|h6
   ·have:=hvl _ h6;omega
   ·omega
theorem cDone_ok {W:World} {b:Nat} {vL vS vR:Value} {σ:Rc} (h:RcAt W b vL vS vR σ) (h0:σ.ahead 0=0) (hf:σ.failed=false) (hfew:σ.R.length+σ.L.length≤1099511627776) (l:List Tree) (D:Nat→Prop) (hT:∀ w3 vR3,Nx W b vR (.slice none 0 0) w3 vR3 (.slice none 0 0)→Ties w3 D l ((Rl σ σ.at' (σ.L.length - σ.at')).map Bn.rn)∧OfNodes w3 D) :
  Calls Tryz.prog 15 #[.pointer (some ⟨b,0,none⟩)] W fun e w'=>∃ (v:Value) (R':List Rn) (D':Nat→Prop) (vR':Value),e=.returned (.tuple #[v,.agg #[.int .i64 0,.int .i64 0,.int .i64 0],.bool true])∧Mine nd w' 0 v R'∧Ties w' D' l R'∧OfNodes w' D'∧Nx W b vR (.slice none 0 0) w' vR' (.slice none 0 0):=by
 have HT:=Lib.hid hT
 clear hT
 have hB1:Below W.heap.size W (W.alloc (.cells #[.int .i64 0,.int .i64 0,.int .i64 0] 37)):=(Below.refl _ _).alloc (Nat.le_refl _) _
 have hX:(W.alloc (.cells #[.int .i64 0,.int .i64 0,.int .i64 0] 37)).heap[W.heap.size]? = some (.cells #[.int .i64 0,.int .i64 0,.int .i64 0] 37 (0,0)):=heap_alloc_last _ _
 obtain⟨W1,hW1⟩:∃ W1,W.alloc (.cells #[.int .i64 0,.int .i64 0,.int .i64 0] 37)=W1:=⟨_,rfl⟩
 rw[hW1] at hB1 hX
 replace h:=h.below hB1
 have HK:=Lib.hid (ckind_any h)
 rw[h0] at HK
 have HW1:=Lib.hid hW1
 have HH:=Lib.hid (And.intro h (And.intro hB1 hX))
 have hread:=h.read
 have hlf:=h.few
 clear h hB1 hX hW1
 go_enter Tryz.func15,Tryz.ntmps15
 go_wp2_with fail
 rw[HW1.out]
 go_at_call 57
 refine HK.out.mono ?_
 rintro e w2 ⟨rfl,hb2⟩
 obtain⟨h,hB1,hX⟩:=HH.out
 have h2:=h.below hb2
 have hX2:=(hb2.block _ (Array.getElem?_eq_some_iff.1 hX).1).trans hX
 have hbx:b≠W.heap.size:=by rintro rfl;rw[h.cells] at hX;simp only[Option.some.injEq,Obj.cells.injEq] at hX;exact absurd hX.2.1 (by decide)
 have hbR:=h.row.ne hX (by decide)
 obtain⟨⟨b0,_,_,_,_,_,_,_,_,b9⟩,_⟩:=ten_at h2.cells
 rw[hf] at b9
 obtain⟨gL,oL,cL,hvL,_,_⟩:=h2.toks.shape
 subst hvL
 have HRT:=Lib.hid (creadTo_any h2.t (σ.L.length - σ.at') (by omega) hfew)
 rw[show σ.at'+(σ.L.length - σ.at')=σ.L.length by omega] at HRT
 have HX2:=Lib.hid (And.intro hX2 (And.intro hbx (And.intro hbR (hB1.trans (hb2.mono hB1.size)))))
 clear h hB1 hX hX2 hbx hbR hb2 h2
 go_wp2_with fail
 go_at_call 65
 refine HRT.out.mono ?_
 rintro e w3 ⟨v3,vR3,rfl,h3,hn3⟩
 obtain⟨⟨_,_,_,_,b4,_⟩,_⟩:=ten_at h3.cells
 obtain⟨gR,oR,cR,hvR,hoR,_⟩:=h3.row.shape
 subst hvR
 have hnW:=(Nx.below HX2.out.2.2.2:Nx W b vR (.slice none 0 0) w2 vR (.slice none 0 0)).trans hn3
 obtain⟨htie,hof⟩:=HT.out _ _ hnW
 have hX3:w3.heap[W.heap.size]? = some (.cells #[.int .i64 0,.int .i64 0,.int .i64 0] 37 (0,0)):=by
  obtain⟨hX2,hbx,hbR,_⟩:=HX2.out
  exact(hn3.block _ (Array.getElem?_eq_some_iff.1 hX2).1 (fun e=>hbx e.symm) hbR (by simp [Value.ownBlock])).trans hX2
 have hcap:(Rl σ σ.at' (σ.L.length - σ.at')).length≤1099511627776:=by
  rw[Rl,List.length_append,List.length_map,List.length_take,List.length_drop]
  omega
 have hll:(Rl σ σ.at' (σ.L.length - σ.at')).length=l.length:=by
  have:=htie.length
  rw[List.length_map] at this
  exact this
 have hrow:Mine bt w3 0 (.slice oR (Rl σ σ.at' (σ.L.length - σ.at')).length cR) (Rl σ σ.at' (σ.L.length - σ.at')):=h3.row
 obtain⟨T,hTT⟩:∃ T,Rl σ σ.at' (σ.L.length - σ.at')=T:=⟨_,rfl⟩
 replace hoR:T≠[]→oR=some ⟨gR,0,none⟩:=by rw[← hTT];exact hoR
 replace b4:w3.cell? ⟨b,4,none⟩=some (.slice oR T.length cR):=by rw[← hTT];exact b4
 rw[hTT] at htie hcap hll hrow
 obtain⟨len,hlen⟩:∃ len,T.length=len:=⟨_,rfl⟩
 rw[hlen] at b4 hcap hll
 have H3:=Lib.hid (And.intro hrow (And.intro hnW (And.intro htie (And.intro hof (And.intro hX3 hoR)))))
 have HLL:=Lib.hid (And.intro hlen hll)
 clear h3 hn3 hnW htie hof hX3 hoR hrow hlen hTT hll
 go_wp2_with fail
 go_loopw [5,33] (fun p5 pv wr=>∃ (q:Nat) (R':List Rn) (D':Nat→Prop),q≤len∧pv=.int .i64 (q:Int)∧Dn w3 wr p5 l q R' D') (fun _ pv _=>len - (intOf pv).toNat)
 case atStart=>exact⟨0,[],fun _=>False,Nat.zero_le _,rfl,Below.refl _ _,Mine.nil _ _,rfl,Ties.nil,fun h hd=>hd.elim⟩
 case round=>
  obtain⟨q,R',D',hql,rfl,hdn⟩:=hrel
  by_cases hlt:q<len
  ·have hqT:q<T.length:=by rw[HLL.out.1];exact hlt
   have hql2:q<l.length:=by rw[← HLL.out.2];exact hlt
   obtain rfl:=H3.out.2.2.2.2.2 (by intro e;rw[e] at hqT;simp at hqT)
   obtain⟨a0,a1,a2,a3,a4⟩:=cells_bt H3.out.1.cells q hqT
   have hgz:gR<w3.heap.size:=H3.out.1.lt gR rfl
   have hb:=hdn.below
   have c0:=(hb.cell (p:=⟨gR,0+q*5,none⟩) hgz).trans a0
   have c1:=(hb.cell (p:=⟨gR,0+q*5+1,none⟩) hgz).trans a1
   have c2:=(hb.cell (p:=⟨gR,0+q*5+2,none⟩) hgz).trans a2
   have c3:=(hb.cell (p:=⟨gR,0+q*5+3,none⟩) hgz).trans a3
   have c4:=(hb.cell (p:=⟨gR,0+q*5+4,none⟩) hgz).trans a4
   have htq:Tie w3 D l[q] T[q].rn:=by
    have:=ties_get' H3.out.2.2.1 hql2 (by rw[List.length_map];exact hqT)
    rw[List.getElem_map] at this
    exact this
   obtain⟨⟨mk,mi,mj,mo,mn,mc,mh⟩,hnode⟩:∃ n,T[q]=n:=⟨_,rfl⟩
   rw[hnode] at c0 c1 c2 c3 c4 htq
   simp only[Nat.zero_add] at c0 c1 c2 c3 c4
   have HCALL:Hid (∀ u,Below wr.heap.size wr u→Calls Tryz.prog 66 #[.agg #[.int .i64 mk,.int .i64 mi,.int .i64 mj,.slice mo mn mc]] u fun e w'=>∃ (n':Rn) (D':Nat→Prop),e=.returned n'.v∧Below u.heap.size u w'∧Tie w' D' l[q] n'∧∀ g,D' g→u.heap.size≤g∧∃ cur fz,w'.heap[g]? = some (.cells cur nd.e fz)):=Lib.hid (fun u hu=>by
    have hbu:Below w3.heap.size w3 u:=hb.trans (hu.mono hb.size)
    exact copied_t l[q] u D ⟨mk,mi,mj,mo,mn,mc⟩ (htq.below H3.out.2.2.2.1 hbu) (H3.out.2.2.2.1.below hbu))
   have HDN:=Lib.hid hdn
   have hal:Below wr.heap.size wr (wr.alloc (.cells #[.int .i64 mk,.int .i64 mi,.int .i64 mj,.slice mo mn mc,.int .i64 mh] 73)):=(Below.refl _ _).alloc (Nat.le_refl _) _
   have hHAL:=Lib.hid hal
   have hq0:(0:Int)≤(q:Int):=by omega
   have hww:(q:Int)+1≤1099511627777:=by omega
   have hd:decide ((q:Int)<(len:Int))=true:=decide_eq_true (by omega)
   have hd':decide (q<len)=true:=decide_eq_true hlt
   have hl40:l.length≤1099511627776:=by rw[← HLL.out.2];exact hcap
   clear a0 a1 a2 a3 a4 hb htq hnode hdn hal
   go_wp2_with fail
   go_at_call 66
   refine(HCALL.out _ hHAL.out).mono ?_
   rintro e w9 ⟨⟨nk,ni,nj,no,nn,nc⟩,D2,rfl,hb9,hT9,hD9⟩
   have hs9:=hHAL.out.size
   obtain⟨v',wA,hrun,⟨o',l',c',rfl⟩,hdn'⟩:=HDN.out.push (hHAL.out.trans (hb9.mono hs9)) hql2 hl40 hT9 (fun g hg=>⟨Nat.le_trans hs9 (hD9 g hg).1,(hD9 g hg).2⟩)
   have HRUN:=Lib.hid hrun
   have HDN2:=Lib.hid hdn'
   clear hrun hdn' hT9 hD9 hb9
   dsimp only [Rn.v]
   go_wp2_with (at_builtin;refine Lib.wpList_append_run _ rfl _ _ _ _ rfl _ _ rfl rfl _ _ (HRUN.out _) ?_)
   go_roundw
   case rel=>exact⟨q+1,_,_,by omega,by go_num,HDN2.out⟩
   case measure=>simp [intOf];omega
  ·have hd:decide ((q:Int)<(len:Int))=false:=decide_eq_false (by omega)
   have hd':decide (q<len)=false:=decide_eq_false hlt
   have hX4:=(hdn.below.block _ (Array.getElem?_eq_some_iff.1 H3.out.2.2.2.2.1).1).trans H3.out.2.2.2.2.1
   obtain⟨⟨x0,x1,x2⟩,fx⟩:=three_at hX4
   have z0:=fx 0
   have z1:=fx 1
   have z2:=fx 2
   have HXX:=Lib.hid hX4
   have HDN:=Lib.hid hdn
   clear hdn hX4 fx
   go_wp2_with fail
   try simp only[Exit.inBlock,Exit.then]
   have hbox:(((wr.setCell ⟨W.heap.size,0,none⟩ (.int .i64 0)).setCell ⟨W.heap.size,1,none⟩ (.int .i64 0)).setCell ⟨W.heap.size,2,none⟩ (.int .i64 0)).heap[W.heap.size]? = some (.cells #[.int .i64 0,.int .i64 0,.int .i64 0] 37 (0,0)):=heap_setCell_same _ _ 2 _ _ _ (heap_setCell_same _ _ 1 _ _ _ (heap_setCell_same _ _ 0 _ _ _ HXX.out))
   refine bodyPost_ret (results_mix rfl _ _ W.heap.size 37 _ (0,0) _ rfl hbox Tryz.underlying37 rfl (by as_aux_lemma=>kernel_rfl)) rfl ?_
   have hdn:=HDN.out
   have hs:∀ k,k≠W.heap.size→(((wr.setCell ⟨W.heap.size,0,none⟩ (.int .i64 0)).setCell ⟨W.heap.size,1,none⟩ (.int .i64 0)).setCell ⟨W.heap.size,2,none⟩ (.int .i64 0)).heap[k]? = wr.heap[k]?:=three_set _ _ _ _ _
   have hz:(((wr.setCell ⟨W.heap.size,0,none⟩ (.int .i64 0)).setCell ⟨W.heap.size,1,none⟩ (.int .i64 0)).setCell ⟨W.heap.size,2,none⟩ (.int .i64 0)).heap.size=wr.heap.size:=by rw[size_set,size_set,size_set]
   have hX3:=(Array.getElem?_eq_some_iff.1 H3.out.2.2.2.2.1).1
   have hnn:=H3.out.2.1.trans (Nx.below hdn.below)
   have htk:l.take q=l:=List.take_of_length_le (by have:=HLL.out.2;omega)
   have hti:=hdn.ties
   rw[htk] at hti
   refine⟨_,R',D',_,rfl,(hdn.row.mono (Nat.zero_le _)).keep (fun k hk _=>hs k (fun e=>by have:=(World.ownsRow.lt hdn.row k hk).1;omega)),Ties.keep (fun g hg=>hs g (by have:=(hdn.dead g hg).1;omega)) (fun _ h=>h) _ _ hti,fun g hg=>?_,⟨hnn.os,hnn.tape,hnn.output,by rw[hz];exact hnn.size,fun k hk a1 a2 a3=>(hs k (by omega)).trans (hnn.block k hk a1 a2 a3),hnn.newR,hnn.newH⟩⟩
   obtain⟨a,_,cur,fz,hc⟩:=hdn.dead g hg
   exact⟨cur,fz,(hs g (by omega)).trans hc⟩
end Go.Proofs.YtmelbeefjgjdhaaGreat.rd
