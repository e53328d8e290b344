/-
  Texts put together: Ki, Kj, Kd, Kk, Ke.
-/
import Derived.Test.YtcekbbkidipbnaaGreatP48
import Derived.Test.YtcekbbkidipbnaaGreatP3
import Derived.Test.YtcekbbkidipbnaaGreatP29
import Derived.Test.YtcekbbkidipbnaaGreatP36
set_option maxRecDepth 100000
set_option maxHeartbeats 8000000
namespace Go.Proofs.YtcekbbkidipbnaaGreat.rd
open Go.RowKit
theorem RcAt.beside {w w':World} {b X:Nat} {vL vS vR:Value} {σ:Rc} (h:RcAt w b vL vS vR σ) (hX:∃ cs,w.heap[X]? = some (.cells cs 37 (0,0))) (hs:∀ k,k≠X→w'.heap[k]? = w.heap[k]?):RcAt w' b vL vS vR σ:=by
 obtain⟨cs,hX⟩:=hX
 have hbx:b≠X:=by rintro rfl;rw[h.cells] at hX;simp only[Option.some.injEq,Obj.cells.injEq] at hX;exact absurd hX.2.1 zdD
 refine⟨(hs b hbx).trans h.cells,h.toks.keep (fun k hk _=>hs k (fun e=>h.toks.ne hX zdD zdO)),h.sigs.keep (fun k hk _=>hs k (fun e=>h.sigs.ne hX zdD zdO)),h.row.keep (fun k hk _=>hs k (fun e=>h.row.ne hX zdD zdO)),h.read,h.few⟩
theorem three_at {w:World} {X:Nat} {x0 x1 x2:Value} {e:TypeId} (h:w.heap[X]? = some (.cells #[x0,x1,x2] e (0,0))):(w.cell? ⟨X,0,none⟩=some x0∧w.cell? ⟨X,1,none⟩=some x1∧w.cell? ⟨X,2,none⟩=some x2)∧∀ j,w.frozen? ⟨X,j,none⟩=false:=
 ⟨⟨by rw[cell_of_row w X 0 _ _ _ h];rfl,by rw[cell_of_row w X 1 _ _ _ h];rfl,by rw[cell_of_row w X 2 _ _ _ h];rfl⟩,fun j=>frozen_of_row w X j _ _ h⟩
theorem ztu {W:World} {b:Nat} {vL vS vR:Value} {σ:Rc} (h:RcAt W b vL vS vR σ) (hf:σ.failed=true) :
  Calls Tryz.prog 15 #[.pointer (some ⟨b,0,none⟩)] W fun e w'=>e=.returned (.tuple #[.slice none 0 0,.agg #[.int .i64 σ.d0,.int .i64 σ.d1,.int .i64 σ.d2],.bool false])∧Below W.heap.size W w':=by
 have hB1:Below W.heap.size W (W.alloc (.cells #[.int .i64 0,.int .i64 0,.int .i64 0] 37)):=(Below.refl _ _).alloc (Nat.le_refl _) _
 have hX:(W.alloc (.cells #[.int .i64 0,.int .i64 0,.int .i64 0] 37)).heap[W.heap.size]? = some (.cells #[.int .i64 0,.int .i64 0,.int .i64 0] 37 (0,0)):=heap_alloc_last _ _
 obtain⟨W1,hW1⟩:∃ W1,W.alloc (.cells #[.int .i64 0,.int .i64 0,.int .i64 0] 37)=W1:=⟨_,rfl⟩
 rw[hW1] at hB1 hX
 replace h:=h.below hB1
 have HK:=Lib.hid (zjy h)
 have h0:σ.ahead 0=0:=by unfold Rc.ahead;rw[hf];rfl
 rw[h0] at HK
 have HW1:=Lib.hid hW1
 have HH:=Lib.hid (And.intro h (And.intro hB1 hX))
 clear h h0 hB1 hX hW1
 go_enter Tryz.func15,Tryz.ntmps15
 go_wp2_with fail
 rw[HW1.out]
 go_at_call 57
 refine HK.out.mono ?_
 rintro e w2 ⟨rfl,hb2⟩
 obtain⟨h,hB1,hX⟩:=HH.out
 have h2:=h.below hb2
 have hX2:=(hb2.block _ (Array.getElem?_eq_some_iff.1 hX).1).trans hX
 obtain⟨⟨_,_,_,_,_,_,b6,b7,b8,b9⟩,_⟩:=zfV h2.cells
 rw[hf] at b9
 obtain⟨⟨x0,x1,x2⟩,fx⟩:=three_at hX2
 have z0:=fx 0
 have z1:=fx 1
 have z2:=fx 2
 have HXX:=Lib.hid hX2
 have HB:=Lib.hid (hB1.trans (hb2.mono hB1.size))
 clear h hB1 hX h2 hX2 hb2 fx
 go_wp2_with fail
 go_region
 all_goals(try go_wp2_with fail)
 try simp only[Exit.inBlock,Exit.then]
 have hbox:(((w2.setCell ⟨W.heap.size,0,none⟩ (.int .i64 σ.d0)).setCell ⟨W.heap.size,1,none⟩ (.int .i64 σ.d1)).setCell ⟨W.heap.size,2,none⟩ (.int .i64 σ.d2)).heap[W.heap.size]? = some (.cells #[.int .i64 σ.d0,.int .i64 σ.d1,.int .i64 σ.d2] 37 (0,0)):=heap_setCell_same _ _ 2 _ _ _ (heap_setCell_same _ _ 1 _ _ _ (heap_setCell_same _ _ 0 _ _ _ HXX.out))
 refine bodyPost_ret (zhN rfl _ _ W.heap.size 37 _ (0,0) _ rfl hbox Tryz.underlying37 rfl (by as_aux_lemma=>kernel_rfl)) rfl ?_
 have hb:=HB.out
 refine⟨rfl,⟨hb.os,hb.tape,hb.output,?_,fun k hk=>(zgq _ _ _ _ _ k zdC).trans (hb.block k hk)⟩⟩
 show W.heap.size≤(World.setCell _ _ _).heap.size
 rw[zfA,zfA,zfA]
 exact hb.size
theorem zrz {W:World} {b:Nat} {vL vS vR:Value} {σ:Rc} (h:RcAt W b vL vS vR σ) (hf:σ.failed=false) (hk:σ.ahead 0≠0) :
  Calls Tryz.prog 15 #[.pointer (some ⟨b,0,none⟩)] W fun e w'=>∃ vR',e=.returned (.tuple #[.slice none 0 0,.agg #[.int .i64 (σ.fail 201).d0,.int .i64 (σ.fail 201).d1,.int .i64 (σ.fail 201).d2],.bool false])∧Nx W b vR (.slice none 0 0) w' vR' (.slice none 0 0):=by
 have hB1:Below W.heap.size W (W.alloc (.cells #[.int .i64 0,.int .i64 0,.int .i64 0] 37)):=(Below.refl _ _).alloc (Nat.le_refl _) _
 have hX:(W.alloc (.cells #[.int .i64 0,.int .i64 0,.int .i64 0] 37)).heap[W.heap.size]? = some (.cells #[.int .i64 0,.int .i64 0,.int .i64 0] 37 (0,0)):=heap_alloc_last _ _
 obtain⟨W1,hW1⟩:∃ W1,W.alloc (.cells #[.int .i64 0,.int .i64 0,.int .i64 0] 37)=W1:=⟨_,rfl⟩
 rw[hW1] at hB1 hX
 replace h:=h.below hB1
 have HK:=Lib.hid (zjy h)
 have hk0:(σ.ahead 0 == 0)=false:=beq_eq_false_iff_ne.2 hk
 obtain⟨k0,hk0e⟩:∃ k0,σ.ahead 0=k0:=⟨_,rfl⟩
 rw[hk0e] at HK hk0
 clear hk hk0e
 have HW1:=Lib.hid hW1
 have HH:=Lib.hid (And.intro h (And.intro hB1 hX))
 clear h hB1 hX hW1
 go_enter Tryz.func15,Tryz.ntmps15
 go_wp2_with fail
 rw[HW1.out]
 go_at_call 57
 refine HK.out.mono ?_
 rintro e w2 ⟨rfl,hb2⟩
 obtain⟨h,hB1,hX⟩:=HH.out
 have HF:=Lib.hid (zjE (h.below hb2) 201)
 have hf2:(σ.fail 201).failed=true:=by unfold Rc.fail;rw[hf];rfl
 have hX2:=(hb2.block _ (Array.getElem?_eq_some_iff.1 hX).1).trans hX
 have hbx:b≠W.heap.size:=by rintro rfl;rw[h.cells] at hX;simp only[Option.some.injEq,Obj.cells.injEq] at hX;exact absurd hX.2.1 zdD
 have hbR:=h.row.ne hX zdD
 have HX2:=Lib.hid (And.intro hX2 (And.intro hbx (And.intro hbR (hB1.trans (hb2.mono hB1.size)))))
 clear h hB1 hX hX2 hbx hbR hb2
 go_wp2_with fail
 go_at_call 45
 refine HF.out.mono ?_
 rintro e w3 ⟨v3,vR3,rfl,h3,hn3⟩
 obtain⟨hX2,hbx,hbR,hbW⟩:=HX2.out
 have hX3:=(hn3.block _ (Array.getElem?_eq_some_iff.1 hX2).1 (fun e=>hbx e.symm) hbR zeO).trans hX2
 obtain⟨⟨_,_,_,_,_,_,b6,b7,b8,b9⟩,_⟩:=zfV h3.cells
 rw[hf2] at b9
 obtain⟨⟨x0,x1,x2⟩,fx⟩:=three_at hX3
 have z0:=fx 0
 have z1:=fx 1
 have z2:=fx 2
 have HXX:=Lib.hid hX3
 have HB:=Lib.hid (And.intro hbW hn3)
 clear h3 hn3 hX2 hbx hbR hbW hX3 fx
 go_wp2_with fail
 go_region
 all_goals(try go_wp2_with fail)
 try simp only[Exit.inBlock,Exit.then]
 have hbox:(((w3.setCell ⟨W.heap.size,0,none⟩ (.int .i64 (σ.fail 201).d0)).setCell ⟨W.heap.size,1,none⟩ (.int .i64 (σ.fail 201).d1)).setCell ⟨W.heap.size,2,none⟩ (.int .i64 (σ.fail 201).d2)).heap[W.heap.size]? = some (.cells #[.int .i64 (σ.fail 201).d0,.int .i64 (σ.fail 201).d1,.int .i64 (σ.fail 201).d2] 37 (0,0)):=heap_setCell_same _ _ 2 _ _ _ (heap_setCell_same _ _ 1 _ _ _ (heap_setCell_same _ _ 0 _ _ _ HXX.out))
 refine bodyPost_ret (zhN rfl _ _ W.heap.size 37 _ (0,0) _ rfl hbox Tryz.underlying37 rfl (by as_aux_lemma=>kernel_rfl)) rfl ?_
 obtain⟨hb,hn⟩:=HB.out
 have hnn:=(Nx.below hb:Nx W b vR (.slice none 0 0) w2 vR (.slice none 0 0)).trans hn
 refine⟨_,rfl,⟨hnn.os,hnn.tape,hnn.output,?_,fun k hk a1 a2 a3=>(zgq _ _ _ _ _ k zdC).trans (hnn.block k hk a1 a2 a3),hnn.newR,hnn.newH⟩⟩
 show W.heap.size≤(World.setCell _ _ _).heap.size
 rw[zfA,zfA,zfA]
 exact hnn.size
open Go.RowKit
structure Dn (w3 wr:World) (vr:Value) (l:List Tree) (q:Nat) (R':List Rn) (D':Nat→Prop):Prop where
 below:Below w3.heap.size w3 wr
 row:Mine nd wr w3.heap.size vr R'
 len:R'.length=q
 ties:Ties wr D' (l.take q) R'
 dead:∀ h,D' h→w3.heap.size≤h∧vr.ownBlock≠some h∧∃ cur fz,wr.heap[h]? = some (.cells cur nd.e fz)
theorem Dn.push {w3 wr w9:World} {vr:Value} {l:List Tree} {q:Nat} {R':List Rn} {D' D2:Nat→Prop} {n:Rn} (h:Dn w3 wr vr l q R' D') (hb:Below wr.heap.size wr w9) (hq:q<l.length) (hl:l.length≤1099511627776) (hT:Tie w9 D2 l[q] n) (hD2:∀ g,D2 g→wr.heap.size≤g∧∃ cur fz,w9.heap[g]? = some (.cells cur nd.e fz)) :
  ∃ v' wA,(∀ ty,(Builtin.append_ #[35,35] ty #[vr,.slice (some ⟨w9.heap.size,0,none⟩) 1 1]).run Tryz.prog (w9.alloc (.cells #[.int .i64 n.k,.int .i64 n.i,.int .i64 n.j,.slice n.o n.n n.c] 43))=.ok v' wA)∧(∃ o l' c,v'=.slice o l' c)∧Dn w3 wA v' l (q+1) (R' ++ [n]) (fun h=>D' h∨D2 h):=by
 have hu:Below w9.heap.size w9 (w9.alloc (.cells (nd.c n).toArray nd.e)):=(Below.refl _ _).alloc (Nat.le_refl _) _
 have hz:(w9.alloc (.cells (nd.c n).toArray nd.e)).heap.size=w9.heap.size+1:=World.size_alloc _ _
 have hbu:Below wr.heap.size wr (w9.alloc (.cells (nd.c n).toArray nd.e)):=hb.trans (hu.mono hb.size)
 have hle:=h.len
 have hs3:=h.below.size
 have hs9:=hb.size
 obtain⟨g,cap,wA,h3,h4,h5,h6⟩:=zgS (F:=nd) (x:=n) (h.row.below hbu) (heap_alloc_last w9 _) zdC zdN (by show(R'.length+1)*48≤_;omega)
 have hgw:w3.heap.size≤g:=by
  rcases h6 with h6|h6
  ·exact(World.ownsRow.lt h.row g h6).1
  ·rw[h6];omega
 have hold:∀ k o,(w9.alloc (.cells (nd.c n).toArray nd.e)).heap[k]? = some o→vr.ownBlock≠some k→wA.heap[k]? = some o:=fun k o hk hv=>(h5.block k (Array.getElem?_eq_some_iff.1 hk).1 (fun e=>hv e.symm)).trans hk
 have hvl:∀ k,vr.ownBlock=some k→w3.heap.size≤k∧k<wr.heap.size:=fun k hk=>World.ownsRow.lt h.row k hk
 have hdd:∀ k,D' k→wA.heap[k]? = wr.heap[k]?:=fun k hk=>by
  obtain⟨a,b,cur,fz,hc⟩:=h.dead k hk
  rw[hc]
  exact hold k _ ((hbu.block k (Array.getElem?_eq_some_iff.1 hc).1).trans hc) b
 have hd2:∀ k,D2 k→wA.heap[k]? = w9.heap[k]?:=fun k hk=>by
  obtain⟨a,cur,fz,hc⟩:=hD2 k hk
  rw[hc]
  exact hold k _ ((hu.block k (Array.getElem?_eq_some_iff.1 hc).1).trans hc) (fun e=>by have:=hvl k e;omega)
 have hbel:Below w3.heap.size w3 wA:=(h.below.trans (hbu.mono hs3)).grown h5 zdC (fun k hk=>(hvl k hk).1)
 refine⟨_,wA,h3,⟨_,_,_,rfl⟩,⟨hbel,?_,by rw[List.length_append,hle];rfl,?_,fun k hk=>?_⟩⟩
 ·exact h4
 ·rw[List.take_add_one,List.getElem?_eq_getElem hq]
  exact Ties.append (Ties.keep hdd (fun _ h=>.inl h) _ _ h.ties) (Ties.cons (Tie.keep hd2 (fun _ h=>.inr h) _ _ hT) Ties.nil)
 ·rcases hk with hk|hk
  ·obtain⟨a,b,cur,fz,hc⟩:=h.dead k hk
   refine⟨a,fun e=>?_,cur,fz,by rw[hdd k hk];exact hc⟩
   simp only[Value.ownBlock,Option.some.injEq] at e
   subst e
   rcases h6 with h6|h6
   ·exact b h6
   ·have:=(Array.getElem?_eq_some_iff.1 hc).1
    omega
  ·obtain⟨a,cur,fz,hc⟩:=hD2 k hk
   refine⟨by omega,fun e=>?_,cur,fz,by rw[hd2 k hk];exact hc⟩
   simp only[Value.ownBlock,Option.some.injEq] at e
   subst e
   have hkl:=(Array.getElem?_eq_some_iff.1 hc).1
   rcases h6 with h6|h6
   ·have:=hvl _ h6;omega
   ·omega
theorem zuN {W:World} {b:Nat} {vL vS vR:Value} {σ:Rc} (h:RcAt W b vL vS vR σ) (h0:σ.ahead 0=0) (hf:σ.failed=false) (hfew:σ.R.length+σ.L.length≤1099511627776) (l:List Tree) (D:Nat→Prop) (hT:∀ w3 vR3,Nx W b vR (.slice none 0 0) w3 vR3 (.slice none 0 0)→Ties w3 D l ((Rl σ σ.at' (σ.L.length - σ.at')).map Bn.rn)∧OfNodes w3 D) :
  Calls Tryz.prog 15 #[.pointer (some ⟨b,0,none⟩)] W fun e w'=>∃ (v:Value) (R':List Rn) (D':Nat→Prop) (vR':Value),e=.returned (.tuple #[v,.agg #[.int .i64 0,.int .i64 0,.int .i64 0],.bool true])∧Mine nd w' 0 v R'∧Ties w' D' l R'∧OfNodes w' D'∧Nx W b vR (.slice none 0 0) w' vR' (.slice none 0 0):=by
 have HT:=Lib.hid hT
 clear hT
 have hB1:Below W.heap.size W (W.alloc (.cells #[.int .i64 0,.int .i64 0,.int .i64 0] 37)):=(Below.refl _ _).alloc (Nat.le_refl _) _
 have hX:(W.alloc (.cells #[.int .i64 0,.int .i64 0,.int .i64 0] 37)).heap[W.heap.size]? = some (.cells #[.int .i64 0,.int .i64 0,.int .i64 0] 37 (0,0)):=heap_alloc_last _ _
 obtain⟨W1,hW1⟩:∃ W1,W.alloc (.cells #[.int .i64 0,.int .i64 0,.int .i64 0] 37)=W1:=⟨_,rfl⟩
 rw[hW1] at hB1 hX
 replace h:=h.below hB1
 have HK:=Lib.hid (zjy h)
 rw[h0] at HK
 have HW1:=Lib.hid hW1
 have HH:=Lib.hid (And.intro h (And.intro hB1 hX))
 have hread:=h.read
 have hlf:=h.few
 clear h hB1 hX hW1
 go_enter Tryz.func15,Tryz.ntmps15
 go_wp2_with fail
 rw[HW1.out]
 go_at_call 57
 refine HK.out.mono ?_
 rintro e w2 ⟨rfl,hb2⟩
 obtain⟨h,hB1,hX⟩:=HH.out
 have h2:=h.below hb2
 have hX2:=(hb2.block _ (Array.getElem?_eq_some_iff.1 hX).1).trans hX
 have hbx:b≠W.heap.size:=by rintro rfl;rw[h.cells] at hX;simp only[Option.some.injEq,Obj.cells.injEq] at hX;exact absurd hX.2.1 zdD
 have hbR:=h.row.ne hX zdD
 obtain⟨⟨b0,_,_,_,_,_,_,_,_,b9⟩,_⟩:=zfV h2.cells
 rw[hf] at b9
 obtain⟨gL,oL,cL,hvL,_,_⟩:=h2.toks.shape
 subst hvL
 have HRT:=Lib.hid (zlt h2.t (σ.L.length - σ.at') zdC hfew)
 rw[show σ.at'+(σ.L.length - σ.at')=σ.L.length by omega] at HRT
 have HX2:=Lib.hid (And.intro hX2 (And.intro hbx (And.intro hbR (hB1.trans (hb2.mono hB1.size)))))
 clear h hB1 hX hX2 hbx hbR hb2 h2
 go_wp2_with fail
 go_at_call 65
 refine HRT.out.mono ?_
 rintro e w3 ⟨v3,vR3,rfl,h3,hn3⟩
 obtain⟨⟨_,_,_,_,b4,_⟩,_⟩:=zfV h3.cells
 obtain⟨gR,oR,cR,hvR,hoR,_⟩:=h3.row.shape
 subst hvR
 have hnW:=(Nx.below HX2.out.2.2.2:Nx W b vR (.slice none 0 0) w2 vR (.slice none 0 0)).trans hn3
 obtain⟨htie,hof⟩:=HT.out _ _ hnW
 have hX3:w3.heap[W.heap.size]? = some (.cells #[.int .i64 0,.int .i64 0,.int .i64 0] 37 (0,0)):=by
  obtain⟨hX2,hbx,hbR,_⟩:=HX2.out
  exact(hn3.block _ (Array.getElem?_eq_some_iff.1 hX2).1 (fun e=>hbx e.symm) hbR zeO).trans hX2
 have hcap:(Rl σ σ.at' (σ.L.length - σ.at')).length≤1099511627776:=by
  rw[Rl,List.length_append,List.length_map,List.length_take,List.length_drop]
  omega
 have hll:(Rl σ σ.at' (σ.L.length - σ.at')).length=l.length:=by
  have:=htie.length
  rw[List.length_map] at this
  exact this
 have hrow:Mine bt w3 0 (.slice oR (Rl σ σ.at' (σ.L.length - σ.at')).length cR) (Rl σ σ.at' (σ.L.length - σ.at')):=h3.row
 obtain⟨T,hTT⟩:∃ T,Rl σ σ.at' (σ.L.length - σ.at')=T:=⟨_,rfl⟩
 replace hoR:T≠[]→oR=some ⟨gR,0,none⟩:=by rw[← hTT];exact hoR
 replace b4:w3.cell? ⟨b,4,none⟩=some (.slice oR T.length cR):=by rw[← hTT];exact b4
 rw[hTT] at htie hcap hll hrow
 obtain⟨len,hlen⟩:∃ len,T.length=len:=⟨_,rfl⟩
 rw[hlen] at b4 hcap hll
 have H3:=Lib.hid (And.intro hrow (And.intro hnW (And.intro htie (And.intro hof (And.intro hX3 hoR)))))
 have HLL:=Lib.hid (And.intro hlen hll)
 clear h3 hn3 hnW htie hof hX3 hoR hrow hlen hTT hll
 go_wp2_with fail
 go_loopw [5,33] (fun p5 pv wr=>∃ (q:Nat) (R':List Rn) (D':Nat→Prop),q≤len∧pv=.int .i64 (q:Int)∧Dn w3 wr p5 l q R' D') (fun _ pv _=>len - (intOf pv).toNat)
 case atStart=>exact⟨0,[],fun _=>False,Nat.zero_le _,rfl,Below.refl _ _,Mine.nil _ _,rfl,Ties.nil,fun h hd=>hd.elim⟩
 case round=>
  obtain⟨q,R',D',hql,rfl,hdn⟩:=hrel
  by_cases hlt:q<len
  ·have hqT:q<T.length:=by rw[HLL.out.1];exact hlt
   have hql2:q<l.length:=by rw[← HLL.out.2];exact hlt
   obtain rfl:=H3.out.2.2.2.2.2 (by intro e;rw[e] at hqT;simp at hqT)
   obtain⟨a0,a1,a2,a3,a4⟩:=zje H3.out.1.cells q hqT
   have hgz:gR<w3.heap.size:=H3.out.1.lt gR rfl
   have hb:=hdn.below
   have c0:=(hb.cell (p:=⟨gR,0+q*5,none⟩) hgz).trans a0
   have c1:=(hb.cell (p:=⟨gR,0+q*5+1,none⟩) hgz).trans a1
   have c2:=(hb.cell (p:=⟨gR,0+q*5+2,none⟩) hgz).trans a2
   have c3:=(hb.cell (p:=⟨gR,0+q*5+3,none⟩) hgz).trans a3
   have c4:=(hb.cell (p:=⟨gR,0+q*5+4,none⟩) hgz).trans a4
   have htq:Tie w3 D l[q] T[q].rn:=by
    have:=zid H3.out.2.2.1 hql2 (by rw[List.length_map];exact hqT)
    rw[List.getElem_map] at this
    exact this
   obtain⟨⟨mk,mi,mj,mo,mn,mc,mh⟩,hnode⟩:∃ n,T[q]=n:=⟨_,rfl⟩
   rw[hnode] at c0 c1 c2 c3 c4 htq
   simp only[Nat.zero_add] at c0 c1 c2 c3 c4
   have HCALL:Hid (∀ u,Below wr.heap.size wr u→Calls Tryz.prog 66 #[.agg #[.int .i64 mk,.int .i64 mi,.int .i64 mj,.slice mo mn mc]] u fun e w'=>∃ (n':Rn) (D':Nat→Prop),e=.returned n'.v∧Below u.heap.size u w'∧Tie w' D' l[q] n'∧∀ g,D' g→u.heap.size≤g∧∃ cur fz,w'.heap[g]? = some (.cells cur nd.e fz)):=Lib.hid (fun u hu=>by
    have hbu:Below w3.heap.size w3 u:=hb.trans (hu.mono hb.size)
    exact zpl l[q] u D ⟨mk,mi,mj,mo,mn,mc⟩ (htq.below H3.out.2.2.2.1 hbu) (H3.out.2.2.2.1.below hbu))
   have HDN:=Lib.hid hdn
   have hal:Below wr.heap.size wr (wr.alloc (.cells #[.int .i64 mk,.int .i64 mi,.int .i64 mj,.slice mo mn mc,.int .i64 mh] 73)):=(Below.refl _ _).alloc (Nat.le_refl _) _
   have hHAL:=Lib.hid hal
   have hq0:(0:Int)≤(q:Int):=by omega
   have hww:(q:Int)+1≤1099511627777:=by omega
   have hd:decide ((q:Int)<(len:Int))=true:=decide_eq_true zdC
   have hd':decide (q<len)=true:=decide_eq_true hlt
   have hl40:l.length≤1099511627776:=by rw[← HLL.out.2];exact hcap
   clear a0 a1 a2 a3 a4 hb htq hnode hdn hal
   go_wp2_with fail
   go_at_call 66
   refine(HCALL.out _ hHAL.out).mono ?_
   rintro e w9 ⟨⟨nk,ni,nj,no,nn,nc⟩,D2,rfl,hb9,hT9,hD9⟩
   have hs9:=hHAL.out.size
   obtain⟨v',wA,hrun,⟨o',l',c',rfl⟩,hdn'⟩:=HDN.out.push (hHAL.out.trans (hb9.mono hs9)) hql2 hl40 hT9 (fun g hg=>⟨Nat.le_trans hs9 (hD9 g hg).1,(hD9 g hg).2⟩)
   have HRUN:=Lib.hid hrun
   have HDN2:=Lib.hid hdn'
   clear hrun hdn' hT9 hD9 hb9
   dsimp only [Rn.v]
   go_wp2_with (at_builtin;refine Lib.wpList_append_run _ rfl _ _ _ _ rfl _ _ rfl rfl _ _ (HRUN.out _) ?_)
   go_roundw
   case rel=>exact⟨q+1,_,_,by omega,by go_num,HDN2.out⟩
   case measure=>simp [intOf];omega
  ·have hd:decide ((q:Int)<(len:Int))=false:=decide_eq_false zdC
   have hd':decide (q<len)=false:=decide_eq_false hlt
   have hX4:=(hdn.below.block _ (Array.getElem?_eq_some_iff.1 H3.out.2.2.2.2.1).1).trans H3.out.2.2.2.2.1
   obtain⟨⟨x0,x1,x2⟩,fx⟩:=three_at hX4
   have z0:=fx 0
   have z1:=fx 1
   have z2:=fx 2
   have HXX:=Lib.hid hX4
   have HDN:=Lib.hid hdn
   clear hdn hX4 fx
   go_wp2_with fail
   try simp only[Exit.inBlock,Exit.then]
   have hbox:(((wr.setCell ⟨W.heap.size,0,none⟩ (.int .i64 0)).setCell ⟨W.heap.size,1,none⟩ (.int .i64 0)).setCell ⟨W.heap.size,2,none⟩ (.int .i64 0)).heap[W.heap.size]? = some (.cells #[.int .i64 0,.int .i64 0,.int .i64 0] 37 (0,0)):=heap_setCell_same _ _ 2 _ _ _ (heap_setCell_same _ _ 1 _ _ _ (heap_setCell_same _ _ 0 _ _ _ HXX.out))
   refine bodyPost_ret (zhN rfl _ _ W.heap.size 37 _ (0,0) _ rfl hbox Tryz.underlying37 rfl (by as_aux_lemma=>kernel_rfl)) rfl ?_
   have hdn:=HDN.out
   have hs:∀ k,k≠W.heap.size→(((wr.setCell ⟨W.heap.size,0,none⟩ (.int .i64 0)).setCell ⟨W.heap.size,1,none⟩ (.int .i64 0)).setCell ⟨W.heap.size,2,none⟩ (.int .i64 0)).heap[k]? = wr.heap[k]?:=zgq _ _ _ _ _
   have hz:(((wr.setCell ⟨W.heap.size,0,none⟩ (.int .i64 0)).setCell ⟨W.heap.size,1,none⟩ (.int .i64 0)).setCell ⟨W.heap.size,2,none⟩ (.int .i64 0)).heap.size=wr.heap.size:=by rw[zfA,zfA,zfA]
   have hX3:=(Array.getElem?_eq_some_iff.1 H3.out.2.2.2.2.1).1
   have hnn:=H3.out.2.1.trans (Nx.below hdn.below)
   have htk:l.take q=l:=List.take_of_length_le (by have:=HLL.out.2;omega)
   have hti:=hdn.ties
   rw[htk] at hti
   refine⟨_,R',D',_,rfl,(hdn.row.mono (Nat.zero_le _)).keep (fun k hk _=>hs k (fun e=>by have:=(World.ownsRow.lt hdn.row k hk).1;omega)),Ties.keep (fun g hg=>hs g (by have:=(hdn.dead g hg).1;omega)) (fun _ h=>h) _ _ hti,fun g hg=>?_,⟨hnn.os,hnn.tape,hnn.output,by rw[hz];exact hnn.size,fun k hk a1 a2 a3=>(hs k zdC).trans (hnn.block k hk a1 a2 a3),hnn.newR,hnn.newH⟩⟩
   obtain⟨a,_,cur,fz,hc⟩:=hdn.dead g hg
   exact⟨cur,fz,(hs g zdC).trans hc⟩
open Go.RowKit
theorem zmr {R:List Tree} {i:Nat} (hi:i<R.length):headT (R.drop i)=if sig R[i].k then R[i] else headT (R.drop (i+1)):=by
 rw[List.drop_eq_getElem_cons hi,headT]
theorem zuW {w:World} {D:Nat→Prop} {l:List Tree} {R:List Rn} (h:Ties w D l R) {i:Nat} (hi:i<l.length) (hi2:i<R.length):Tie w D l[i] R[i]:=by
 induction l generalizing R i with
 |nil=>simp at hi
 |cons t l ih=>
  exact zcP
theorem zuq (w:World):Tie w (fun _=>False) (.mk 0 0 0 []) ⟨0,0,0,none,0,0⟩:=zhT _ _ _ _ _
theorem zfR {w:World} {X:Nat} {x0 x1 x2:Value} {e:TypeId} (h:w.heap[X]? = some (.cells #[x0,x1,x2] e (0,0))):(w.cell? ⟨X,0,none⟩=some x0∧w.cell? ⟨X,1,none⟩=some x1∧w.cell? ⟨X,2,none⟩=some x2)∧∀ j,w.frozen? ⟨X,j,none⟩=false:=
 ⟨⟨by rw[cell_of_row w X 0 _ _ _ h];rfl,by rw[cell_of_row w X 1 _ _ _ h];rfl,by rw[cell_of_row w X 2 _ _ _ h];rfl⟩,fun j=>frozen_of_row w X j _ _ h⟩
theorem zhn {w:World} {X:Nat} {x0 x1 x2 x3:Value} {e:TypeId} (h:w.heap[X]? = some (.cells #[x0,x1,x2,x3] e (0,0))):(w.cell? ⟨X,0,none⟩=some x0∧w.cell? ⟨X,1,none⟩=some x1∧w.cell? ⟨X,2,none⟩=some x2∧w.cell? ⟨X,3,none⟩=some x3)∧∀ j,w.frozen? ⟨X,j,none⟩=false:=
 ⟨⟨by rw[cell_of_row w X 0 _ _ _ h];rfl,by rw[cell_of_row w X 1 _ _ _ h];rfl,by rw[cell_of_row w X 2 _ _ _ h];rfl,by rw[cell_of_row w X 3 _ _ _ h];rfl⟩,fun j=>frozen_of_row w X j _ _ h⟩
theorem zjM {w:World} {X1 X2:Nat} {o1 o2:Obj} {d0 d1 d2:Int} (h1:w.heap[X1]? = some o1) (h2:w.heap[X2]? = some o2):(w.alloc (.cells #[.int .i64 d0,.int .i64 d1,.int .i64 d2] 37)).heap[X1]? = some o1∧(w.alloc (.cells #[.int .i64 d0,.int .i64 d1,.int .i64 d2] 37)).heap[X2]? = some o2∧(w.alloc (.cells #[.int .i64 d0,.int .i64 d1,.int .i64 d2] 37)).heap[w.heap.size]? = some (.cells #[.int .i64 d0,.int .i64 d1,.int .i64 d2] 37 (0,0)):=
 ⟨(heap_alloc_old w _ (Array.getElem?_eq_some_iff.1 h1).1).trans h1,(heap_alloc_old w _ (Array.getElem?_eq_some_iff.1 h2).1).trans h2,heap_alloc_last w _⟩
def endW (W:World) (X Y:Nat) (n:Rn) (d0 d1 d2:Int):World:=((((((W.setCell ⟨X,0,none⟩ (.int .i64 n.k)).setCell ⟨X,1,none⟩ (.int .i64 n.i)).setCell ⟨X,2,none⟩ (.int .i64 n.j)).setCell ⟨X,3,none⟩ (.slice n.o n.n n.c)).setCell ⟨Y,0,none⟩ (.int .i64 d0)).setCell ⟨Y,1,none⟩ (.int .i64 d1)).setCell ⟨Y,2,none⟩ (.int .i64 d2)
theorem zws {W:World} {X Y:Nat} {n:Rn} {d0 d1 d2:Int} {x0 x1 x2 x3 y0 y1 y2:Value} {e1 e2:TypeId} (h1:W.heap[X]? = some (.cells #[x0,x1,x2,x3] e1 (0,0))) (h2:W.heap[Y]? = some (.cells #[y0,y1,y2] e2 (0,0))) (hne:X≠Y) :
  (endW W X Y n d0 d1 d2).heap[X]? = some (.cells #[.int .i64 n.k,.int .i64 n.i,.int .i64 n.j,.slice n.o n.n n.c] e1 (0,0))∧(endW W X Y n d0 d1 d2).heap[Y]? = some (.cells #[.int .i64 d0,.int .i64 d1,.int .i64 d2] e2 (0,0))∧(∀ k,k≠X→k≠Y→(endW W X Y n d0 d1 d2).heap[k]? = W.heap[k]?)∧(endW W X Y n d0 d1 d2).heap.size=W.heap.size:=by
 have a4:=heap_setCell_same _ X 3 _ _ (.slice n.o n.n n.c) (heap_setCell_same _ X 2 _ _ (.int .i64 n.j) (heap_setCell_same _ X 1 _ _ (.int .i64 n.i) (heap_setCell_same W X 0 _ _ (.int .i64 n.k) h1)))
 have a5:((((W.setCell ⟨X,0,none⟩ (.int .i64 n.k)).setCell ⟨X,1,none⟩ (.int .i64 n.i)).setCell ⟨X,2,none⟩ (.int .i64 n.j)).setCell ⟨X,3,none⟩ (.slice n.o n.n n.c)).heap[Y]? = some (.cells #[y0,y1,y2] e2 (0,0)):=by
  rw[zfy _ _ _ _ _ (fun h=>hne h.symm),zgq _ _ _ _ _ _ (fun h=>hne h.symm)]
  exact h2
 refine⟨?_,heap_setCell_same _ Y 2 _ _ _ (heap_setCell_same _ Y 1 _ _ _ (heap_setCell_same _ Y 0 _ _ _ a5)),fun k k1 k2=>?_,?_⟩
 ·unfold endW
  rw[zgq _ _ _ _ _ _ hne]
  exact a4
 ·unfold endW
  rw[zgq _ _ _ _ _ _ k2,zfy _ _ _ _ _ k1,zgq _ _ _ _ _ _ k1]
 ·unfold endW
  rw[zfA,zfA,zfA,zfA,zfA,zfA,zfA]
theorem zjo (w:World):w.drew.heap=w.heap:=rfl
theorem zww (w:World):w.drew.os=w.os:=rfl
theorem zpN (w:World):w.drew.output=w.output:=rfl
theorem zsn (w:World):w.drew.tape=w.tape:=rfl
theorem zwX (w:World) (p:Addr) (v:Value):(w.setCell p v).os=w.os:=rfl
theorem zuE (w:World) (p:Addr) (v:Value):(w.setCell p v).tape=w.tape:=rfl
theorem zry (w:World) (p:Addr) (v:Value):(w.setCell p v).output=w.output:=rfl
theorem ziI {W:World} {X Y nn c:Nat} {k i j d0 d1 d2:Int} {o:Option Addr} {x0 x1 x2 x3 y0 y1 y2:Value} {e1 e2:TypeId} (h1:W.heap[X]? = some (.cells #[x0,x1,x2,x3] e1 (0,0))) (h2:W.heap[Y]? = some (.cells #[y0,y1,y2] e2 (0,0))) (hne:X≠Y):∃ W8,W8=(((((((W.setCell ⟨X,0,none⟩ (.int .i64 k)).setCell ⟨X,1,none⟩ (.int .i64 i)).setCell ⟨X,2,none⟩ (.int .i64 j)).setCell ⟨X,3,none⟩ (.slice o nn c)).setCell ⟨Y,0,none⟩ (.int .i64 d0)).setCell ⟨Y,1,none⟩ (.int .i64 d1)).setCell ⟨Y,2,none⟩ (.int .i64 d2)).drew ∧
  W8.heap[X]? = some (.cells #[.int .i64 k,.int .i64 i,.int .i64 j,.slice o nn c] e1 (0,0))∧W8.heap[Y]? = some (.cells #[.int .i64 d0,.int .i64 d1,.int .i64 d2] e2 (0,0))∧W8.os=W.os∧W8.tape=W.tape∧W8.output=W.output∧W8.heap.size=W.heap.size∧∀ q,q≠X→q≠Y→W8.heap[q]? = W.heap[q]?:=by
 obtain⟨q1,q2,q3,q4⟩:=zws (n:=⟨k,i,j,o,nn,c⟩) (d0:=d0) (d1:=d1) (d2:=d2) h1 h2 hne
 unfold endW at q1 q2 q3 q4
 dsimp only at q1 q2 q3 q4
 refine⟨_,rfl,?_,?_,?_,?_,?_,?_,?_⟩
 ·rw[zjo];exact q1
 ·rw[zjo];exact q2
 ·rw[zww];simp only[zwX]
 ·rw[zsn];simp only[zuE]
 ·rw[zpN];simp only[zry]
 ·rw[zjo];exact q4
 ·rw[zjo];exact q3
theorem zoW {w w':World} {D:Nat→Prop} (h:OfNodes w D) (hs:∀ g,D g→w'.heap[g]? = w.heap[g]?):OfNodes w' D:=fun g hg=>by
 obtain⟨cur,fz,h1⟩:=h g hg
 exact⟨cur,fz,(hs g hg).trans h1⟩
theorem zqD {x y:Res} (h:Nt x) (hy:Hid (rDone x=some y)):Nt y:=zit h hy.out fun u t hu e=>by
 split at e
 ·cases e;exact znt _ hu
 ·cases e
theorem zjp {w w5 W6 wr W8:World} {X1:Nat} {D:Nat→Prop} {t:Tree} {n:Rn} (hb5:Below w.heap.size w w5) (hb6:Below w5.heap.size w5 W6) (hbr:Below W6.heap.size W6 wr) (hx:w.heap.size=X1) (hX1:w5.heap[X1]? = some (.cells #[.int .i64 0,.int .i64 0,.int .i64 0,.slice none 0 0] 43 (0,0))) (hX2:∃ c,w5.heap[X1+1]? = some (.cells c 37 (0,0))) (hN:Neat t) (hT:Tie w5 D t n) (hD:OfNodes w5 D)
  (q3:W8.os=wr.os) (q4:W8.tape=wr.tape) (q5:W8.output=wr.output) (q6:W8.heap.size=wr.heap.size) (q7:∀ q,q≠X1→q≠X1+1→W8.heap[q]? = wr.heap[q]?) :
  Below w.heap.size w W8∧Tie W8 (fun g=>D g∧g≠X1) t n∧OfNodes W8 (fun g=>D g∧g≠X1):=by
 obtain⟨c2,hX2⟩:=hX2
 have h6:∀ k,k<w5.heap.size→wr.heap[k]? = w5.heap[k]?:=fun k hk=>(hbr.block k (Nat.lt_of_lt_of_le hk hb6.size)).trans (hb6.block k hk)
 have hsame:∀ g,(D g∧g≠X1)→W8.heap[g]? = w5.heap[g]?:=fun g hg=>by
  obtain⟨cur,fz,hc⟩:=hD g hg.1
  refine(q7 g hg.2 (fun e=>?_)).trans (h6 g (Array.getElem?_eq_some_iff.1 hc).1)
  subst e
  rw[hX2] at hc
  simp only[Option.some.injEq,Obj.cells.injEq] at hc
  exact absurd hc.2.1 zdD
 have hw:=hb5.size
 refine⟨⟨q3.trans (hbr.os.trans (hb6.os.trans hb5.os)),q4.trans (hbr.tape.trans (hb6.tape.trans hb5.tape)),q5.trans (hbr.output.trans (hb6.output.trans hb5.output)),by rw[q6];exact Nat.le_trans hb5.size (Nat.le_trans hb6.size hbr.size),fun k hk=>(q7 k zdC zdC).trans ((h6 k zdC).trans (hb5.block k hk))⟩,Tie.keep hsame (fun _ h=>h) t n (Tie.avoid hX1 t n hN hT),zoW (fun g hg=>hD g hg.1) hsame⟩
theorem zkI:∀ {l:List Tree},Neats l→∀ {i:Nat} (hi:i<l.length),Neat l[i]
 |[],_,i,hi=>by simp at hi
 |t::l,h,i,hi=>by
  rw[Neats] at h
  cases i with
  |zero=>exact h.1
  |succ i=>exact zkI h.2 (by simpa using hi)
theorem zoT {w:World} {v:Value} {T:List Tk} {N:Nat} {x1 y:Res} (hN:N≤1099511627776) (hr:Row tk w v T) (hn:T.length≤549755813888) (h1:Hid (run N (.X false) (.ok ⟨T,0,[],[],0⟩)=some x1)) (h2:Hid (rDone x1=some y)) :
  Calls Tryz.prog 19 #[v] w fun e w'=>∃ (n:Rn) (D:Nat→Prop),e=.returned (tells n.v y.diag (!y.bad))∧Below w.heap.size w w'∧Tie w' D y.tree n∧OfNodes w' D:=by
 have hz1:(w.alloc (.cells #[.int .i64 0,.int .i64 0,.int .i64 0,.slice none 0 0] 43)).heap.size=w.heap.size+1:=World.size_alloc _ _
 have hB1:Below w.heap.size w (w.alloc (.cells #[.int .i64 0,.int .i64 0,.int .i64 0,.slice none 0 0] 43)):=(Below.refl _ _).alloc (Nat.le_refl _) _
 have hx1:=heap_alloc_last w (.cells #[.int .i64 0,.int .i64 0,.int .i64 0,.slice none 0 0] 43)
 obtain⟨W1,hW1⟩:∃ W1,w.alloc (.cells #[.int .i64 0,.int .i64 0,.int .i64 0,.slice none 0 0] 43)=W1:=⟨_,rfl⟩
 rw[hW1] at hz1 hB1 hx1
 have hz2:(W1.alloc (.cells #[.int .i64 0,.int .i64 0,.int .i64 0] 37)).heap.size=W1.heap.size+1:=World.size_alloc _ _
 have hB2:Below W1.heap.size W1 (W1.alloc (.cells #[.int .i64 0,.int .i64 0,.int .i64 0] 37)):=(Below.refl _ _).alloc (Nat.le_refl _) _
 have hx2:=heap_alloc_last W1 (.cells #[.int .i64 0,.int .i64 0,.int .i64 0] 37)
 obtain⟨W2,hW2⟩:∃ W2,W1.alloc (.cells #[.int .i64 0,.int .i64 0,.int .i64 0] 37)=W2:=⟨_,rfl⟩
 rw[hW2] at hz2 hB2 hx2
 have hB:Below w.heap.size w W2:=hB1.trans (hB2.mono hB1.size)
 have hx1:W2.heap[w.heap.size]? = _:=(hB2.block _ zdC).trans hx1
 rw[hz1] at hx2
 have HNEW:=Lib.hid (zsf (hr.below hB) hn)
 have HBX:=Lib.hid hB
 have HZ:=Lib.hid (And.intro hz1 hz2)
 have HX1:=Lib.hid hx1
 have HX2:=Lib.hid hx2
 have HWW:=Lib.hid (And.intro hW1 hW2)
 obtain⟨_,_,o,cap,_,rfl,_,_⟩:=hr
 clear hz1 hz2 hB1 hB2 hx1 hx2 hB hW1 hW2
 go_enter Tryz.func19,Tryz.ntmps19
 go_wp2_with (first|(go_at_call 10;rw[HWW.out.1,HWW.out.2];refine HNEW.out.mono ?_;rintro e w3 ⟨b,rfl,hat⟩;have hat3:=Lib.hid hat;clear hat)|(go_at_call 49;refine((zvW N hN).X _ _ _ _ _ _ hat3 h1).mono ?_;rintro e w4 ⟨v4,rfl,hat4⟩))
 go_at_call 16
 refine(zrj hat4 h2).mono ?_
 rintro e w5 hd
 have hA:At (allOf W2) w5 b y:=by
  rcases hd with⟨_,_,_,_,_,h⟩|⟨_,_,_,_,_,_,h,_⟩
  ·exact h.out
  ·exact h.out
 have hkeep:∀ k,k<W2.heap.size→w5.heap[k]? = W2.heap[k]?:=by
  obtain⟨_,_,_,_,_,_,ho,_⟩:=hA
  exact fun k hk=>(ho.kept k hk).2.2.2.2
 have hBel:Below w.heap.size w w5:=by
  obtain⟨_,_,_,_,_,_,ho,_⟩:=hA
  have hB:=HBX.out
  exact⟨ho.os.trans hB.os,ho.tape.trans hB.tape,ho.output.trans hB.output,Nat.le_trans hB.size ho.size,fun k hk=>(hkeep k (Nat.lt_of_lt_of_le hk hB.size)).trans (hB.block k hk)⟩
 have hX1:=(hkeep w.heap.size (Array.getElem?_eq_some_iff.1 HX1.out).1).trans HX1.out
 have hX2:=(hkeep (w.heap.size+1) (Array.getElem?_eq_some_iff.1 HX2.out).1).trans HX2.out
 have hz5:w.heap.size+1<w5.heap.size:=(Array.getElem?_eq_some_iff.1 hX2).1
 have HB5:=Lib.hid hBel
 have HXX:=Lib.hid (And.intro hX1 (And.intro hX2 hz5))
 clear hA hkeep hBel hX1 hX2
 rcases hd with⟨d0,d1,d2,rfl,rfl,_⟩|⟨t,v5,R,D,rfl,rfl,hAt,hm,ht,hD⟩
 ·unfold tells
  obtain⟨W6,hW6⟩:∃ W6,w5.alloc (.cells #[.int .i64 d0,.int .i64 d1,.int .i64 d2] 37)=W6:=⟨_,rfl⟩
  obtain⟨X1,hX1e⟩:∃ X1,w.heap.size=X1:=⟨_,rfl⟩
  obtain⟨X3,hX3e⟩:∃ X3,w5.heap.size=X3:=⟨_,rfl⟩
  have hbx:=zjM HXX.out.1 HXX.out.2.1 (d0:=d0) (d1:=d1) (d2:=d2)
  rw[hW6,hX1e,hX3e] at hbx
  have HBX6:=Lib.hid hbx
  have HW6:=Lib.hid (And.intro hW6 (And.intro hX1e hX3e))
  clear hbx
  go_wp2_with fail
  obtain⟨b1,b2,b3⟩:=HBX6.out
  obtain⟨⟨n0,n1,n2,n3⟩,fn⟩:=zhn b1
  obtain⟨⟨m0,m1,m2⟩,fm⟩:=zfR b2
  obtain⟨⟨p0,p1,p2⟩,fp⟩:=zfR b3
  have f0:=fn 0
  have f1:=fn 1
  have f2:=fn 2
  have f3:=fn 3
  have g0:=fm 0
  have g1:=fm 1
  have g2:=fm 2
  have e12:X1≠X1+1:=by omega
  have e13:X1≠X3:=by have:=HXX.out.2.2;omega
  have e23:X1+1≠X3:=by have:=HXX.out.2.2;omega
  have hw7:∀ k,k≠X1→((((W6.setCell ⟨X1,0,none⟩ (.int .i64 0)).setCell ⟨X1,1,none⟩ (.int .i64 0)).setCell ⟨X1,2,none⟩ (.int .i64 0)).setCell ⟨X1,3,none⟩ (.slice none 0 0)).heap[k]? = W6.heap[k]?:=fun k hk=>by rw[zfy _ _ _ _ _ hk];exact zgq _ _ _ _ _ k hk
  obtain⟨⟨m0',m1',m2'⟩,fm'⟩:=zfR ((hw7 _ (fun h=>e12 h.symm)).trans b2)
  obtain⟨⟨p0',p1',p2'⟩,_⟩:=zfR ((hw7 _ (fun h=>e13 h.symm)).trans b3)
  have g0':=fm' 0
  have g1':=fm' 1
  have g2':=fm' 2
  have HW7:=Lib.hid hw7
  have k12:(X1 == X1+1)=false:=beq_eq_false_iff_ne.2 e12
  have k21:(X1+1 == X1)=false:=beq_eq_false_iff_ne.2 (fun h=>e12 h.symm)
  have k13:(X1 == X3)=false:=beq_eq_false_iff_ne.2 e13
  have k31:(X3 == X1)=false:=beq_eq_false_iff_ne.2 (fun h=>e13 h.symm)
  have k23:(X1+1 == X3)=false:=beq_eq_false_iff_ne.2 e23
  have k32:(X3 == X1+1)=false:=beq_eq_false_iff_ne.2 (fun h=>e23 h.symm)
  clear fn fm fp fm' b1 b2 b3 e12 e13 e23 hW6 hX1e hX3e hz5 hw7
  go_region
  all_goals(try go_wp2_with fail)
  try simp only[Exit.inBlock,Exit.then]
  obtain⟨W8,hW8,q1,q2,q3,q4,q5,q6,q7⟩:=ziI (k:=0) (i:=0) (j:=0) (o:=none) (nn:=0) (c:=0) (d0:=d0) (d1:=d1) (d2:=d2) HBX6.out.1 HBX6.out.2.1 (show X1≠X1+1 by omega)
  rw[← hW8]
  clear hW8
  refine bodyPost_ret (zhz rfl _ _ (X1+1) X1 37 43 _ _ (0,0) (0,0) _ _ rfl q2 Tryz.underlying37 rfl (by as_aux_lemma=>kernel_rfl) rfl q1 Tryz.underlying43 rfl (by as_aux_lemma=>kernel_rfl)) rfl ?_
  have hb5:=HB5.out
  obtain⟨hw6,hx1,hx3⟩:=HW6.out
  have hb6:Below w5.heap.size w5 W6:=by rw[← hw6];exact(Below.refl _ _).alloc (Nat.le_refl _) _
  refine⟨⟨0,0,0,none,0,0⟩,fun _=>False,rfl,⟨q3.trans (hb6.os.trans hb5.os),q4.trans (hb6.tape.trans hb5.tape),q5.trans (hb6.output.trans hb5.output),?_,fun k hk=>?_⟩,zuq _,fun g hg=>hg.elim⟩
  ·rw[q6]
   exact Nat.le_trans hb5.size hb6.size
  ·exact(q7 k zdC zdC).trans ((hb6.block k (Nat.lt_of_lt_of_le hk hb5.size)).trans (hb5.block k hk))
 ·have hnt:Neats t.R:=zqD (zpw N (.X false) ⟨T,0,[],[],0⟩ x1 (by show Neats [];rw[Neats];trivial) h1.out) h2 t rfl
  have HNT:=Lib.hid (And.intro hnt (And.intro ht hD))
  have hll:=ht.length
  obtain⟨g5,o5,c5,rfl,ho5,_⟩:=hm.shape
  have HO5:=Lib.hid ho5
  have HM5:=Lib.hid hm
  obtain⟨len,hlen⟩:∃ len,R.length=len:=⟨_,rfl⟩
  have HLN:=Lib.hid (And.intro hlen hll)
  have hlm:len≤549755813888:=by
   obtain⟨_,_,_,_,_,_,_,hi⟩:=hAt.out
   have:=hi.2.2.2.2.2.2.2.2.2
   omega
  rw[hlen]
  clear ht hD hm ho5 hll hlen hnt hAt
  have hb6:Below w5.heap.size w5 (w5.alloc (.cells #[.int .i64 0,.int .i64 0,.int .i64 0] 37)):=(Below.refl _ _).alloc (Nat.le_refl _) _
  obtain⟨W6,hW6⟩:∃ W6,w5.alloc (.cells #[.int .i64 0,.int .i64 0,.int .i64 0] 37)=W6:=⟨_,rfl⟩
  obtain⟨X1,hX1e⟩:∃ X1,w.heap.size=X1:=⟨_,rfl⟩
  obtain⟨X3,hX3e⟩:∃ X3,w5.heap.size=X3:=⟨_,rfl⟩
  have hbx:=zjM HXX.out.1 HXX.out.2.1 (d0:=0) (d1:=0) (d2:=0)
  rw[hW6,hX1e,hX3e] at hbx
  rw[hW6] at hb6
  have HBR:Hid (∀ wr,Below W6.heap.size W6 wr→wr.heap[X1]? = some (.cells #[.int .i64 0,.int .i64 0,.int .i64 0,.slice none 0 0] 43 (0,0))∧wr.heap[X1+1]? = some (.cells #[.int .i64 0,.int .i64 0,.int .i64 0] 37 (0,0))∧wr.heap[X3]? = some (.cells #[.int .i64 0,.int .i64 0,.int .i64 0] 37 (0,0))):=Lib.hid (fun wr hb=>
   ⟨(hb.block _ (Array.getElem?_eq_some_iff.1 hbx.1).1).trans hbx.1,(hb.block _ (Array.getElem?_eq_some_iff.1 hbx.2.1).1).trans hbx.2.1,(hb.block _ (Array.getElem?_eq_some_iff.1 hbx.2.2).1).trans hbx.2.2⟩)
  have HW6:=Lib.hid (And.intro hb6 hX1e)
  have HEQ:=Lib.hid (And.intro hW6 hX3e)
  have e12:X1≠X1+1:=by omega
  have e13:X1≠X3:=by have:=HXX.out.2.2;omega
  have e23:X1+1≠X3:=by have:=HXX.out.2.2;omega
  have HE:=Lib.hid (And.intro e12 e13)
  have k12:(X1 == X1+1)=false:=beq_eq_false_iff_ne.2 e12
  have k21:(X1+1 == X1)=false:=beq_eq_false_iff_ne.2 (fun h=>e12 h.symm)
  have k13:(X1 == X3)=false:=beq_eq_false_iff_ne.2 e13
  have k31:(X3 == X1)=false:=beq_eq_false_iff_ne.2 (fun h=>e13 h.symm)
  have k23:(X1+1 == X3)=false:=beq_eq_false_iff_ne.2 e23
  have k32:(X3 == X1+1)=false:=beq_eq_false_iff_ne.2 (fun h=>e23 h.symm)
  clear hbx e12 e13 e23 hb6 hW6 hX3e
  unfold tells
  go_wp2_with fail
  rw[HEQ.out.1,HEQ.out.2]
  clear hX1e hz5
  go_loopw [9] (fun pv wr=>∃ i:Nat,i≤len∧pv=.int .i64 (i:Int)∧headT (t.R.drop i)=headT t.R∧Below W6.heap.size W6 wr) (fun pv _=>len - (intOf pv).toNat)
  case atStart=>exact⟨0,Nat.zero_le _,rfl,rfl,Below.refl _ _⟩
  case round=>
   obtain⟨i,hil,rfl,hhd,hbr⟩:=hrel
   by_cases hlt:i<len
   ·have hiR:i<R.length:=by rw[HLN.out.1];exact hlt
    have hiT:i<t.R.length:=by have h1:=HLN.out.1;have h2:=HLN.out.2;omega
    have hoo:=HO5.out zeZ
    subst hoo
    have hcs:=zgi (HM5.out.cells) i hiR
    rw[zmr hiT] at hhd
    have htie:=zuW HNT.out.2.1 hiT hiR
    have hneat:=zkI HNT.out.1 hiT
    have hkk:=htie.k
    obtain⟨⟨nk,ni,nj,no,nn,nc⟩,hnode⟩:∃ n,R[i]=n:=⟨_,rfl⟩
    obtain⟨tt,htt⟩:∃ tt,t.R[i]=tt:=⟨_,rfl⟩
    rw[hnode] at htie hcs hkk
    rw[htt] at htie hneat hkk hhd
    replace hkk:nk=tt.k:=hkk
    obtain⟨a0,a1,a2,a3⟩:=hcs
    simp only[Nat.zero_add] at a0 a1 a2 a3
    have hg5:g5<w5.heap.size:=World.block_lt_of_cell? _ _ a0
    have hb65:Below w5.heap.size w5 wr:=HW6.out.1.trans (hbr.mono HW6.out.1.size)
    have c0:=(hb65.cell (p:=⟨g5,i*4,none⟩) hg5).trans a0
    have c1:=(hb65.cell (p:=⟨g5,i*4+1,none⟩) hg5).trans a1
    have c2:=(hb65.cell (p:=⟨g5,i*4+2,none⟩) hg5).trans a2
    have c3:=(hb65.cell (p:=⟨g5,i*4+3,none⟩) hg5).trans a3
    have hq0:(0:Int)≤(i:Int):=by omega
    have hww:(i:Int)+1≤1099511627777:=by omega
    have hd:decide ((i:Int)<(len:Int))=true:=decide_eq_true zdC
    have hd':decide (i<len)=true:=decide_eq_true hlt
    have HTT:=Lib.hid (And.intro htie (And.intro hneat hkk))
    have HHD:=Lib.hid hhd
    clear a0 a1 a2 a3 hb65 htie hneat hkk hnode htt hhd
    by_cases h10:10≤nk
    ·have hs:sig tt.k=true:=by rw[← HTT.out.2.2];exact decide_eq_true h10
     have hTN:Neat tt∧Tie w5 D tt ⟨nk,ni,nj,no,nn,nc⟩∧OfNodes w5 D∧(Res.ok t).tree=tt:=⟨HTT.out.2.1,HTT.out.1,HNT.out.2.2,by
      show headT t.R=_
      rw[← HHD.out,if_pos hs]⟩
     have HTN:=Lib.hid hTN
     clear hTN
     have hdk:decide (10≤nk)=true:=decide_eq_true h10
     obtain⟨b1,b2,b3⟩:=HBR.out _ hbr
     obtain⟨⟨n0,n1,n2,n3⟩,fn⟩:=zhn b1
     obtain⟨⟨m0,m1,m2⟩,fm⟩:=zfR b2
     obtain⟨⟨p0,p1,p2⟩,fp⟩:=zfR b3
     have f0:=fn 0
     have f1:=fn 1
     have f2:=fn 2
     have f3:=fn 3
     have g0:=fm 0
     have g1:=fm 1
     have g2:=fm 2
     have hw7:∀ k,k≠X1→((((wr.setCell ⟨X1,0,none⟩ (.int .i64 nk)).setCell ⟨X1,1,none⟩ (.int .i64 ni)).setCell ⟨X1,2,none⟩ (.int .i64 nj)).setCell ⟨X1,3,none⟩ (.slice no nn nc)).heap[k]? = wr.heap[k]?:=fun k hk=>by rw[zfy _ _ _ _ _ hk];exact zgq _ _ _ _ _ k hk
     obtain⟨⟨m0',m1',m2'⟩,fm'⟩:=zfR ((hw7 _ (fun h=>HE.out.1 h.symm)).trans b2)
     obtain⟨⟨p0',p1',p2'⟩,_⟩:=zfR ((hw7 _ (fun h=>HE.out.2 h.symm)).trans b3)
     have g0':=fm' 0
     have g1':=fm' 1
     have g2':=fm' 2
     have HBB:=Lib.hid (And.intro b1 b2)
     have HBRR:=Lib.hid hbr
     clear hw7 b1 b2 b3 fn fm fp fm' hbr
     go_wp2_with fail
     go_region
     all_goals(try go_wp2_with fail)
     try simp only[Exit.inBlock,Exit.then]
     obtain⟨W8,hW8,q1,q2,q3,q4,q5,q6,q7⟩:=ziI (k:=nk) (i:=ni) (j:=nj) (o:=no) (nn:=nn) (c:=nc) (d0:=0) (d1:=0) (d2:=0) HBB.out.1 HBB.out.2 (show X1≠X1+1 by omega)
     rw[← hW8]
     clear hW8
     refine bodyPost_ret (zhz rfl _ _ (X1+1) X1 37 43 _ _ (0,0) (0,0) _ _ rfl q2 Tryz.underlying37 rfl (by as_aux_lemma=>kernel_rfl) rfl q1 Tryz.underlying43 rfl (by as_aux_lemma=>kernel_rfl)) rfl ?_
     obtain⟨hb6,hx1⟩:=HW6.out
     obtain⟨r1,r2,r3⟩:=zjp HB5.out hb6 HBRR.out hx1 zfa zfb HTN.out.1 HTN.out.2.1 HTN.out.2.2.1 q3 q4 q5 q6 q7
     exact⟨⟨nk,ni,nj,no,nn,nc⟩,_,rfl,r1,by rw[HTN.out.2.2.2];exact r2,r3⟩
    ·have hdk:decide (10≤nk)=false:=decide_eq_false h10
     have hns:sig tt.k=false:=by rw[← HTT.out.2.2];exact decide_eq_false h10
     have hh2:headT (t.R.drop (i+1))=headT t.R:=by rw[← HHD.out,if_neg (by rw[hns];simp)]
     have HH2:=Lib.hid hh2
     clear hh2 hns
     have HBRR:=Lib.hid hbr
     go_wp2_with fail
     first|exact⟨⟨i+1,by omega,by go_num,HH2.out,HBRR.out⟩,by simp [intOf];omega⟩|(go_roundw;(case rel=>exact⟨i+1,by omega,by go_num,HH2.out,HBRR.out⟩);(case measure=>simp [intOf];omega))
   ·have hTN:Neat (.mk 0 0 0 [])∧Tie w5 D (.mk 0 0 0 []) ⟨0,0,0,none,0,0⟩∧OfNodes w5 D∧(Res.ok t).tree=.mk 0 0 0 []:=⟨by rw[Neat,Neats];exact⟨trivial,trivial⟩,zhT _ _ _ _ _,HNT.out.2.2,by
     show headT t.R=_
     have hl1:=HLN.out.1
     have hl2:=HLN.out.2
     rw[← hhd,List.drop_of_length_le zdC]
     rfl⟩
    have HTN:=Lib.hid hTN
    clear hTN hhd
    obtain⟨b1,b2,b3⟩:=HBR.out _ hbr
    obtain⟨⟨n0,n1,n2,n3⟩,fn⟩:=zhn b1
    obtain⟨⟨m0,m1,m2⟩,fm⟩:=zfR b2
    obtain⟨⟨p0,p1,p2⟩,fp⟩:=zfR b3
    have f0:=fn 0
    have f1:=fn 1
    have f2:=fn 2
    have f3:=fn 3
    have g0:=fm 0
    have g1:=fm 1
    have g2:=fm 2
    have hw7:∀ k,k≠X1→((((wr.setCell ⟨X1,0,none⟩ (.int .i64 0)).setCell ⟨X1,1,none⟩ (.int .i64 0)).setCell ⟨X1,2,none⟩ (.int .i64 0)).setCell ⟨X1,3,none⟩ (.slice none 0 0)).heap[k]? = wr.heap[k]?:=fun k hk=>by rw[zfy _ _ _ _ _ hk];exact zgq _ _ _ _ _ k hk
    obtain⟨⟨m0',m1',m2'⟩,fm'⟩:=zfR ((hw7 _ (fun h=>HE.out.1 h.symm)).trans b2)
    obtain⟨⟨p0',p1',p2'⟩,_⟩:=zfR ((hw7 _ (fun h=>HE.out.2 h.symm)).trans b3)
    have g0':=fm' 0
    have g1':=fm' 1
    have g2':=fm' 2
    have HBB:=Lib.hid (And.intro b1 b2)
    have HBRR:=Lib.hid hbr
    clear hw7 b1 b2 b3 fn fm fp fm' hbr
    have hd:decide ((i:Int)<(len:Int))=false:=decide_eq_false zdC
    have hd':decide (i<len)=false:=decide_eq_false hlt
    go_wp2_with fail
    go_region
    all_goals(try go_wp2_with fail)
    try simp only[Exit.inBlock,Exit.then]
    obtain⟨W8,hW8,q1,q2,q3,q4,q5,q6,q7⟩:=ziI (k:=0) (i:=0) (j:=0) (o:=none) (nn:=0) (c:=0) (d0:=0) (d1:=0) (d2:=0) HBB.out.1 HBB.out.2 (show X1≠X1+1 by omega)
    rw[← hW8]
    clear hW8
    refine bodyPost_ret (zhz rfl _ _ (X1+1) X1 37 43 _ _ (0,0) (0,0) _ _ rfl q2 Tryz.underlying37 rfl (by as_aux_lemma=>kernel_rfl) rfl q1 Tryz.underlying43 rfl (by as_aux_lemma=>kernel_rfl)) rfl ?_
    obtain⟨hb6,hx1⟩:=HW6.out
    obtain⟨r1,r2,r3⟩:=zjp HB5.out hb6 HBRR.out hx1 zfa zfb HTN.out.1 HTN.out.2.1 HTN.out.2.2.1 q3 q4 q5 q6 q7
    exact⟨⟨0,0,0,none,0,0⟩,_,rfl,r1,by rw[HTN.out.2.2.2];exact r2,r3⟩
open Go.RowKit
structure Kept (C:Keep) (w:World):Prop where
 os:w.os=C.W.os
 tape:w.tape=C.W.tape
 output:w.output=C.W.output
 size:C.W.heap.size≤w.heap.size
 kept:∀ k,C.K k→w.heap[k]? = C.W.heap[k]?
theorem Own.keeps {C:Keep} {w:World} {b:Nat} {vR vH:Value} {D:Nat→Prop} (h:Own C w b vR vH D):Kept C w:=⟨h.os,h.tape,h.output,h.size,fun k hk=>(h.kept k hk).2.2.2.2⟩
theorem zuU {C:Kc} {w:World} {b:Nat} {x y:Res} (h:Hid (CAt C w b x)) (hy:Hid (rDone x=some y)):Calls Tryz.prog 15 #[.pointer (some ⟨b,0,none⟩)] w fun e w'=>Kept C.k w' ∧
  ((∃ d0 d1 d2,y=.fail d0 d1 d2∧e=.returned (tells (.slice none 0 0) (d0,d1,d2) false))∨(∃ t v R D,y=.ok t∧e=.returned (tells v (0,0,0) true)∧Mine nd w' 0 v R∧Ties w' D t.R R∧OfNodes w' D∧t.R.length≤549755813888)):=by
 obtain⟨vL,vS,vR,σ,D,hr,ho,hi⟩:=h.out
 have hfw:=ziL hi
 have hy:=hy.out
 cases x with
 |fail d0 d1 d2=>
  obtain rfl:=Option.some.inj (show some (Res.fail d0 d1 d2)=some y from hy)
  obtain⟨i1,i2,i3,i4,i5⟩:=hi
  refine(ztu hr i1).mono ?_
  rintro e w' ⟨rfl,hb⟩
  exact⟨(ho.step (Nx.below hb)).keeps,.inl ⟨d0,d1,d2,rfl,by rw[i2,i3,i4];rfl⟩⟩
 |ok s=>
  have hi0:=hi
  obtain⟨i1,i2,i3,i4,i5,i6,i7,i8,i9,i10⟩:=hi
  have ha:σ.ahead 0=s.ahead 0:=zmF hi0 0
  have hy:chk (if s.ahead 0=0 then .ok (s.run (s.L.length - s.at')) else s.fail 201)=some y:=hy
  by_cases h0:s.ahead 0=0
  ·rw[if_pos h0] at hy
   obtain⟨rfl,hz⟩:=zgg hy
   refine(zuN hr (ha.trans h0) i1 zdC (s.run (s.L.length - s.at')).R D (fun w3 vR3 hn=>?_)).mono ?_
   ·refine⟨?_,fun g hg=>((ho.step hn).dead g hg).2.2.2.2⟩
    show Ties w3 D (s.R ++ _) _
    rw[Rl,List.map_append,zpg,i2,i3]
    exact(ho.ties hn i4).append (zhQ _ _ _)
   ·rintro e w' ⟨v,R',D',vR',rfl,hm,ht,hD,hn⟩
    exact⟨(ho.step hn).keeps,.inr ⟨_,v,R',D',rfl,rfl,hm,ht,hD,by omega⟩⟩
  ·rw[if_neg h0] at hy
   refine(zrz hr i1 (by rw[ha];exact h0)).mono ?_
   rintro e w' ⟨vR',rfl,hn⟩
   have e':=zgA hy
   subst e'
   obtain⟨j1,j2,j3,j4,_⟩:=zlO hi0 w' 201
   exact⟨(ho.step hn).keeps,.inl ⟨_,_,_,rfl,by rw[j2,j3,j4];rfl⟩⟩
theorem zlT (k i j:Int) (o:Option Addr) (n c:Nat) (w:World):Calls Tryz.prog 69 #[.agg #[.int .i64 k,.int .i64 i,.int .i64 j,.slice o n c]] w fun e w'=>e=.returned (.bool (sig k))∧Below w.heap.size w w':=by
 go_enter Tryz.func69,Tryz.ntmps69
 go_wp2_with (go_at_call 30;refine(zig _ _).mono ?_;rintro e w9 ⟨rfl,rfl⟩)
 go_ret
 exact⟨by simp,(Below.refl _ _).alloc (Nat.le_refl _) _⟩
theorem zpV {w:World} {v:Value} {R:List Rn} {D:Nat→Prop} {l:List Tree} (h:Row nd w v R) (ht:Ties w D l R) (hl:R.length≤1099511627776):Calls Tryz.prog 68 #[v,.func (.func 69) #[] #[]] w fun e w'=>∃ r:Int,e=.returned (.int .i64 r)∧((r = -1∧headT l=.mk 0 0 0 [])∨∃ (i:Nat) (hi:i<l.length),r=(i:Int)∧headT l=l[i])∧Below w.heap.size w w':=by
 obtain⟨g,off,o,cap,hc,hv,ho,hcell⟩:=h.lt
 subst hv
 have HO:=Lib.hid ho
 have HC:=Lib.hid hcell
 have HT:=Lib.hid (And.intro ht ht.length)
 clear h ho hcell ht
 obtain⟨len,hlen⟩:∃ len,R.length=len:=⟨_,rfl⟩
 have HLN:=Lib.hid hlen
 rw[hlen] at hc hl ⊢
 clear hlen
 go_enter Tryz.func68,Tryz.ntmps68
 go_wp2_with fail
 go_loopw [8] (fun p wr=>∃ i:Nat,i≤len∧p=.int .i64 (i:Int)∧headT (l.drop i)=headT l∧Below w.heap.size w wr) (fun p _=>len - (intOf p).toNat)
 case atStart=>exact⟨0,Nat.zero_le _,rfl,rfl,Below.refl _ _⟩
 case round=>
  obtain⟨i,hil,rfl,hhd,hb⟩:=hrel
  by_cases hlt:i<len
  ·have hiR:i<R.length:=by rw[HLN.out];exact hlt
   have hiT:i<l.length:=by rw[← HT.out.2];exact hiR
   have hoo:=HO.out zeZ
   have hgz:=hoo.2
   have hoo:=hoo.1
   subst hoo
   obtain⟨a0,a1,a2,a3⟩:=zgi HC.out i hiR
   have c0:=(hb.cell (p:=⟨g,off+i*4,none⟩) hgz).trans a0
   have c1:=(hb.cell (p:=⟨g,off+i*4+1,none⟩) hgz).trans a1
   have c2:=(hb.cell (p:=⟨g,off+i*4+2,none⟩) hgz).trans a2
   have c3:=(hb.cell (p:=⟨g,off+i*4+3,none⟩) hgz).trans a3
   have hk:=(zid HT.out.1 hiT hiR).k
   rw[zmr hiT] at hhd
   obtain⟨⟨nk,ni,nj,no,nn,nc⟩,hnode⟩:∃ n,R[i]=n:=⟨_,rfl⟩
   rw[hnode] at c0 c1 c2 c3 hk
   replace hk:nk=l[i].k:=hk
   rw[← hk] at hhd
   have HHD:=Lib.hid hhd
   have HB:=Lib.hid hb
   have hq0:(0:Int)≤(i:Int):=by omega
   have hww:(i:Int)+1≤1099511627777:=by omega
   have hd:decide ((i:Int)<(len:Int))=true:=decide_eq_true zdC
   have hd':decide (i<len)=true:=decide_eq_true hlt
   clear a0 a1 a2 a3 hk hnode hhd hb
   cases hs:sig nk with
   |true=>
    rw[hs,if_pos rfl] at HHD
    go_wp2_with (go_at_call 69;refine(zlT _ _ _ _ _ _ _).mono ?_;rintro e w2 ⟨rfl,hb2⟩;rw[hs])
    go_ret
    exact⟨_,rfl,.inr ⟨i,hiT,rfl,HHD.out.symm⟩,HB.out.trans (hb2.mono HB.out.size)⟩
   |false=>
    rw[hs,if_neg zdF] at HHD
    go_wp2_with (go_at_call 69;refine(zlT _ _ _ _ _ _ _).mono ?_;rintro e w2 ⟨rfl,hb2⟩;rw[hs])
    go_roundw
    case rel=>exact⟨i+1,by omega,by go_num,HHD.out,HB.out.trans (hb2.mono HB.out.size)⟩
    case measure=>simp [intOf];omega
  ·have hd:decide ((i:Int)<(len:Int))=false:=decide_eq_false zdC
   have hd':decide (i<len)=false:=decide_eq_false hlt
   have hT:headT l=.mk 0 0 0 []:=by
    have h1:=HLN.out
    have h2:=HT.out.2
    rw[← hhd,List.drop_of_length_le zdC]
    rfl
   have HH:=Lib.hid hT
   clear hT hhd
   go_wp2_with fail
   go_ret
   exact⟨_,rfl,.inl ⟨rfl,HH.out⟩,hb⟩
open Go.RowKit
structure Made (w W:World) (b:Nat) (vL vS:Value) (T P:List Tk):Prop where
 below:Below w.heap.size w W
 cells:W.heap[b]? = some (.cells #[vL,vS,.int .i64 0,.int .i64 0,.slice none 0 0,.int .i64 0,.int .i64 0,.int .i64 0,.int .i64 0,.bool false] 61 (0,0))
 base:w.heap.size≤b
 toks:Mine tk W w.heap.size vL T
 sigs:Mine it W w.heap.size vS (sigP 0 P)
theorem Made.more {w W W':World} {b:Nat} {vL vS:Value} {T P:List Tk} (h:Made w W b vL vS T P) (hb:Below W.heap.size W W'):Made w W' b vL vS T P:=
 ⟨h.below.trans (hb.mono h.below.size),(hb.block b (Array.getElem?_eq_some_iff.1 h.cells).1).trans h.cells,h.base,h.toks.below hb,h.sigs.below hb⟩
theorem ztx {T:List Tk} {i:Nat} (hi:i<T.length):sigP 0 (T.take (i+1))=sigP 0 (T.take i) ++ (if sig T[i].k then[(i:Int)] else[]):=by
 rw[List.take_add_one,List.getElem?_eq_getElem hi,zhu]
 have hl:(T.take i).length=i:=by rw[List.length_take];omega
 rw[hl,Nat.zero_add]
 show sigP 0 (T.take i) ++ sigP i [T[i]]=_
 rw[sigP]
 split <;> rfl
theorem Made.push {w W:World} {b i:Nat} {vL vS:Value} {T P:List Tk} (h:Made w W b vL vS T P) (hl:(sigP 0 P).length≤1099511627776) (P':List Tk) (hP:sigP 0 P'=sigP 0 P ++ [(i:Int)]) :
  ∃ v' w',(∀ ty,(Builtin.append_ #[58,58] ty #[vS,.slice (some ⟨W.heap.size,0,none⟩) 1 1]).run Tryz.prog (W.alloc (.cells #[.int .i64 (i:Int)] 3))=.ok v' w')∧(∃ o l c,v'=.slice o l c)∧w'.cell? ⟨b,1,none⟩=some vS∧w'.frozen? ⟨b,1,none⟩=false∧Made w (w'.setCell ⟨b,1,none⟩ v') b vL v' T P':=by
 have hu:Below W.heap.size W (W.alloc (.cells (it.c (i:Int)).toArray it.e)):=(Below.refl _ _).alloc (Nat.le_refl _) _
 have h2:=h.more hu
 have hz:(W.alloc (.cells (it.c (i:Int)).toArray it.e)).heap.size=W.heap.size+1:=World.size_alloc _ _
 obtain⟨g,cap,w',h3,h4,h5,h6⟩:=zgS (F:=it) (x:=(i:Int)) h2.sigs (heap_alloc_last W _) h2.below.size zdN (by show((sigP 0 P).length+1)*8≤_;omega)
 have hbS:=h2.sigs.ne h2.cells zdD
 have hbz:b<(W.alloc (.cells (it.c (i:Int)).toArray it.e)).heap.size:=(Array.getElem?_eq_some_iff.1 h2.cells).1
 have hcw:=(h5.block b hbz (fun e=>hbS e.symm)).trans h2.cells
 obtain⟨⟨_,b1,_⟩,hfz⟩:=zfV hcw
 have hgb:g≠b:=by
  rintro rfl
  rcases h6 with h6|h6
  ·exact hbS h6
  ·omega
 have hgw:w.heap.size≤g:=by
  rcases h6 with h6|h6
  ·exact(World.ownsRow.lt h2.sigs g h6).1
  ·rw[h6];exact h2.below.size
 refine⟨_,w',h3,⟨_,_,_,rfl⟩,b1,hfz 1,⟨?_,?_,h.base,?_,?_⟩⟩
 ·have hb3:=h2.below
  refine⟨h5.os.trans hb3.os,h5.tape.trans hb3.tape,h5.output.trans hb3.output,by rw[zfA];exact Nat.le_trans hb3.size h5.size,fun k hk=>?_⟩
  have hkb:=h.base
  have:=hb3.size
  rw[zfy _ _ _ _ _ zdC,h5.block k zdC (fun e=>by have:=(World.ownsRow.lt h2.sigs k e.symm).1;omega)]
  exact hb3.block k hk
 ·exact heap_setCell_same _ b 1 _ _ _ hcw
 ·refine h2.toks.keep (fun k hk hz=>?_)
  rw[zfy _ _ _ _ _ (fun e=>h2.toks.ne h2.cells zdD zdO)]
  exact h5.block k hz (fun e=>h2.toks.differs h2.sigs zdD k hk e.symm)
 ·rw[hP]
  exact h4.keep (fun k hk _=>zfy _ _ _ _ _ (fun e=>by simp only[Value.ownBlock,Option.some.injEq] at hk;omega))
theorem Made.at {w W:World} {b:Nat} {vL vS:Value} {T:List Tk} (h:Made w W b vL vS T T) (hn:T.length≤549755813888):CAt ⟨allOf w,0⟩ W b (.ok ⟨T,0,[],[],0⟩):=by
 refine⟨vL,vS,.slice none 0 0,{ L:=T,at':=0,R:=[],op:=0,d0:=0,d1:=0,d2:=0,failed:=false },fun _=>False,⟨h.cells,h.toks.mono (Nat.zero_le _),h.sigs.mono (Nat.zero_le _),Mine.nil _ _,Nat.zero_le _,by show T.length≤_;omega⟩,⟨h.below.os,h.below.tape,h.below.output,h.below.size,fun k hk=>?_,fun k hk=>hk.elim⟩,rfl,rfl,rfl,Ties.nil,rfl,rfl,?_,by show 0≤100;decide,by show 0+T.length≤_;omega,Nat.zero_le _⟩
 ·have hk:k<w.heap.size:=hk
  have:=h.base
  exact⟨hk,by omega,by simp [Value.ownBlock],by simp [Value.ownBlock],h.below.block k hk⟩
 ·intro x hx
  cases hx
theorem zuI {w:World} {v:Value} {T:List Tk} (hr:Row tk w v T) (hn:T.length≤549755813888) :
  Calls Tryz.prog 9 #[v] w fun e w'=>∃ b,e=.returned (.pointer (some ⟨b,0,none⟩))∧CAt ⟨allOf w,0⟩ w' b (.ok ⟨T,0,[],[],0⟩):=by
 have HCL:=Lib.hid (zrp hr zdC)
 obtain⟨g,off,o,cap,hc,rfl,ho,hcell⟩:=hr.lt
 have HO:=Lib.hid ho
 have HC:=Lib.hid hcell
 clear hr ho hcell
 obtain⟨len,hlen⟩:∃ len,T.length=len:=⟨_,rfl⟩
 have HLN:=Lib.hid hlen
 rw[hlen] at hc hn HCL ⊢
 clear hlen
 go_enter Tryz.func9,Tryz.ntmps9
 go_wp2_with (go_at_call 29;refine HCL.out.mono ?_;rintro e w1 ⟨v',rfl,hm,hb⟩;obtain⟨gL,oL,cL,rfl,hoL,_⟩:=hm.shape)
 have HM:=Lib.hid hm
 have HB:=Lib.hid hb
 clear hm hb hoL
 obtain⟨b,hbe⟩:∃ b,w1.heap.size=b:=⟨_,rfl⟩
 have HBE:=Lib.hid hbe
 rw[hbe]
 clear hbe
 go_loopw [12] (fun p wr=>∃ (i:Nat) (vS:Value),i≤len∧p=.int .i64 (i:Int)∧Made w wr b (.slice oL T.length cL) vS T (T.take i)) (fun p _=>len - (intOf p).toNat)
 case atStart=>
  have hbl:Below w1.heap.size w1 (w1.alloc (.cells #[.slice oL T.length cL,.slice none 0 0,.int .i64 0,.int .i64 0,.slice none 0 0,.int .i64 0,.int .i64 0,.int .i64 0,.int .i64 0,.bool false] 61)):=(Below.refl _ _).alloc (Nat.le_refl _) _
  exact⟨0,.slice none 0 0,Nat.zero_le _,rfl,HB.out.trans (hbl.mono HB.out.size),by rw[← HBE.out];exact heap_alloc_last _ _,by rw[← HBE.out];exact HB.out.size,HM.out.below hbl,by rw[List.take_zero];exact Mine.nil _ _⟩
 case round=>
  obtain⟨i,vS,hil,rfl,hmd⟩:=hrel
  by_cases hlt:i<len
  ·have hiT:i<T.length:=by rw[HLN.out];exact hlt
   obtain⟨hoo,hgz⟩:=HO.out (by intro e;rw[e] at hiT;simp at hiT)
   subst hoo
   obtain⟨c0,c1,c2⟩:=zgl HC.out i hiT
   have d0:=(hmd.below.cell (p:=⟨g,off+i*3,none⟩) hgz).trans c0
   have d1:=(hmd.below.cell (p:=⟨g,off+i*3+1,none⟩) hgz).trans c1
   have d2:=(hmd.below.cell (p:=⟨g,off+i*3+2,none⟩) hgz).trans c2
   have hsp:=ztx hiT
   obtain⟨⟨z,x1,x2⟩,ht⟩:∃ t,T[i]=t:=⟨_,rfl⟩
   rw[ht] at d0 d1 d2 hsp
   simp only[] at d0 d1 d2 hsp
   have hal:Below wr.heap.size wr (wr.alloc (.cells #[.int .i64 z,.int .i64 x1,.int .i64 x2] 55)):=(Below.refl _ _).alloc (Nat.le_refl _) _
   have hmd2:=hmd.more hal
   have hq0:(0:Int)≤(i:Int):=by omega
   have hww:(i:Int)+1≤1099511627777:=by omega
   have hd:decide ((i:Int)<(len:Int))=true:=decide_eq_true zdC
   have hd':decide (i<len)=true:=decide_eq_true hlt
   have hle:=ziQ (T.take i) 0
   rw[List.length_take] at hle
   have hbz:b<wr.heap.size:=(Array.getElem?_eq_some_iff.1 hmd.cells).1
   cases hs:sig z with
   |true=>
    rw[hs,if_pos rfl] at hsp
    obtain⟨v2,w2,hrun,⟨o2,l2,cp2,rfl⟩,hb1,hf1,hmd3⟩:=hmd2.push zdC _ hsp
    have HRUN:=Lib.hid hrun
    have HMD3:=Lib.hid hmd3
    obtain⟨⟨_,e1,_⟩,_⟩:=zfV hmd.cells
    have hz2:(wr.alloc (.cells #[.int .i64 z,.int .i64 x1,.int .i64 x2] 55)).heap.size=wr.heap.size+1:=World.size_alloc _ _
    rw[hz2] at HRUN
    clear hrun hmd3 hmd hmd2 c0 c1 c2 ht hsp hal
    exact zbN
   |false=>
    rw[hs,if_neg zdF,List.append_nil] at hsp
    have hmd3:Made w (wr.alloc (.cells #[.int .i64 z,.int .i64 x1,.int .i64 x2] 55)) b (.slice oL T.length cL) vS T (T.take (i+1)):=⟨hmd2.below,hmd2.cells,hmd2.base,hmd2.toks,by rw[hsp];exact hmd2.sigs⟩
    have HMD3:=Lib.hid hmd3
    clear hmd3 hmd hmd2 c0 c1 c2 ht hsp hal
    exact zbN
  ·have hTT:T.take i=T:=List.take_of_length_le zdG
   rw[hTT] at hmd
   have hfin:=hmd.at (by rw[HLN.out];exact hn)
   have HF:=Lib.hid hfin
   have hd:decide ((i:Int)<(len:Int))=false:=decide_eq_false zdC
   have hd':decide (i<len)=false:=decide_eq_false hlt
   clear hmd hfin hTT
   go_wp2_with fail
   go_ret
   exact⟨_,rfl,HF.out⟩
end Go.Proofs.YtcekbbkidipbnaaGreat.rd
