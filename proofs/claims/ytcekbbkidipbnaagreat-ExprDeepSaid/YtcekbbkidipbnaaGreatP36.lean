/-
  Texts put together: Fz, Ga.
-/
import Derived.Test.YtcekbbkidipbnaaGreatP35
import Derived.Test.YtcekbbkidipbnaaGreatP29
import Derived.Test.YtcekbbkidipbnaaGreatP30
import Derived.Test.YtcekbbkidipbnaaGreatP31
import Derived.Test.YtcekbbkidipbnaaGreatP32
set_option maxRecDepth 100000
set_option maxHeartbeats 8000000
namespace Go.Proofs.YtcekbbkidipbnaaGreat.rd
open Go.RowKit
theorem aside {C:Keep} {w:World} {b B:Nat} {s:St} {l:List Ent} {vF vT vN:Value} (hat:At C w b (.ok s)) (hF:Held C w B vF it (l.map fun e=>(e.a:Int))) (hT:Held C w B vT it (l.map fun e=>(e.b:Int))) (hN:Held C w B vN bl (l.map Ent.is)) :
  ∃ vR vH,(∃ oR cR,vR=.slice oR s.R.length cR)∧(∃ oH cH,vH=.slice oH s.R.length cH)∧(w.cell? ⟨b,2,none⟩=some vR∧w.cell? ⟨b,3,none⟩=some vH∧w.frozen? ⟨b,2,none⟩=false∧w.frozen? ⟨b,3,none⟩=false)∧s.H.length=s.R.length∧(∀ z∈s.H,0≤z∧z≤100)∧b<w.heap.size ∧
  ∀ w1,w1=(w.setCell ⟨b,2,none⟩ (.slice none 0 0)).setCell ⟨b,3,none⟩ (.slice none 0 0)→∃ C1 D R,Ties w1 D s.R R∧AtD C1 w1 b (.ok { s with R:=[],H:=[] }) D 0 s.L∧Five C1 w1 B vR vH vF vT vN R s.H l∧(∀ w2 y D2 N,(∀ g,D g→D2 g)→AtD C1 w2 b y D2 N s.L→Hid (At C w2 b y))∧(∀ w2 x D2 N,(∀ g,D g→D2 g)→AtD C1 w2 b x D2 N s.L→Ties w2 D2 s.R R):=by
 have hat0:=hat
 obtain⟨vL,vR,vH,σ,D,hr,ho,hi⟩:=hat
 obtain⟨h1,h2,h3,h4,h5,h6,h7,h8,h9,h10⟩:=hi
 obtain⟨⟨_,_,b2,b3,_,_,_,_,_⟩,hfz⟩:=zgd hr.cells
 have hl:=h4.length
 have hbz:b<w.heap.size:=(Array.getElem?_eq_some_iff.1 hr.cells).1
 refine⟨vR,vH,?_,?_,⟨b2,b3,hfz 2,hfz 3⟩,h7,h8,hbz,fun w1 hw1=>?_⟩
 ·obtain⟨g,o,cap,hv,_⟩:=hr.row.shape
  exact⟨o,cap,by rw[← hl];exact hv⟩
 ·obtain⟨g,o,cap,hv,_⟩:=hr.high.shape
  exact⟨o,cap,by rw[← h7,← h5];exact hv⟩
 have hs1:∀ k,k≠b→w1.heap[k]? = w.heap[k]?:=fun k hk=>by rw[hw1,zfy _ _ _ _ _ hk,zfy _ _ _ _ _ hk]
 have hz1:w1.heap.size=w.heap.size:=by rw[hw1,zfA,zfA]
 have hRb:=hr.row.ne hr.cells zdD
 have hHb:=hr.high.ne hr.cells zdD
 have hkb:∀ k,C.K k→k≠b:=fun k hk=>(ho.kept k hk).2.1
 have hT1:Ties w1 D s.R σ.R:=Ties.keep (fun g hg=>hs1 g (ho.dead g hg).2.1) (fun _ h=>h) _ _ h4
 refine⟨⟨w1,fun k=>C.K k∨(vR.ownBlock=some k∨vH.ownBlock=some k∨D k)⟩,D,σ.R,hT1,?_,?_,fun w2 y D2 N hD h=>?_,fun w2 x D2 N hD h=>?_⟩
 ·refine⟨vL,.slice none 0 0,.slice none 0 0,{ σ with R:=[],H:=[] },⟨?_,hr.toks.off hr.cells zdD (fun k _ hk=>hs1 k hk),Mine.nil _ _,Mine.nil _ _,hr.read,hr.few⟩,⟨rfl,rfl,rfl,Nat.le_refl _,fun k hk=>?_,fun k hk=>?_⟩,?_,Nat.le_refl _,h2⟩
  ·rw[hw1]
   exact heap_setCell_same _ b 3 _ _ _ (heap_setCell_same _ b 2 _ _ _ hr.cells)
  ·have hk2:k<w.heap.size∧k≠b:=by
    rcases hk with hk|hk|hk|hk
    ·have:=(ho.kept k hk).1
     have:=ho.size
     exact⟨by omega,hkb k hk⟩
    ·exact⟨hr.row.lt k hk,fun e=>hRb zdO⟩
    ·exact⟨hr.high.lt k hk,fun e=>hHb zdO⟩
    ·exact⟨(ho.dead k hk).1,(ho.dead k hk).2.1⟩
   exact⟨by show k<w1.heap.size;omega,hk2.2,fun e=>by simp [Value.ownBlock] at e,fun e=>by simp [Value.ownBlock] at e,rfl⟩
  ·obtain⟨a1,a2,_,_,a5⟩:=ho.dead k hk
   exact⟨by omega,a2,fun e=>by simp [Value.ownBlock] at e,fun e=>by simp [Value.ownBlock] at e,by rw[hs1 k a2];exact a5⟩
  ·refine⟨h1,h2,h3,Ties.nil,rfl,h6,rfl,by simp,h9,by simp;omega⟩
 ·refine⟨⟨hr.row.keep (fun k hk _=>hs1 k (fun e=>hRb zdO)),fun k hk=>.inr (.inl hk)⟩,⟨?_,fun k hk=>.inr (.inr (.inl hk))⟩,⟨hF.mine.keep (fun k hk _=>hs1 k (hkb k (hF.held k hk))),fun k hk=>.inl (hF.held k hk)⟩,⟨hT.mine.keep (fun k hk _=>hs1 k (hkb k (hT.held k hk))),fun k hk=>.inl (hT.held k hk)⟩,⟨hN.mine.keep (fun k hk _=>hs1 k (hkb k (hN.held k hk))),fun k hk=>.inl (hN.held k hk)⟩⟩
  rw[← h5]
  exact hr.high.keep (fun k hk _=>hs1 k (fun e=>hHb zdO))
 ·obtain⟨vL2,vR2,vH2,σ2,hr2,ho2,hi2,_,_⟩:=h
  refine Lib.hid ⟨vL2,vR2,vH2,σ2,D2,hr2,⟨ho2.os.trans ((by rw[hw1];rfl:w1.os=w.os).trans ho.os),ho2.tape.trans ((by rw[hw1];rfl:w1.tape=w.tape).trans ho.tape),ho2.output.trans ((by rw[hw1];rfl:w1.output=w.output).trans ho.output),Nat.le_trans (by rw[hz1];exact ho.size) ho2.size,fun k hk=>?_,ho2.dead⟩,hi2⟩
  obtain⟨_,a2,a3,a4,a5⟩:=ho2.kept k (.inl hk)
  obtain⟨c1,c2,_,_,c5⟩:=ho.kept k hk
  exact⟨c1,a2,a3,a4,a5.trans ((hs1 k c2).trans c5)⟩
 ·obtain⟨vL2,vR2,vH2,σ2,hr2,ho2,hi2,_,_⟩:=h
  exact Ties.keep (fun g hg=>(ho2.kept g (.inr (.inr (.inr hg)))).2.2.2.2) hD _ _ hT1
theorem zuG:GroupC:=by
 intro C w b B s y l any vF vT vN hat hF hT hN hwf hfew hy
 obtain⟨vR,vH,⟨oR,cR,rfl⟩,⟨oH,cH,rfl⟩,⟨b2,b3,f2,f3⟩,hHR,hHB,hbz,hside⟩:=aside hat.out hF.out hT.out hN.out
 obtain⟨gF,oF,cF,hvF,hoF,_⟩:=hF.out.mine.shape
 rw[List.length_map] at hvF
 subst hvF
 obtain⟨gT,oT,cT,hvT,hoT,_⟩:=hT.out.mine.shape
 obtain⟨gN,oN,cN,hvN,hoN,_⟩:=hN.out.mine.shape
 rw[List.length_map] at hvT hvN
 subst hvT
 subst hvN
 have hll:l.length≤549755813888:=by omega
 cases l with
 |nil=>
  obtain rfl:=Option.some.inj (show some (Res.ok s)=some y from hy.out)
  clear hside hy
  go_enter Tryz.func107,Tryz.ntmps107
  go_wp2_with fail
  all_goals(first|go_end0|go_ret)
  all_goals exact⟨_,rfl,hat⟩
 |cons e r=>
  have HY:Hid (rGroups s.R s.H any (e::r) e.a e.a (.ok { s with R:=s.R.take e.a,H:=s.H.take e.a })=some y):=hy
  obtain⟨w1,hw1⟩:∃ w1,(w.setCell ⟨b,2,none⟩ (.slice none 0 0)).setCell ⟨b,3,none⟩ (.slice none 0 0)=w1:=⟨_,rfl⟩
  obtain⟨C1,D,R,hties,hA,hV,hback,hkt⟩:=hside w1 hw1.symm
  have hoF:=hoF zdF
  subst hoF
  have hoT:=hoT zdF
  subst hoT
  have hoN:=hoN zdF
  subst hoN
  have HW1:=Lib.hid hw1
  have HTI:=Lib.hid hties
  have HA:=Lib.hid hA
  have HV:=Lib.hid hV
  have HBK:=Lib.hid hback
  have HKT:=Lib.hid hkt
  have HHR:=Lib.hid hHR
  have HHB:=Lib.hid hHB
  have hlR:R.length=s.R.length:=hties.length
  have HLR:=Lib.hid hlR
  have hd0:((((e::r).length:Nat):Int) == 0)=false:=beq_eq_false_iff_ne.2 zdU
  have hd1:(((r.length:Int)+1) == 0)=false:=beq_eq_false_iff_ne.2 zdC
  have hfl:∀ u,Five C1 u B (.slice oR s.R.length cR) (.slice oH s.R.length cH) (.slice (some ⟨gF,0,none⟩) (e::r).length cF) (.slice (some ⟨gT,0,none⟩) (e::r).length cT) (.slice (some ⟨gN,0,none⟩) (e::r).length cN) R s.H (e::r)→u.cell? ⟨gF,0,none⟩=some (.int .i64 (e.a:Int)):=fun u h=>by
   have:=zgh h.f.mine.cells 0 zdF
   simpa using this
  have HFL:=Lib.hid hfl
  obtain⟨hw0,hw2,hw3,hw4⟩:=zir hwf
  have HWF:Hid (wfE e.a ((e::r).drop 0) s.R.length=true):=Lib.hid (by rw[List.drop_zero,wfE,hw4];simp [hw2])
  clear hside hy hw1 hties hA hV hback hkt hHR hHB hlR hfl hat hF hT hN
  obtain⟨len,hlen⟩:∃ len,(e::r).length=len:=⟨_,rfl⟩
  have HLN:=Lib.hid hlen
  rw[hlen] at hd0 hfew hll HFL HV ⊢
  have hlr:r.length+1=len:=hlen
  have hd2:((len:Int) == 0)=false:=hd0
  clear hlen
  go_enter Tryz.func107,Tryz.ntmps107
  go_wp2_with fail
  rw[HW1.out]
  go_loopw [12] (fun p wr=>∃ c:Nat,c≤e.a∧p=.int .i64 (c:Int)∧AtD C1 wr b ((Res.ok { s with R:=[],H:=[] }).back s.R s.H 0 c) D c s.L∧Five C1 wr B (.slice oR s.R.length cR) (.slice oH s.R.length cH) (.slice (some ⟨gF,0,none⟩) len cF) (.slice (some ⟨gT,0,none⟩) len cT) (.slice (some ⟨gN,0,none⟩) len cN) R s.H (e::r)) (fun p _=>e.a - (intOf p).toNat)
  case atStart=>exact⟨0,Nat.zero_le _,rfl,by rw[zgI];exact HA.out,HV.out⟩
  case round=>
   obtain⟨c,hce,rfl,hA,hV⟩:=hrel
   have hf0:=HFL.out _ hV
   by_cases hlt:c<e.a
   ·have hc:c<s.R.length:=by omega
    have hac:0≤c:=Nat.zero_le _
    have hN:c+1+s.L.length≤549755813888:=by omega
    have hsub:∀ g,D g→D g:=fun _ h=>h
    have hd:decide ((c:Int)<(e.a:Int))=true:=decide_eq_true zdC
    have hd':decide (c<e.a)=true:=decide_eq_true hlt
    obtain⟨gR,oR',cR',hvR,hoR,_⟩:=hV.r.mine.shape
    obtain⟨gH,oH',cH',hvH,hoH,_⟩:=hV.h.mine.shape
    simp only[Value.slice.injEq] at hvR hvH
    obtain⟨rfl,hxx1,rfl⟩:=hvR
    obtain⟨rfl,hxx2,rfl⟩:=hvH
    clear hxx1 hxx2
    have hoR:=hoR zeK
    have hoH:=hoH zeL
    subst hoR
    subst hoH
    have hcR:c<R.length:=by rw[HLR.out];exact hc
    have hcH:c<s.H.length:=by rw[HHR.out];exact hc
    obtain⟨nn,hnn⟩:∃ nn,R[c]=nn:=⟨_,rfl⟩
    obtain⟨hh,hhh⟩:∃ hh,s.H[c]=hh:=⟨_,rfl⟩
    have htie:Tie wr D s.R[c] nn:=by
     obtain⟨N',h1,h2⟩:=zht (HKT.out _ _ _ _ hsub hA) c s.R[c] (List.getElem?_eq_getElem hc)
     exact zba
    have hhb:=HHB.out _ (List.getElem_mem hcH)
    rw[hhh] at hhb
    have hpush:=ziY hA s.R[c] nn hh htie hhb hN
    have hbs:=zkY (Res.ok { s with R:=[],H:=[] }) s.R s.H 0 c hac hc hcH
    rw[hhh] at hbs
    rw[← hbs] at hpush
    have HS:Hid (∀ u,Below wr.heap.size wr u→(u.cell? ⟨gR,c*4,none⟩=some (.int .i64 nn.k)∧u.cell? ⟨gR,c*4+1,none⟩=some (.int .i64 nn.i)∧u.cell? ⟨gR,c*4+2,none⟩=some (.int .i64 nn.j)∧u.cell? ⟨gR,c*4+3,none⟩=some (.slice nn.o nn.n nn.c)∧u.cell? ⟨gH,c,none⟩=some (.int .i64 hh))∧Calls Tryz.prog 67 #[.pointer (some ⟨b,0,none⟩),nn.v,.int .i64 hh] u fun e' w'=>∃ v,e'=.returned v∧AtD C1 w' b ((Res.ok { s with R:=[],H:=[] }).back s.R s.H 0 (c+1)) D (c+1) s.L∧Five C1 w' B (.slice (some ⟨gR,0,none⟩) s.R.length cR) (.slice (some ⟨gH,0,none⟩) s.R.length cH) (.slice (some ⟨gF,0,none⟩) len cF) (.slice (some ⟨gT,0,none⟩) len cT) (.slice (some ⟨gN,0,none⟩) len cN) R s.H (e::r)∧(w'.cell? ⟨gR,c*4,none⟩=some (.int .i64 nn.k)∧w'.cell? ⟨gR,c*4+1,none⟩=some (.int .i64 nn.i)∧w'.cell? ⟨gR,c*4+2,none⟩=some (.int .i64 nn.j)∧w'.cell? ⟨gR,c*4+3,none⟩=some (.slice nn.o nn.n nn.c)∧w'.cell? ⟨gH,c,none⟩=some (.int .i64 hh))):=Lib.hid (fun u hu=>by
     have hAu:=hA.below hu
     have hVu:=hV.call hA.at hAu.at
     obtain⟨a0,a1,a2,a3⟩:=zgi hVu.r.mine.cells c hcR
     have a4:=zgh hVu.h.mine.cells c hcH
     rw[hnn,Nat.zero_add] at a0 a1 a2 a3
     rw[hhh,Nat.zero_add] at a4
     refine⟨⟨a0,a1,a2,a3,a4⟩,?_⟩
     have htu:Tie u D s.R[c] nn:=by
      obtain⟨N',h1,h2⟩:=zht (HKT.out _ _ _ _ hsub hAu) c s.R[c] (List.getElem?_eq_getElem hc)
      exact zba
     exact zaU)
    obtain⟨⟨q0,q1,q2,q3,q4⟩,_⟩:=HS.out _ (Below.refl _ _)
    have hq0:(0:Int)≤(c:Int):=by omega
    have hq1:(c:Int)<(s.R.length:Int):=by omega
    obtain⟨z,x1,x2,xo,xn,xc⟩:=nn
    rw[show(Rn.mk z x1 x2 xo xn xc).v=.agg #[.int .i64 z,.int .i64 x1,.int .i64 x2,.slice xo xn xc] from rfl] at HS
    simp only[] at q0 q1 q2 q3 HS
    clear hpush hbs htie hnn hhh hcR hcH
    go_wp2_with fail
    go_region_held3 (fun W'=>W'.cell? ⟨gR,c*4,none⟩=some (.int .i64 z)∧W'.cell? ⟨gR,c*4+1,none⟩=some (.int .i64 x1)∧W'.cell? ⟨gR,c*4+2,none⟩=some (.int .i64 x2)∧W'.cell? ⟨gR,c*4+3,none⟩=some (.slice xo xn xc)∧W'.cell? ⟨gH,c,none⟩=some (.int .i64 hh))
     (first|exact hq'|exact(HS.out _ (Below.refl _ _).drew).1)
     (first|(go_at_call 67;refine(HS.out _ (Below.refl _ _).drew).2.mono ?_;rintro e' w' ⟨v,rfl,hA',hV',hq'⟩))
    all_goals(try go_wp2_with fail)
    all_goals go_roundw
    all_goals first|exact⟨c+1,by omega,by go_num,hA'.mono zdC,hV'⟩|(simp only[intOf];omega)
   ·obtain rfl:c=e.a:=by omega
    have hx0:(Res.ok { s with R:=[],H:=[] }).back s.R s.H 0 e.a=.ok { s with R:=s.R.take e.a,H:=s.H.take e.a }:=by simp [Res.back,St.back]
    rw[hx0] at hA
    have hl1:(s.R.take e.a).length=e.a:=by rw[List.length_take];omega
    have hd:decide ((e.a:Int)<(e.a:Int))=false:=decide_eq_false zdC
    clear hx0 hlt
    go_wp2_with (go_at_call 62;refine(zfE (Lib.hid hA.at)).mono ?_;rintro e' w' ⟨rfl,rfl⟩;rw[hl1])
    go_loopw [13,14,15] (fun pm pa pi wr=>∃ (i m a:Nat) (mv:Int) (x:Res) (D2:Nat→Prop),i≤len∧pi=.int .i64 (i:Int)∧pa=.int .i64 (a:Int)∧pm=.int .i64 mv∧(x.bad=false→mv=m)∧(∀ g,D g→D2 g)∧AtD C1 wr b x D2 (a+i) s.L∧Five C1 wr B (.slice oR s.R.length cR) (.slice oH s.R.length cH) (.slice (some ⟨gF,0,none⟩) len cF) (.slice (some ⟨gT,0,none⟩) len cT) (.slice (some ⟨gN,0,none⟩) len cN) R s.H (e::r)∧wfE a ((e::r).drop i) s.R.length=true∧rGroups s.R s.H any ((e::r).drop i) m a x=some y) (fun _ _ pi _=>len - (intOf pi).toNat)
    case atStart=>exact⟨0,e.a,e.a,_,.ok { s with R:=s.R.take e.a,H:=s.H.take e.a },D,Nat.zero_le _,rfl,rfl,rfl,fun _=>rfl,fun _ h=>h,hA,hV,HWF.out,HY.out⟩
    case round=>
     clear hA hV
     obtain⟨i,m,a,mv,x,D2,hil,rfl,rfl,rfl,hmv,hD2,hA,hV,hwa,hgr⟩:=hrel
     by_cases hlt:i<len
     ·have hd:decide ((i:Int)<(len:Int))=true:=decide_eq_true zdC
      have hd':decide (i<len)=true:=decide_eq_true hlt
      have hli:i<(e::r).length:=by rw[HLN.out];exact hlt
      rw[List.drop_eq_getElem_cons hli] at hwa hgr
      obtain⟨en,hen⟩:∃ en,(e::r)[i]=en:=⟨_,rfl⟩
      rw[hen] at hwa hgr
      obtain⟨hw1,hw2,hw3,hwb⟩:=zir hwa
      have HTN:Hid (∀ u,Five C1 u B (.slice oR s.R.length cR) (.slice oH s.R.length cH) (.slice (some ⟨gF,0,none⟩) len cF) (.slice (some ⟨gT,0,none⟩) len cT) (.slice (some ⟨gN,0,none⟩) len cN) R s.H (e::r)→u.cell? ⟨gT,i,none⟩=some (.int .i64 (en.b:Int))∧u.cell? ⟨gN,i,none⟩=some (.bool en.is)):=Lib.hid (fun u h=>by
       have h1:=zgh h.t.mine.cells i (by rw[List.length_map];exact hli)
       have h2:=ziX h.n.mine.cells i (by rw[List.length_map];exact hli)
       rw[List.getElem_map,hen,Nat.zero_add] at h1 h2
       exact⟨h1,h2⟩)
      have HEN:=Lib.hid hen
      obtain⟨hb0,hn0⟩:=HTN.out _ hV
      have hq0:(0:Int)≤(i:Int):=by omega
      clear hen hwa
      go_wp2_with fail
      go_loopw [14] (fun pa wr=>∃ c:Nat,a≤c∧c≤en.b∧pa=.int .i64 (c:Int)∧AtD C1 wr b (x.back s.R s.H a c) D2 (c+i) s.L∧Five C1 wr B (.slice oR s.R.length cR) (.slice oH s.R.length cH) (.slice (some ⟨gF,0,none⟩) len cF) (.slice (some ⟨gT,0,none⟩) len cT) (.slice (some ⟨gN,0,none⟩) len cN) R s.H (e::r)) (fun pa _=>en.b - (intOf pa).toNat)
      case atStart=>exact⟨a,Nat.le_refl _,by omega,rfl,by rw[zgI];exact hA,hV⟩
      case round=>
       clear hA hV hb0 hn0
       obtain⟨c,hac,hce,rfl,hA,hV⟩:=hrel
       obtain⟨hb0,hn0⟩:=HTN.out _ hV
       by_cases hlt2:c<en.b
       ·have hc:c<s.R.length:=by omega
        have hN:c+i+1+s.L.length≤549755813888:=by omega
        have hsub:∀ g,D g→D2 g:=hD2
        have hd:decide ((c:Int)<(en.b:Int))=true:=decide_eq_true zdC
        have hd':decide (c<en.b)=true:=decide_eq_true hlt2
        obtain⟨gR,oR',cR',hvR,hoR,_⟩:=hV.r.mine.shape
        obtain⟨gH,oH',cH',hvH,hoH,_⟩:=hV.h.mine.shape
        simp only[Value.slice.injEq] at hvR hvH
        obtain⟨rfl,hxx1,rfl⟩:=hvR
        obtain⟨rfl,hxx2,rfl⟩:=hvH
        clear hxx1 hxx2
        have hoR:=hoR zeK
        have hoH:=hoH zeL
        subst hoR
        subst hoH
        have hcR:c<R.length:=by rw[HLR.out];exact hc
        have hcH:c<s.H.length:=by rw[HHR.out];exact hc
        obtain⟨nn,hnn⟩:∃ nn,R[c]=nn:=⟨_,rfl⟩
        obtain⟨hh,hhh⟩:∃ hh,s.H[c]=hh:=⟨_,rfl⟩
        have htie:Tie wr D2 s.R[c] nn:=by
         obtain⟨N',h1,h2⟩:=zht (HKT.out _ _ _ _ hsub hA) c s.R[c] (List.getElem?_eq_getElem hc)
         exact zba
        have hhb:=HHB.out _ (List.getElem_mem hcH)
        rw[hhh] at hhb
        have hpush:=ziY hA s.R[c] nn hh htie hhb hN
        have hbs:=zkY (x) s.R s.H a c hac hc hcH
        rw[hhh] at hbs
        rw[← hbs] at hpush
        have HS:Hid (∀ u,Below wr.heap.size wr u→(u.cell? ⟨gR,c*4,none⟩=some (.int .i64 nn.k)∧u.cell? ⟨gR,c*4+1,none⟩=some (.int .i64 nn.i)∧u.cell? ⟨gR,c*4+2,none⟩=some (.int .i64 nn.j)∧u.cell? ⟨gR,c*4+3,none⟩=some (.slice nn.o nn.n nn.c)∧u.cell? ⟨gH,c,none⟩=some (.int .i64 hh))∧Calls Tryz.prog 67 #[.pointer (some ⟨b,0,none⟩),nn.v,.int .i64 hh] u fun e' w'=>∃ v,e'=.returned v∧AtD C1 w' b ((x).back s.R s.H a (c+1)) D2 (c+i+1) s.L∧Five C1 w' B (.slice (some ⟨gR,0,none⟩) s.R.length cR) (.slice (some ⟨gH,0,none⟩) s.R.length cH) (.slice (some ⟨gF,0,none⟩) len cF) (.slice (some ⟨gT,0,none⟩) len cT) (.slice (some ⟨gN,0,none⟩) len cN) R s.H (e::r)∧(w'.cell? ⟨gR,c*4,none⟩=some (.int .i64 nn.k)∧w'.cell? ⟨gR,c*4+1,none⟩=some (.int .i64 nn.i)∧w'.cell? ⟨gR,c*4+2,none⟩=some (.int .i64 nn.j)∧w'.cell? ⟨gR,c*4+3,none⟩=some (.slice nn.o nn.n nn.c)∧w'.cell? ⟨gH,c,none⟩=some (.int .i64 hh))):=Lib.hid (fun u hu=>by
         have hAu:=hA.below hu
         have hVu:=hV.call hA.at hAu.at
         obtain⟨a0,a1,a2,a3⟩:=zgi hVu.r.mine.cells c hcR
         have a4:=zgh hVu.h.mine.cells c hcH
         rw[hnn,Nat.zero_add] at a0 a1 a2 a3
         rw[hhh,Nat.zero_add] at a4
         refine⟨⟨a0,a1,a2,a3,a4⟩,?_⟩
         have htu:Tie u D2 s.R[c] nn:=by
          obtain⟨N',h1,h2⟩:=zht (HKT.out _ _ _ _ hsub hAu) c s.R[c] (List.getElem?_eq_getElem hc)
          exact zba
         exact zaU)
        obtain⟨⟨q0,q1,q2,q3,q4⟩,_⟩:=HS.out _ (Below.refl _ _)
        have hq0:(0:Int)≤(c:Int):=by omega
        have hq1:(c:Int)<(s.R.length:Int):=by omega
        obtain⟨z,x1,x2,xo,xn,xc⟩:=nn
        rw[show(Rn.mk z x1 x2 xo xn xc).v=.agg #[.int .i64 z,.int .i64 x1,.int .i64 x2,.slice xo xn xc] from rfl] at HS
        simp only[] at q0 q1 q2 q3 HS
        clear hpush hbs htie hnn hhh hcR hcH
        go_wp2_with fail
        go_region_held3 (fun W'=>W'.cell? ⟨gR,c*4,none⟩=some (.int .i64 z)∧W'.cell? ⟨gR,c*4+1,none⟩=some (.int .i64 x1)∧W'.cell? ⟨gR,c*4+2,none⟩=some (.int .i64 x2)∧W'.cell? ⟨gR,c*4+3,none⟩=some (.slice xo xn xc)∧W'.cell? ⟨gH,c,none⟩=some (.int .i64 hh))
         (first|exact hq'|exact(HS.out _ (Below.refl _ _).drew).1)
         (first|(go_at_call 67;refine(HS.out _ (Below.refl _ _).drew).2.mono ?_;rintro e' w' ⟨v,rfl,hA',hV',hq'⟩))
        all_goals(try go_wp2_with fail)
        all_goals go_roundw
        all_goals first|exact⟨c+1,by omega,by omega,by go_num,hA'.mono zdC,hV'⟩|(simp only[intOf];omega)
       ·obtain rfl:c=en.b:=by omega
        have hd:decide ((en.b:Int)<(en.b:Int))=false:=decide_eq_false zdC
        rcases Bool.eq_false_or_eq_true (!any || en.is) with hq|hq
        ·have HQ:=Lib.hid hq
         obtain⟨y1,hy1,hrest⟩:=zjL hq hgr
         clear hgr
         have hmm:(x.back s.R s.H a en.b).bad=false→mv=(m:Int):=fun h=>hmv (by cases x with|ok _=>rfl|fail _ _ _=>exact h)
         have HCLO:=Lib.hid (znM mv (m:Int) 233 hA hmm hy1)
         have HREST:=Lib.hid hrest
         clear hrest
         have hA0:=hA.at
         obtain⟨nx,hnx⟩:∃ nx,nextA ((e::r).drop (i+1)) s.R.length=nx:=⟨_,rfl⟩
         rw[hnx] at HREST
         obtain⟨hnx1,hnx2,hnx3⟩:=zlB hwb
         rw[hnx] at hnx1 hnx2 hnx3
         have hnn:(i+1=len∧nx=s.R.length)∨(i+1<len∧∀ u,Five C1 u B (.slice oR s.R.length cR) (.slice oH s.R.length cH) (.slice (some ⟨gF,0,none⟩) len cF) (.slice (some ⟨gT,0,none⟩) len cT) (.slice (some ⟨gN,0,none⟩) len cN) R s.H (e::r)→u.cell? ⟨gF,i+1,none⟩=some (.int .i64 (nx:Int))):=by
          by_cases hil1:i+1<len
          ·right
           have hli1:i+1<(e::r).length:=by rw[HLN.out];exact hil1
           rw[List.drop_eq_getElem_cons hli1] at hnx
           refine⟨hil1,fun u h=>?_⟩
           have h1:=zgh h.f.mine.cells (i+1) (by rw[List.length_map];exact hli1)
           rw[List.getElem_map,Nat.zero_add] at h1
           rw[← hnx]
           exact h1
          ·left
           rw[List.drop_of_length_le zdG] at hnx
           exact⟨by omega,hnx.symm⟩
         have hany:any=false∨(any=true∧en.is=true):=by
          cases any
          ·exact .inl rfl
          ·exact .inr ⟨rfl,by simpa using HQ.out⟩
         clear hnx
         rcases hnn with⟨hn1,hn2⟩|⟨hn1,hn2⟩
         ·subst hn2
          have HFL2:Hid (∀ u,Five C1 u B (.slice oR s.R.length cR) (.slice oH s.R.length cH) (.slice (some ⟨gF,0,none⟩) len cF) (.slice (some ⟨gT,0,none⟩) len cT) (.slice (some ⟨gN,0,none⟩) len cN) R s.H (e::r)→True):=Lib.hid (fun _ _=>trivial)
          have hd3:decide ((i:Int)+1<(len:Int))=false:=decide_eq_false zdC
          rcases hany with rfl|⟨rfl,hnis⟩
          ·go_wp2_with (go_at_call 38;refine HCLO.out.mono ?_;rintro e' w3 ⟨v,D3,rfl,hD3,hA3⟩;have hV3:=hV.call hA0 hA3.at;have hf3:=HFL2.out _ hV3)
           all_goals
            go_loopw [14] (fun pa wr=>∃ c:Nat,en.b≤c∧c≤s.R.length∧pa=.int .i64 (c:Int)∧AtD C1 wr b (y1.back s.R s.H en.b c) D3 (c+i+1) s.L∧Five C1 wr B (.slice oR s.R.length cR) (.slice oH s.R.length cH) (.slice (some ⟨gF,0,none⟩) len cF) (.slice (some ⟨gT,0,none⟩) len cT) (.slice (some ⟨gN,0,none⟩) len cN) R s.H (e::r)) (fun pa _=>s.R.length - (intOf pa).toNat)
            case atStart=>exact⟨en.b,Nat.le_refl _,hnx1,rfl,by rw[zgI];exact hA3,hV3⟩
            case round=>
             clear hA hV hA3 hV3 hA0
             obtain⟨c,hac,hce,rfl,hA,hV⟩:=hrel
             by_cases hlt3:c<s.R.length
             ·have hc:c<s.R.length:=by omega
              have hN:c+i+1+1+s.L.length≤549755813888:=by omega
              have hsub:∀ g,D g→D3 g:=fun g h=>hD3 g (hD2 g h)
              have hd:decide ((c:Int)<(s.R.length:Int))=true:=decide_eq_true zdC
              have hd':decide (c<s.R.length)=true:=decide_eq_true hlt3
              exact zap
             ·obtain rfl:c=s.R.length:=by omega
              have hd:decide ((s.R.length:Int)<(s.R.length:Int))=false:=decide_eq_false zdC
              have fin:∀ mv':Int,((y1.back s.R s.H en.b s.R.length).bad=false→mv'=((y1.back s.R s.H en.b s.R.length).len:Int))→∃ (i' m' a':Nat) (mv:Int) (x:Res) (D2:Nat→Prop),i'≤len∧Value.int .i64 ((i:Int)+1)=.int .i64 (i':Int)∧Value.int .i64 (s.R.length:Int)=.int .i64 (a':Int)∧Value.int .i64 mv'=.int .i64 mv∧(x.bad=false→mv=m')∧(∀ g,D g→D2 g)∧AtD C1 wr b x D2 (a'+i') s.L∧Five C1 wr B (.slice oR s.R.length cR) (.slice oH s.R.length cH) (.slice (some ⟨gF,0,none⟩) len cF) (.slice (some ⟨gT,0,none⟩) len cT) (.slice (some ⟨gN,0,none⟩) len cN) R s.H (e::r)∧wfE a' ((e::r).drop i') s.R.length=true∧rGroups s.R s.H false ((e::r).drop i') m' a' x=some y:=fun mv' hmv'=>⟨i+1,_,s.R.length,mv',y1.back s.R s.H en.b s.R.length,D3,by omega,by go_num,rfl,rfl,hmv',fun g h=>hD3 g (hD2 g h),hA.mono zdC,hV,hnx3,HREST.out⟩
              have FIN:=Lib.hid fin
              clear fin
              have HAT:=Lib.hid hA.at
              generalize hX:y1.back s.R s.H en.b s.R.length=X at *
              exact zaW
          ·rw[hnis] at hn0
           clear hnis
           go_wp2_with (go_at_call 38;refine HCLO.out.mono ?_;rintro e' w3 ⟨v,D3,rfl,hD3,hA3⟩;have hV3:=hV.call hA0 hA3.at;have hf3:=HFL2.out _ hV3)
           all_goals
            go_loopw [14] (fun pa wr=>∃ c:Nat,en.b≤c∧c≤s.R.length∧pa=.int .i64 (c:Int)∧AtD C1 wr b (y1.back s.R s.H en.b c) D3 (c+i+1) s.L∧Five C1 wr B (.slice oR s.R.length cR) (.slice oH s.R.length cH) (.slice (some ⟨gF,0,none⟩) len cF) (.slice (some ⟨gT,0,none⟩) len cT) (.slice (some ⟨gN,0,none⟩) len cN) R s.H (e::r)) (fun pa _=>s.R.length - (intOf pa).toNat)
            case atStart=>exact⟨en.b,Nat.le_refl _,hnx1,rfl,by rw[zgI];exact hA3,hV3⟩
            case round=>
             clear hA hV hA3 hV3 hA0
             obtain⟨c,hac,hce,rfl,hA,hV⟩:=hrel
             by_cases hlt3:c<s.R.length
             ·have hc:c<s.R.length:=by omega
              have hN:c+i+1+1+s.L.length≤549755813888:=by omega
              have hsub:∀ g,D g→D3 g:=fun g h=>hD3 g (hD2 g h)
              have hd:decide ((c:Int)<(s.R.length:Int))=true:=decide_eq_true zdC
              have hd':decide (c<s.R.length)=true:=decide_eq_true hlt3
              exact zap
             ·obtain rfl:c=s.R.length:=by omega
              have hd:decide ((s.R.length:Int)<(s.R.length:Int))=false:=decide_eq_false zdC
              have fin:∀ mv':Int,((y1.back s.R s.H en.b s.R.length).bad=false→mv'=((y1.back s.R s.H en.b s.R.length).len:Int))→∃ (i' m' a':Nat) (mv:Int) (x:Res) (D2:Nat→Prop),i'≤len∧Value.int .i64 ((i:Int)+1)=.int .i64 (i':Int)∧Value.int .i64 (s.R.length:Int)=.int .i64 (a':Int)∧Value.int .i64 mv'=.int .i64 mv∧(x.bad=false→mv=m')∧(∀ g,D g→D2 g)∧AtD C1 wr b x D2 (a'+i') s.L∧Five C1 wr B (.slice oR s.R.length cR) (.slice oH s.R.length cH) (.slice (some ⟨gF,0,none⟩) len cF) (.slice (some ⟨gT,0,none⟩) len cT) (.slice (some ⟨gN,0,none⟩) len cN) R s.H (e::r)∧wfE a' ((e::r).drop i') s.R.length=true∧rGroups s.R s.H true ((e::r).drop i') m' a' x=some y:=fun mv' hmv'=>⟨i+1,_,s.R.length,mv',y1.back s.R s.H en.b s.R.length,D3,by omega,by go_num,rfl,rfl,hmv',fun g h=>hD3 g (hD2 g h),hA.mono zdC,hV,hnx3,HREST.out⟩
              have FIN:=Lib.hid fin
              clear fin
              have HAT:=Lib.hid hA.at
              generalize hX:y1.back s.R s.H en.b s.R.length=X at *
              exact zaW
         ·have HFL2:=Lib.hid hn2
          clear hn2
          have hd3:decide ((i:Int)+1<(len:Int))=true:=decide_eq_true zdC
          have hq3:(0:Int)≤(i:Int)+1:=by omega
          have hq4:((i:Int)+1).toNat=i+1:=by omega
          rcases hany with rfl|⟨rfl,hnis⟩
          ·go_wp2_with (go_at_call 38;refine HCLO.out.mono ?_;rintro e' w3 ⟨v,D3,rfl,hD3,hA3⟩;have hV3:=hV.call hA0 hA3.at;have hf3:=HFL2.out _ hV3)
           all_goals
            go_loopw [14] (fun pa wr=>∃ c:Nat,en.b≤c∧c≤nx∧pa=.int .i64 (c:Int)∧AtD C1 wr b (y1.back s.R s.H en.b c) D3 (c+i+1) s.L∧Five C1 wr B (.slice oR s.R.length cR) (.slice oH s.R.length cH) (.slice (some ⟨gF,0,none⟩) len cF) (.slice (some ⟨gT,0,none⟩) len cT) (.slice (some ⟨gN,0,none⟩) len cN) R s.H (e::r)) (fun pa _=>nx - (intOf pa).toNat)
            case atStart=>exact⟨en.b,Nat.le_refl _,hnx1,rfl,by rw[zgI];exact hA3,hV3⟩
            case round=>
             clear hA hV hA3 hV3 hA0
             obtain⟨c,hac,hce,rfl,hA,hV⟩:=hrel
             by_cases hlt3:c<nx
             ·have hc:c<s.R.length:=by omega
              have hN:c+i+1+1+s.L.length≤549755813888:=by omega
              have hsub:∀ g,D g→D3 g:=fun g h=>hD3 g (hD2 g h)
              have hd:decide ((c:Int)<(nx:Int))=true:=decide_eq_true zdC
              have hd':decide (c<nx)=true:=decide_eq_true hlt3
              exact zap
             ·obtain rfl:c=nx:=by omega
              have hd:decide ((c:Int)<(c:Int))=false:=decide_eq_false zdC
              have fin:∀ mv':Int,((y1.back s.R s.H en.b c).bad=false→mv'=((y1.back s.R s.H en.b c).len:Int))→∃ (i' m' a':Nat) (mv:Int) (x:Res) (D2:Nat→Prop),i'≤len∧Value.int .i64 ((i:Int)+1)=.int .i64 (i':Int)∧Value.int .i64 (c:Int)=.int .i64 (a':Int)∧Value.int .i64 mv'=.int .i64 mv∧(x.bad=false→mv=m')∧(∀ g,D g→D2 g)∧AtD C1 wr b x D2 (a'+i') s.L∧Five C1 wr B (.slice oR s.R.length cR) (.slice oH s.R.length cH) (.slice (some ⟨gF,0,none⟩) len cF) (.slice (some ⟨gT,0,none⟩) len cT) (.slice (some ⟨gN,0,none⟩) len cN) R s.H (e::r)∧wfE a' ((e::r).drop i') s.R.length=true∧rGroups s.R s.H false ((e::r).drop i') m' a' x=some y:=fun mv' hmv'=>⟨i+1,_,c,mv',y1.back s.R s.H en.b c,D3,by omega,by go_num,rfl,rfl,hmv',fun g h=>hD3 g (hD2 g h),hA.mono zdC,hV,hnx3,HREST.out⟩
              have FIN:=Lib.hid fin
              clear fin
              have HAT:=Lib.hid hA.at
              generalize hX:y1.back s.R s.H en.b c=X at *
              exact zaW
          ·rw[hnis] at hn0
           clear hnis
           go_wp2_with (go_at_call 38;refine HCLO.out.mono ?_;rintro e' w3 ⟨v,D3,rfl,hD3,hA3⟩;have hV3:=hV.call hA0 hA3.at;have hf3:=HFL2.out _ hV3)
           all_goals
            go_loopw [14] (fun pa wr=>∃ c:Nat,en.b≤c∧c≤nx∧pa=.int .i64 (c:Int)∧AtD C1 wr b (y1.back s.R s.H en.b c) D3 (c+i+1) s.L∧Five C1 wr B (.slice oR s.R.length cR) (.slice oH s.R.length cH) (.slice (some ⟨gF,0,none⟩) len cF) (.slice (some ⟨gT,0,none⟩) len cT) (.slice (some ⟨gN,0,none⟩) len cN) R s.H (e::r)) (fun pa _=>nx - (intOf pa).toNat)
            case atStart=>exact⟨en.b,Nat.le_refl _,hnx1,rfl,by rw[zgI];exact hA3,hV3⟩
            case round=>
             clear hA hV hA3 hV3 hA0
             obtain⟨c,hac,hce,rfl,hA,hV⟩:=hrel
             by_cases hlt3:c<nx
             ·have hc:c<s.R.length:=by omega
              have hN:c+i+1+1+s.L.length≤549755813888:=by omega
              have hsub:∀ g,D g→D3 g:=fun g h=>hD3 g (hD2 g h)
              have hd:decide ((c:Int)<(nx:Int))=true:=decide_eq_true zdC
              have hd':decide (c<nx)=true:=decide_eq_true hlt3
              exact zap
             ·obtain rfl:c=nx:=by omega
              have hd:decide ((c:Int)<(c:Int))=false:=decide_eq_false zdC
              have fin:∀ mv':Int,((y1.back s.R s.H en.b c).bad=false→mv'=((y1.back s.R s.H en.b c).len:Int))→∃ (i' m' a':Nat) (mv:Int) (x:Res) (D2:Nat→Prop),i'≤len∧Value.int .i64 ((i:Int)+1)=.int .i64 (i':Int)∧Value.int .i64 (c:Int)=.int .i64 (a':Int)∧Value.int .i64 mv'=.int .i64 mv∧(x.bad=false→mv=m')∧(∀ g,D g→D2 g)∧AtD C1 wr b x D2 (a'+i') s.L∧Five C1 wr B (.slice oR s.R.length cR) (.slice oH s.R.length cH) (.slice (some ⟨gF,0,none⟩) len cF) (.slice (some ⟨gT,0,none⟩) len cT) (.slice (some ⟨gN,0,none⟩) len cN) R s.H (e::r)∧wfE a' ((e::r).drop i') s.R.length=true∧rGroups s.R s.H true ((e::r).drop i') m' a' x=some y:=fun mv' hmv'=>⟨i+1,_,c,mv',y1.back s.R s.H en.b c,D3,by omega,by go_num,rfl,rfl,hmv',fun g h=>hD3 g (hD2 g h),hA.mono zdC,hV,hnx3,HREST.out⟩
              have FIN:=Lib.hid fin
              clear fin
              have HAT:=Lib.hid hA.at
              generalize hX:y1.back s.R s.H en.b c=X at *
              exact zaW
        ·rw[Bool.or_eq_false_iff,Bool.not_eq_false'] at hq
         obtain⟨rfl,hnis⟩:=hq
         have hrest:=zmm (by rw[hnis];rfl) hgr
         rw[hnis] at hn0
         have FINN:Hid (∃ (i' m' a':Nat) (mv':Int) (x:Res) (D2:Nat→Prop),i'≤len∧Value.int .i64 ((i:Int)+1)=.int .i64 (i':Int)∧Value.int .i64 (en.b:Int)=.int .i64 (a':Int)∧Value.int .i64 mv=.int .i64 mv'∧(x.bad=false→mv'=m')∧(∀ g,D g→D2 g)∧AtD C1 wr b x D2 (a'+i') s.L∧Five C1 wr B (.slice oR s.R.length cR) (.slice oH s.R.length cH) (.slice (some ⟨gF,0,none⟩) len cF) (.slice (some ⟨gT,0,none⟩) len cT) (.slice (some ⟨gN,0,none⟩) len cN) R s.H (e::r)∧wfE a' ((e::r).drop i') s.R.length=true∧rGroups s.R s.H true ((e::r).drop i') m' a' x=some y):=Lib.hid ⟨i+1,m,en.b,mv,x.back s.R s.H a en.b,D2,by omega,by go_num,rfl,rfl,fun h=>hmv (by cases x with|ok _=>rfl|fail _ _ _=>exact h),hD2,hA.mono zdC,hV,hwb,hrest⟩
         clear hrest hgr hnis
         go_wp2_with fail
         go_roundw
         case rel=>exact FINN.out
         case measure=>simp only[intOf];omega
     ·obtain rfl:i=len:=by omega
      have hd:decide ((i:Int)<(i:Int))=false:=decide_eq_false zdC
      rw[List.drop_of_length_le zdG] at hgr
      have hxy:x=y:=by
       cases x with
       |ok _=>exact Option.some.inj hgr
       |fail _ _ _=>exact Option.some.inj hgr
      have HE:=Lib.hid (HBK.out _ _ _ _ hD2 (by rw[hxy] at hA;exact hA))
      clear hgr hxy
      go_wp2_with fail
      all_goals(first|go_end0|go_ret)
      all_goals exact⟨_,rfl,HE.out⟩
open Go.RowKit
theorem run_zero {p:Pc} {s:St} {y:Res} (h:Hid (run 0 p (.ok s)=some y)):False:=by
 have:=h.out
 unfold run at this
 simp at this
theorem ziu {n:Nat} {p:Pc} {a b c:Int} {y:Res} (h:Hid (run n p (.fail a b c)=some y)):y=.fail a b c:=by
 have:=h.out
 rw[zfB] at this
 exact(Option.some.inj this).symm
theorem zhJ {f:Nat} {p:Pc} (h:F0 f):C0 f 0 p:=by
 intro C w b x y hat hy
 cases x with
 |ok s=>exact(run_zero hy).elim
 |fail d0 d1 d2=>obtain rfl:=ziu hy;exact h _ _ _ _ _ _ hat
theorem zlk {f:Nat} {p:Bool→Pc} (h:FB f):CB f 0 p:=by
 intro C w b x y hd hat hy
 exact zdk
theorem zjS {f:Nat} {p:Nat→Pc} (h:FM f):CM f 0 p:=by
 intro C w b x y m m' hat hm hy
 exact zdk
theorem zun:All 0 where
 X:=zlk (X_f zfL)
 binary:=by
  intro C w b x y p h hat hy
  cases x with
  |ok s=>exact(run_zero hy).elim
  |fail d0 d1 d2=>obtain rfl:=ziu hy;exact zix zfL _ _ _ _ _ _ _ _ hat
 unary:=zlk (zhw zfL)
 primary:=zlk (zia zfL)
 period:=zjS (zhp zfL)
 index:=zjS (zhM zfL)
 cut:=zjS (ziB zfL)
 call:=zjS (zih zfL)
 value:=zhJ (zin zfL)
 values:=zhJ (zhb zfL)
 operand:=zhJ (zgG zfL)
 flat:=zhJ (zpf zfL)
 type:=zhJ (zgo zfL)
 array:=zjS (zil zfL)
 items:=zlk (ziq zfL)
 field:=zhJ (zif zfL)
 element:=zhJ (zhi zfL)
 union:=by
  intro C w b x z y hat hz hy
  cases x with
  |ok s=>exact(run_zero hz).elim
  |fail d0 d1 d2=>
   obtain rfl:=ziu hz
   obtain rfl:=ziu hy
   refine(zmE zfL _ _ _ _ _ _ hat).mono ?_
   rintro e w' ⟨c,t,rfl,hat'⟩
   exact⟨c,t,rfl,hat',fun h=>by cases h⟩
 sig:=zhJ (zjr zfL)
 params:=zhJ (ziz zfL)
 entry:=by
  intro C w b x y hat hy
  cases x with
  |ok s=>exact(run_zero hy).elim
  |fail d0 d1 d2=>obtain rfl:=ziu hy;exact zqY zfL _ _ _ _ _ _ hat
theorem zvl (n:Nat) (hn:n≤1099511627776) (ih:∀ k,k≤n→All k):All (n+1) where
 X:=X_s zfL ih
 binary:=zuH zfL ih
 unary:=zwO zfL ih
 primary:=zsk zfL ih
 period:=zuY zfL ih
 index:=zwo zfL ih
 cut:=cut_s zfL ih
 call:=zwY zfL ih
 value:=zwr zfL ih
 values:=zui zfL ih
 operand:=zta zfL ih
 flat:=zxg zfL ih hn
 type:=zwS zfL ih
 array:=zwj zfL ih
 items:=zwN zfL ih
 field:=zwt zfL ih
 element:=ztA zfL ih
 union:=zwK zfL ih hn
 sig:=Sig_s zfL ih
 params:=zuz zfL zuG ih hn
 entry:=zwc zfL ih
theorem zvW:∀ n,n≤1099511627776→All n:=by
 intro n
 induction n using Nat.strongRecOn with
 |_ n ih=>
  intro hn
  cases n with
  |zero=>exact zun
  |succ n=>exact zvl n zdC (fun k hk=>ih k zdC zdC)
end Go.Proofs.YtcekbbkidipbnaaGreat.rd
