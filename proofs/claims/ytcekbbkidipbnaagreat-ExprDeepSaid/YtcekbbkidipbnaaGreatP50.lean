/-
  Of any text of at most 16384 bytes: its tokens, read as an expression, give the document's tree, diagnostic and answer (the law ExprTexts); and as deep as nodes may stand in one another they are read, one deeper they are not, as the document's reader says of the same text (the law ExprDeep).
  Conditions: none beyond the rows' own.
-/
import Derived.Test.YtcekbbkidipbnaaGreatP3
import Derived.Test.YtcekbbkidipbnaaGreatP27
import Derived.Test.YtcekbbkidipbnaaGreatP49
import Derived.Test.YtcekbbkidipbnaaGreatP29
import Derived.Test.YtcekbbkidipbnaaGreatP28
import Derived.Test.YtcekbbkidipbnaaGreatP48
import Derived.Test.YtcekbbkidipbnaaGreatP2
import Derived.ProofKit
import Derived.OpenShut
import Derived.ChangeOld
import Derived.Carry
import Derived.JoinedCond
import Derived.Deep.DeepHandedRow
import Derived.LaidLaws
import Derived.Deep.Slices
import Derived.Deep.Fields
set_option maxRecDepth 100000
set_option maxHeartbeats 8000000
namespace Go.Proofs.YtcekbbkidipbnaaGreat.rd
open Go.RowKit
def toTk (t:lx.Tr):Tk:=⟨t.k,t.i,t.j⟩
theorem flat_tr (T:List lx.Tr):flat tk (T.map toTk)=lx.cellsT T:=by
 induction T with
 |nil=>rfl
 |cons t T ih=>rw[List.map_cons,zkN,ih];rfl
theorem mine_of_own {w:World} {B:Nat} {v:Value} {T:List lx.Tr} (h:lx.OwnT w B v T):Mine tk w B v (T.map toTk):=by
 unfold Mine
 rw[flat_tr,List.length_map]
 exact h
theorem auto_len (l:List UInt8) (more:Bool) (t:lx.Tr) (T:List lx.Tr):(lx.autoOf l more t T).length≤1:=by unfold lx.autoOf;split <;> simp
theorem autos_len (l:List UInt8) (more:Bool) (T:List lx.Tr):(lx.autos l more T).length≤2*T.length:=by
 induction T with
 |nil=>simp [lx.autos]
 |cons t T ih=>
  have:=auto_len l more t T
  simp only[lx.autos,List.length_cons,List.length_append]
  omega
theorem scan_len (l:List UInt8):(lx.scan lx.lang l).length≤2*l.length:=by
 have h1:=autos_len l false (lx.bare lx.lang l 0)
 have h2:=lx.bare_few (L:=lx.lang) l 0
 unfold lx.scan
 omega
theorem push_tk {w:World} {base:Nat} {v:Value} {T0:List Tk} (hown:Mine tk w base v T0) (a b c:Int) (hb:base≤w.heap.size) (hm:T0.length≤1099511627776) :
  ∃ v' w',(∀ ty,(Builtin.append_ #[22,22] ty #[v,.slice (some ⟨w.heap.size,0,none⟩) 1 1]).run Tryz.prog (w.alloc (.cells #[.int .i64 a,.int .i64 b,.int .i64 c] 55))=.ok v' w')∧Mine tk w' base v' (T0 ++ [⟨a,b,c⟩])∧∀ K w0,K≤base→Below K w0 w→Below K w0 w':=by
 have hB:Below w.heap.size w (w.alloc (.cells #[.int .i64 a,.int .i64 b,.int .i64 c] 55)):=(Below.refl _ _).alloc (Nat.le_refl _) _
 have hr:Row tk (w.alloc (.cells #[.int .i64 a,.int .i64 b,.int .i64 c] 55)) (.slice (some ⟨w.heap.size,0,none⟩) 1 1) [⟨a,b,c⟩]:=⟨w.heap.size,0,_,1,Nat.le_refl _,rfl,fun _=>rfl,fun j u hu=>by
  rw[Nat.zero_add,cell_of_row _ _ j _ _ _ (heap_alloc_last w _),show(#[(.int .i64 a:Value),.int .i64 b,.int .i64 c])=(flat tk [⟨a,b,c⟩]).toArray from rfl,List.getElem?_toArray]
  exact hu⟩
 obtain⟨v',w',h1,h2,h3⟩:=zgO (hown.below hB) hr (by simp;omega) (by simp [maxLen];omega) (by show(T0.length+1)*24≤_;omega)
 exact⟨v',w',h1,h2,fun K w0 hK hw=>Mine.more (hown.below hB) (hw.alloc (Nat.le_trans hK hb) _) hK (by simp;omega) h3⟩
def ToksPost (s:ByteArray) (B0:Nat) (w:World) (e:Ending) (w':World):Prop:=∃ v M,e=.returned v∧Mine tk w' B0 v M∧Below B0 w w'∧M.length≤2*s.size∧∀ x∈M,x∈(lx.scan lx.lang s.data.toList).map toTk
theorem zoZ (s:ByteArray) (w:World) (hs:s.size≤4194304) :
  Calls Tryz.prog 21 #[.string s] w (ToksPost s w.heap.size w):=by
 have hfew:((lx.scan lx.lang s.data.toList).map toTk).length≤2*s.size:=by
  rw[List.length_map];exact scan_len s.data.toList
 have HSC:Hid (∀ u,Calls Tryz.prog 70 #[.string s] u fun e w'=>∃ v1 v2,e=.returned (.tuple #[v1,v2])∧Hid (Mine tk w' u.heap.size v1 ((lx.scan lx.lang s.data.toList).map toTk))∧Hid (Below u.heap.size u w')):=Lib.hid (fun u=>(lx.refScan_any s u hs).mono (by
  rintro e w' ⟨v1,v2,rfl,h1,_,h3⟩
  exact⟨v1,v2,rfl,Lib.hid (mine_of_own h1),Lib.hid h3⟩))
 unfold ToksPost
 generalize (lx.scan lx.lang s.data.toList).map toTk=T at *
 obtain⟨B0,hB0⟩:∃ B0,w.heap.size=B0:=⟨_,rfl⟩
 have HZ:=Lib.hid hB0
 rw[hB0]
 clear hB0
 go_enter Tryz.func21,Tryz.ntmps21
 go_wp2_with (go_at_call 70;refine(HSC.out _).mono ?_;rintro e w1 ⟨v1,v2,rfl,HT,HB1⟩)
 obtain⟨g,off,o,cap,hc,rfl,ho,hcell⟩:=HT.out.row
 have HC:=Lib.hid hcell
 have HO:=Lib.hid ho
 clear hcell ho
 obtain⟨len,hlen⟩:∃ len,T.length=len:=⟨_,rfl⟩
 have HN:=Lib.hid hlen
 rw[hlen] at hc hfew HT ⊢
 clear hlen
 have hz1:B0≤w1.heap.size:=by have:=HB1.out.size;rw[HZ.out] at this;exact this
 go_loopw [5,6] (fun vv p wr=>∃ (n:Nat) (M:List Tk),n≤len∧M.length≤n∧p=.int .i64 n∧Hid (∀ x∈M,x∈T)∧Mine tk wr w1.heap.size vv M∧Below w1.heap.size w1 wr) (fun _ p _=>len - (intOf p).toNat)
 case atStart=>exact⟨0,[],Nat.zero_le _,Nat.le_refl _,rfl,Lib.hid (fun x h=>by cases h),World.ownsRow_made w1 #[] 0 (Nat.le_refl _) (by decide) rfl,(Below.refl _ _).alloc (Nat.le_refl _) _⟩
 case round=>
  obtain⟨n,M,hnl,hMn,rfl,HL,hown,hb⟩:=hrel
  have HB:=Lib.hid hb
  have HM:=Lib.hid hown
  have hsz:=hb.size
  clear hb hown
  by_cases hlt:n<len
  ·have hltT:n<T.length:=by rw[HN.out];exact hlt
   have hd:decide ((n:Int)<(len:Int))=true:=decide_eq_true (by omega)
   have hne:T≠[]:=by rintro rfl;simp at hltT
   have ho:=HO.out hne
   subst ho
   have HCC:Hid (∀ q,q<len→∃ a,wr.cell? ⟨g,off+q*3,none⟩=some (.int .i64 a)):=Lib.hid (fun q hq=>⟨_,(zgl (HC.out.below HB.out) q (by rw[HN.out];exact hq)).1⟩)
   obtain⟨c0,c1,c2⟩:=zgl (HC.out.below HB.out) n hltT
   have HIN:=Lib.hid (List.getElem_mem hltT)
   generalize T[n]=t at *
   obtain⟨k,i,j⟩:=t
   simp only[] at c0 c1 c2
   clear hne hltT
   obtain⟨v',w',hrun,hm',hbel⟩:=push_tk HM.out k i j hsz (by omega)
   have HRUN:=Lib.hid hrun
   have HM':=Lib.hid hm'
   have HB':=Lib.hid (hbel w1.heap.size w1 (Nat.le_refl _) HB.out)
   clear hrun hm' hbel
   go_wp2_with fail
   go_loop [7,8] (fun pl pk=>∃ (q:Nat) (b:Bool),q≤len∧n+1≤q∧pk=.int .i64 q∧pl=.bool b) (fun _ pk=>len - (intOf pk).toNat)
   case atStart=>exact⟨n+1,_,by omega,Nat.le_refl _,by go_num,rfl⟩
   case round=>
    obtain⟨q,b,hql,hnq,rfl,rfl⟩:=hrel
    by_cases hq:q<len
    ·have hdq:decide ((q:Int)<(len:Int))=true:=decide_eq_true (by omega)
     have hq0:(q:Int)≤4398046511104:=by omega
     cases b with
     |true=>
      obtain⟨a,ca⟩:=HCC.out q hq
      go_wp2_with fail
      go_round
      case rel=>exact⟨q+1,_,by omega,by omega,by go_num,rfl⟩
      case measure=>simp [intOf];omega
     |false=>
      go_wp2_with (at_builtin;refine Lib.wpList_append_run _ rfl _ _ _ _ rfl _ _ rfl rfl _ _ (HRUN.out _) ?_)
      go_roundw
      case rel=>exact⟨n+1,_,by omega,by simp;omega,by go_num,Lib.hid (fun x h=>by
       rcases List.mem_append.1 h with h|h
       ·exact HL.out x h
       ·rw[List.mem_singleton] at h;rw[h];exact HIN.out),HM'.out,HB'.out⟩
      case measure=>simp [intOf];omega
    ·have hdq:decide ((q:Int)<(len:Int))=false:=decide_eq_false (by omega)
     cases b with
     |true=>
      go_wp2_with fail
      go_roundw
      case rel=>exact⟨n+1,M,by omega,by omega,by go_num,HL,HM.out,HB.out⟩
      case measure=>simp [intOf];omega
     |false=>
      go_wp2_with (at_builtin;refine Lib.wpList_append_run _ rfl _ _ _ _ rfl _ _ rfl rfl _ _ (HRUN.out _) ?_)
      go_roundw
      case rel=>exact⟨n+1,_,by omega,by simp;omega,by go_num,Lib.hid (fun x h=>by
       rcases List.mem_append.1 h with h|h
       ·exact HL.out x h
       ·rw[List.mem_singleton] at h;rw[h];exact HIN.out),HM'.out,HB'.out⟩
      case measure=>simp [intOf];omega
  ·have hd:decide ((n:Int)<(len:Int))=false:=decide_eq_false (by omega)
   go_wp2_with fail
   go_ret
   exact⟨_,_,rfl,Mine.mono HM.out hz1,by rw[← HZ.out];exact HB1.out.trans (HB.out.mono HB1.out.size),by omega,HL.out⟩
open Go.RowKit
open Go.RowKit
theorem zrQ {w:World} {v:Value} {T:List Tk} {N:Nat} {x1 y:Res} (hN:N≤1099511627776) (hr:Row tk w v T) (hn:T.length≤549755813888) (h1:Hid (run N (.X false) (.ok ⟨T,0,[],[],0⟩)=some x1)) (h2:Hid (rDone x1=some y)) :
  Calls Tryz.prog 18 #[v] w fun e w'=>∃ (n:Rn) (D:Nat→Prop),e=.returned (tells n.v y.diag (!y.bad))∧Below w.heap.size w w'∧Tie w' D y.tree n∧OfNodes w' D:=by
 have hz1:(w.alloc (.cells #[.int .i64 0,.int .i64 0,.int .i64 0,.slice none 0 0] 43)).heap.size=w.heap.size+1:=World.size_alloc _ _
 have hB1:Below w.heap.size w (w.alloc (.cells #[.int .i64 0,.int .i64 0,.int .i64 0,.slice none 0 0] 43)):=(Below.refl _ _).alloc (Nat.le_refl _) _
 have hx1:=heap_alloc_last w (.cells #[.int .i64 0,.int .i64 0,.int .i64 0,.slice none 0 0] 43)
 obtain⟨W1,hW1⟩:∃ W1,w.alloc (.cells #[.int .i64 0,.int .i64 0,.int .i64 0,.slice none 0 0] 43)=W1:=⟨_,rfl⟩
 rw[hW1] at hz1 hB1 hx1
 have hz2:(W1.alloc (.cells #[.int .i64 0,.int .i64 0,.int .i64 0] 37)).heap.size=W1.heap.size+1:=World.size_alloc _ _
 have hB2:Below W1.heap.size W1 (W1.alloc (.cells #[.int .i64 0,.int .i64 0,.int .i64 0] 37)):=(Below.refl _ _).alloc (Nat.le_refl _) _
 have hx2:=heap_alloc_last W1 (.cells #[.int .i64 0,.int .i64 0,.int .i64 0] 37)
 obtain⟨W2,hW2⟩:∃ W2,W1.alloc (.cells #[.int .i64 0,.int .i64 0,.int .i64 0] 37)=W2:=⟨_,rfl⟩
 rw[hW2] at hz2 hB2 hx2
 have hB:Below w.heap.size w W2:=hB1.trans (hB2.mono hB1.size)
 have hx1:W2.heap[w.heap.size]? = _:=(hB2.block _ zdC).trans hx1
 rw[hz1] at hx2
 have HNEW:=Lib.hid (zuI (hr.below hB) hn)
 have HBX:=Lib.hid hB
 have HZ:=Lib.hid (And.intro hz1 hz2)
 have HX1:=Lib.hid hx1
 have HX2:=Lib.hid hx2
 have HWW:=Lib.hid (And.intro hW1 hW2)
 obtain⟨_,_,o,cap,_,rfl,_,_⟩:=hr
 clear hz1 hz2 hB1 hB2 hx1 hx2 hB hW1 hW2
 go_enter Tryz.func18,Tryz.ntmps18
 go_wp2_with (first|(go_at_call 9;rw[HWW.out.1,HWW.out.2];refine HNEW.out.mono ?_;rintro e w3 ⟨b,rfl,hat⟩;have hat3:=Lib.hid hat;clear hat)|(go_at_call 22;refine((zvK N hN).X _ _ _ _ _ _ hat3 h1).mono ?_;rintro e w4 ⟨v4,rfl,hat4⟩))
 go_at_call 15
 refine(zuU hat4 h2).mono ?_
 rintro e w5 ⟨hkp,hd⟩
 have hBel:Below w.heap.size w w5:=by
  have hB:=HBX.out
  exact⟨hkp.os.trans hB.os,hkp.tape.trans hB.tape,hkp.output.trans hB.output,Nat.le_trans hB.size hkp.size,fun k hk=>(hkp.kept k (Nat.lt_of_lt_of_le hk hB.size)).trans (hB.block k hk)⟩
 have hX1:=(hkp.kept w.heap.size (Array.getElem?_eq_some_iff.1 HX1.out).1).trans HX1.out
 have hX2:=(hkp.kept (w.heap.size+1) (Array.getElem?_eq_some_iff.1 HX2.out).1).trans HX2.out
 have hz5:w.heap.size+1<w5.heap.size:=(Array.getElem?_eq_some_iff.1 hX2).1
 have HB5:=Lib.hid hBel
 have HXX:=Lib.hid (And.intro hX1 (And.intro hX2 hz5))
 clear hkp hBel hX1 hX2
 have hdata:∃ (vv:Value) (d0 d1 d2:Int) (ok:Bool) (R:List Rn) (D:Nat→Prop) (l:List Tree),e=.returned (.tuple #[vv,.agg #[.int .i64 d0,.int .i64 d1,.int .i64 d2],.bool ok])∧Row nd w5 vv R∧Ties w5 D l R∧OfNodes w5 D∧R.length≤1099511627776∧Neats l∧y.tree=headT l∧y.diag=(d0,d1,d2)∧(!y.bad)=ok:=by
  rcases hd with⟨d0,d1,d2,rfl,rfl⟩|⟨t,v5,R,D,rfl,rfl,hm,ht,hD,hle⟩
  ·exact⟨.slice none 0 0,d0,d1,d2,false,[],fun _=>False,[],rfl,Row.nil _ _ _,Ties.nil,fun g hg=>hg.elim,by simp,by rw[Neats];trivial,rfl,rfl,rfl⟩
  ·have hnt:Neats t.R:=zqD (zpw N (.X false) ⟨T,0,[],[],0⟩ x1 (by show Neats [];rw[Neats];trivial) h1.out) h2 t rfl
   exact⟨v5,0,0,0,true,R,D,t.R,rfl,hm.row,ht,hD,by rw[ht.length];omega,hnt,rfl,rfl,rfl⟩
 clear hd
 obtain⟨vv,d0,d1,d2,ok,R,D,l,rfl,hrow,hties,hof,hle,hnt,hyt,hyd,hyb⟩:=hdata
 have HYY:=Lib.hid (And.intro hyd (And.intro hyb hyt))
 have HDD:=Lib.hid (And.intro hrow (And.intro hties (And.intro hof (And.intro hnt hle))))
 obtain⟨gv,offv,ov,cv,hcv,rfl,hov,hcellv⟩:=hrow.lt
 have HOV:=Lib.hid (And.intro hov hcellv)
 have HIX:Hid (∀ u,Below w5.heap.size w5 u→Calls Tryz.prog 68 #[.slice ov R.length cv,.func (.func 69) #[] #[]] u fun e w'=>∃ r:Int,e=.returned (.int .i64 r)∧((r = -1∧headT l=.mk 0 0 0 [])∨∃ (i:Nat) (hi:i<l.length),r=(i:Int)∧headT l=l[i])∧Below u.heap.size u w'):=Lib.hid (fun u hu=>zpV (hrow.below hu) (hties.below hof hu) hle)
 clear hrow hties hof hnt hov hcellv hyt hyd hyb h1 h2 hat3 hat4
 go_wp2_with fail
 go_at_call 68
 have hb6:Below w5.heap.size w5 (w5.alloc (.cells #[.int .i64 d0,.int .i64 d1,.int .i64 d2] 37)):=(Below.refl _ _).alloc (Nat.le_refl _) _
 refine(HIX.out _ hb6).mono ?_
 rintro e w7 ⟨r,rfl,hrr,hbr⟩
 have hbx:=zjM HXX.out.1 HXX.out.2.1 (d0:=d0) (d1:=d1) (d2:=d2)
 obtain⟨W6,hW6⟩:∃ W6,w5.alloc (.cells #[.int .i64 d0,.int .i64 d1,.int .i64 d2] 37)=W6:=⟨_,rfl⟩
 rw[hW6] at hbx hb6 hbr
 obtain⟨X1,hX1e⟩:∃ X1,w.heap.size=X1:=⟨_,rfl⟩
 obtain⟨X3,hX3e⟩:∃ X3,w5.heap.size=X3:=⟨_,rfl⟩
 rw[hX1e,hX3e] at hbx
 have HBR:Hid (∀ wr,Below W6.heap.size W6 wr→wr.heap[X1]? = some (.cells #[.int .i64 0,.int .i64 0,.int .i64 0,.slice none 0 0] 43 (0,0))∧wr.heap[X1+1]? = some (.cells #[.int .i64 0,.int .i64 0,.int .i64 0] 37 (0,0))∧wr.heap[X3]? = some (.cells #[.int .i64 d0,.int .i64 d1,.int .i64 d2] 37 (0,0))):=Lib.hid (fun wr hb=>
  ⟨(hb.block _ (Array.getElem?_eq_some_iff.1 hbx.1).1).trans hbx.1,(hb.block _ (Array.getElem?_eq_some_iff.1 hbx.2.1).1).trans hbx.2.1,(hb.block _ (Array.getElem?_eq_some_iff.1 hbx.2.2).1).trans hbx.2.2⟩)
 have HW6:=Lib.hid (And.intro hb6 hX1e)
 have e12:X1≠X1+1:=by omega
 have e13:X1≠X3:=by have:=HXX.out.2.2;omega
 have e23:X1+1≠X3:=by have:=HXX.out.2.2;omega
 have HE:=Lib.hid (And.intro e12 e13)
 have k12:(X1 == X1+1)=false:=beq_eq_false_iff_ne.2 e12
 have k21:(X1+1 == X1)=false:=beq_eq_false_iff_ne.2 (fun h=>e12 h.symm)
 have k13:(X1 == X3)=false:=beq_eq_false_iff_ne.2 e13
 have k31:(X3 == X1)=false:=beq_eq_false_iff_ne.2 (fun h=>e13 h.symm)
 have k23:(X1+1 == X3)=false:=beq_eq_false_iff_ne.2 e23
 have k32:(X3 == X1+1)=false:=beq_eq_false_iff_ne.2 (fun h=>e23 h.symm)
 have HEQ:=Lib.hid (And.intro hX1e hX3e)
 clear hbx e12 e13 e23 hb6 hW6 hz5
 rcases hrr with⟨rfl,hh⟩|⟨i,hi,rfl,hh⟩
 ·have hTN:Neat (.mk 0 0 0 [])∧Tie w5 D (.mk 0 0 0 []) ⟨0,0,0,none,0,0⟩∧OfNodes w5 D∧headT l=.mk 0 0 0 []:=⟨by rw[Neat,Neats];exact⟨trivial,trivial⟩,zhT _ _ _ _ _,HDD.out.2.2.1,hh⟩
  have HTN:=Lib.hid hTN
  clear hTN hh
  obtain⟨b1,b2,b3⟩:=HBR.out _ hbr
  obtain⟨⟨n0,n1,n2,n3⟩,fn⟩:=zhn b1
  obtain⟨⟨m0,m1,m2⟩,fm⟩:=zfR b2
  obtain⟨⟨p0,p1,p2⟩,fp⟩:=zfR b3
  have f0:=fn 0
  have f1:=fn 1
  have f2:=fn 2
  have f3:=fn 3
  have g0:=fm 0
  have g1:=fm 1
  have g2:=fm 2
  have hw7:∀ k,k≠X1→((((w7.setCell ⟨X1,0,none⟩ (.int .i64 0)).setCell ⟨X1,1,none⟩ (.int .i64 0)).setCell ⟨X1,2,none⟩ (.int .i64 0)).setCell ⟨X1,3,none⟩ (.slice none 0 0)).heap[k]? = w7.heap[k]?:=fun k hk=>by rw[zfy _ _ _ _ _ hk];exact zgq _ _ _ _ _ k hk
  obtain⟨⟨m0',m1',m2'⟩,fm'⟩:=zfR ((hw7 _ (fun h=>HE.out.1 h.symm)).trans b2)
  obtain⟨⟨p0',p1',p2'⟩,_⟩:=zfR ((hw7 _ (fun h=>HE.out.2 h.symm)).trans b3)
  have g0':=fm' 0
  have g1':=fm' 1
  have g2':=fm' 2
  have HBB:=Lib.hid (And.intro b1 b2)
  have HBRR:=Lib.hid hbr
  clear hw7 b1 b2 b3 fn fm fp fm' hbr
  go_wp2_with fail
  go_region
  all_goals(try go_wp2_with fail)
  try simp only[Exit.inBlock,Exit.then]
  obtain⟨W8,hW8,q1,q2,q3,q4,q5,q6,q7⟩:=ziI (k:=0) (i:=0) (j:=0) (o:=none) (nn:=0) (c:=0) (d0:=d0) (d1:=d1) (d2:=d2) HBB.out.1 HBB.out.2 (show X1≠X1+1 by omega)
  rw[← hW8]
  clear hW8
  refine bodyPost_ret (zhz rfl _ _ (X1+1) X1 37 43 _ _ (0,0) (0,0) _ _ rfl q2 Tryz.underlying37 rfl (by as_aux_lemma=>kernel_rfl) rfl q1 Tryz.underlying43 rfl (by as_aux_lemma=>kernel_rfl)) rfl ?_
  obtain⟨hb6,hx1⟩:=HW6.out
  obtain⟨r1,r2,r3⟩:=zjp HB5.out hb6 HBRR.out hx1 zfa zfb HTN.out.1 HTN.out.2.1 HTN.out.2.2.1 q3 q4 q5 q6 q7
  exact⟨⟨0,0,0,none,0,0⟩,_,by rw[HYY.out.1,HYY.out.2.1];rfl,r1,by rw[HYY.out.2.2,HTN.out.2.2.2];exact r2,r3⟩
 ·have hiR:i<R.length:=by rw[HDD.out.2.1.length];exact hi
  obtain⟨hoo,hgz⟩:=HOV.out.1 zeZ
  subst hoo
  obtain⟨a0,a1,a2,a3⟩:=zgi HOV.out.2 i hiR
  have hb57:Below w5.heap.size w5 w7:=HW6.out.1.trans (hbr.mono HW6.out.1.size)
  have c0:=(hb57.cell (p:=⟨gv,offv+i*4,none⟩) hgz).trans a0
  have c1:=(hb57.cell (p:=⟨gv,offv+i*4+1,none⟩) hgz).trans a1
  have c2:=(hb57.cell (p:=⟨gv,offv+i*4+2,none⟩) hgz).trans a2
  have c3:=(hb57.cell (p:=⟨gv,offv+i*4+3,none⟩) hgz).trans a3
  have htie:=zid HDD.out.2.1 hi hiR
  obtain⟨⟨nk,ni,nj,no,nn,nc⟩,hnode⟩:∃ n,R[i]=n:=⟨_,rfl⟩
  rw[hnode] at c0 c1 c2 c3 htie
  simp only[] at c0 c1 c2 c3
  have hTN:Neat l[i]∧Tie w5 D l[i] ⟨nk,ni,nj,no,nn,nc⟩∧OfNodes w5 D∧headT l=l[i]:=⟨zkI HDD.out.2.2.2.1 hi,htie,HDD.out.2.2.1,hh⟩
  have HTN:=Lib.hid hTN
  have hq0:(0:Int)≤(i:Int):=by omega
  have hdi:decide ((0:Int)≤(i:Int))=true:=decide_eq_true hq0
  have hq1:(i:Int)<(R.length:Int):=by omega
  clear hTN hh htie hnode a0 a1 a2 a3 hb57
  obtain⟨b1,b2,b3⟩:=HBR.out _ hbr
  obtain⟨⟨n0,n1,n2,n3⟩,fn⟩:=zhn b1
  obtain⟨⟨m0,m1,m2⟩,fm⟩:=zfR b2
  obtain⟨⟨p0,p1,p2⟩,fp⟩:=zfR b3
  have f0:=fn 0
  have f1:=fn 1
  have f2:=fn 2
  have f3:=fn 3
  have g0:=fm 0
  have g1:=fm 1
  have g2:=fm 2
  have hw7:∀ k,k≠X1→((((w7.setCell ⟨X1,0,none⟩ (.int .i64 nk)).setCell ⟨X1,1,none⟩ (.int .i64 ni)).setCell ⟨X1,2,none⟩ (.int .i64 nj)).setCell ⟨X1,3,none⟩ (.slice no nn nc)).heap[k]? = w7.heap[k]?:=fun k hk=>by rw[zfy _ _ _ _ _ hk];exact zgq _ _ _ _ _ k hk
  obtain⟨⟨m0',m1',m2'⟩,fm'⟩:=zfR ((hw7 _ (fun h=>HE.out.1 h.symm)).trans b2)
  obtain⟨⟨p0',p1',p2'⟩,_⟩:=zfR ((hw7 _ (fun h=>HE.out.2 h.symm)).trans b3)
  have g0':=fm' 0
  have g1':=fm' 1
  have g2':=fm' 2
  have HBB:=Lib.hid (And.intro b1 b2)
  have HBRR:=Lib.hid hbr
  clear hw7 b1 b2 b3 fn fm fp fm' hbr
  go_wp2_with fail
  go_region
  all_goals(try go_wp2_with fail)
  try simp only[Exit.inBlock,Exit.then]
  obtain⟨W8,hW8,q1,q2,q3,q4,q5,q6,q7⟩:=ziI (k:=nk) (i:=ni) (j:=nj) (o:=no) (nn:=nn) (c:=nc) (d0:=d0) (d1:=d1) (d2:=d2) HBB.out.1 HBB.out.2 (show X1≠X1+1 by omega)
  rw[← hW8]
  clear hW8
  refine bodyPost_ret (zhz rfl _ _ (X1+1) X1 37 43 _ _ (0,0) (0,0) _ _ rfl q2 Tryz.underlying37 rfl (by as_aux_lemma=>kernel_rfl) rfl q1 Tryz.underlying43 rfl (by as_aux_lemma=>kernel_rfl)) rfl ?_
  obtain⟨hb6,hx1⟩:=HW6.out
  obtain⟨r1,r2,r3⟩:=zjp HB5.out hb6 HBRR.out hx1 zfa zfb HTN.out.1 HTN.out.2.1 HTN.out.2.2.1 q3 q4 q5 q6 q7
  exact⟨⟨nk,ni,nj,no,nn,nc⟩,_,by rw[HYY.out.1,HYY.out.2.1];rfl,r1,by rw[HYY.out.2.2,HTN.out.2.2.2];exact r2,r3⟩
def Ends (o:Option Res) (Q:Res→Prop):Prop:=∃ y,o=some y∧Q y
theorem Ends.bind {o:Option Res} {Q Q':Res→Prop} {f:Res→Option Res} (h:Ends o Q) (hf:∀ y,Q y→Ends (f y) Q'):Ends (o >>= f) Q':=by
 obtain⟨y,rfl,hq⟩:=h
 exact hf y hq
theorem Ends.mono {o:Option Res} {Q Q':Res→Prop} (h:Ends o Q) (hf:∀ y,Q y→Q' y):Ends o Q':=by
 obtain⟨y,h1,h2⟩:=h
 exact⟨y,h1,hf y h2⟩
structure InS (L:List Tk) (a w:Int) (t:St):Prop where
 eq:t.L=L
 le:t.at'≤L.length
 left:(L.length:Int) - (t.at':Int)≤a
 few:(t.R.length:Int)+64*((L.length:Int) - (t.at':Int))≤w
def In (L:List Tk) (a w:Int) (y:Res):Prop:=∀ t,y=.ok t→InS L a w t
section
variable {L:List Tk} {a w B:Int} {x:Res}
theorem In.fail (d0 d1 d2:Int):In L a w (.fail d0 d1 d2):=fun t e=>by cases e
theorem InS.in {s:St} (h:InS L a w s):In L a w (.ok s):=fun t e=>by cases e;exact h
theorem In.mono {a' w':Int} (h:In L a w x) (ha:a≤a') (hw:w≤w'):In L a' w' x:=fun t e=>by
 obtain⟨h1,h2,h3,h4⟩:=h t e
 exact⟨h1,h2,by omega,by omega⟩
theorem InS.rlen {s:St} (h:InS L a w s):(s.R.length:Int)≤w:=by
 have:=h.2;have:=h.4;omega
theorem InS.pos {s:St} (h:InS L a w s):0≤a:=by
 have:=h.2;have:=h.3;omega
theorem zis {s:St} {Q:Res→Prop} (h:s.R.length+s.L.length≤549755813888) (hq:Q (.ok s)):Ends (chk (.ok s)) Q:=⟨.ok s,by unfold chk;simp only[];rw[if_pos h],hq⟩
theorem ziA {d0 d1 d2:Int} {Q:Res→Prop} (hq:Q (.fail d0 d1 d2)):Ends (chk (.fail d0 d1 d2)) Q:=⟨_,rfl,hq⟩
theorem zha {f:St→Res} {Q:Res→Prop} (hq:∀ d0 d1 d2,Q (.fail d0 d1 d2)) (h:∀ s,x=.ok s→Ends (chk (f s)) Q):Ends (lift f x) Q:=by
 cases x with
 |fail d0 d1 d2=>exact⟨_,rfl,hq _ _ _⟩
 |ok s=>exact h s rfl
theorem zmT {s:St} (h:InS L a w s):InS L a w s.take∧(s.ahead 0≠0→InS L (a - 1) (w - 63) s.take):=by
 obtain⟨h1,h2,h3,h4⟩:=h
 unfold St.take
 split
 ·rename_i h0
  exact⟨⟨h1,h2,h3,h4⟩,fun h=>absurd h0 h⟩
 ·rename_i h0
  have hlt:s.next 0<s.L.length:=by
   rcases Nat.lt_or_ge (s.next 0) s.L.length with h|h
   ·exact h
   ·exact absurd (by unfold St.ahead;rw[List.getElem?_eq_none h]) h0
  have hge:s.at'≤s.next 0:=Nat.le_add_right _ _
  have hlen:((s.L.drop s.at').take (s.next 0+1 - s.at')).length=s.next 0+1 - s.at':=by rw[List.length_take,List.length_drop];omega
  have hR:(s.run (s.next 0+1 - s.at')).R.length=s.R.length+(s.next 0+1 - s.at'):=by
   show(s.R ++ ((s.L.drop s.at').take _).map Tk.tree).length=_
   rw[List.length_append,List.length_map,hlen]
  have hat:(s.run (s.next 0+1 - s.at')).at'=s.next 0+1:=by
   show s.at'+(s.next 0+1 - s.at')=_
   omega
  rw[h1] at hlt
  exact⟨⟨h1,by rw[hat];omega,by rw[hat];omega,by rw[hat,hR];omega⟩,fun _=>⟨h1,by rw[hat];omega,by rw[hat];omega,by rw[hat,hR];omega⟩⟩
theorem zoR (h:In L a w x) (hB:B+(L.length:Int)≤549755813888) (hw:w≤B):Ends (rTake x) (In L a w):=zha (fun _ _ _=>In.fail _ _ _) fun s e=>by
 have hs:=(zmT (h s e)).1
 exact zis (by have:=hs.rlen;have:=hs.eq;rw[hs.eq];omega) hs.in
theorem ziR (h:In L a w x) (hB:B+(L.length:Int)≤549755813888) (hw:w≤B) (hk:x.kind≠0):Ends (rTake x) (In L (a - 1) (w - 63)):=zha (fun _ _ _=>In.fail _ _ _) fun s e=>by
 have hs:=(zmT (h s e)).2 (by subst e;exact hk)
 exact zcx
theorem zqZ (h:In L a w x) (hB:B+(L.length:Int)≤549755813888) (hw:w+1≤B):Ends (rNone x) (In L a (w+1)):=zha (fun _ _ _=>In.fail _ _ _) fun s e=>by
 obtain⟨h1,h2,h3,h4⟩:=h s e
 have hl:s.none.R.length=s.R.length+1:=by show(s.R ++ [_]).length=_;rw[List.length_append];rfl
 have hs:InS L a (w+1) s.none:=⟨h1,h2,h3,by rw[hl];show((s.R.length+1:Nat):Int)+64*((L.length:Int) - (s.at':Int))≤_;omega⟩
 exact zcx
theorem zmi {s:St} (m:Int) (k:Int):(s.closed (s.mark m) k).R.length≤s.R.length+1:=by
 show(s.R.take (s.mark m) ++ [_]).length≤_
 rw[List.length_append,List.length_take]
 simp only[List.length_cons,List.length_nil]
 omega
theorem zjd {m k:Int} (h:In L a w x) (hB:B+(L.length:Int)≤549755813888) (hw:w+1≤B):Ends (rClose m k x) (In L a (w+1)):=zha (fun _ _ _=>In.fail _ _ _) fun s e=>by
 unfold St.close
 split
 ·exact ziA (In.fail _ _ _)
 ·obtain⟨h1,h2,h3,h4⟩:=h s e
  have hl:=zmi (s:=s) m k
  have hs:InS L a (w+1) (s.closed (s.mark m) k):=⟨h1,h2,h3,by show((s.closed (s.mark m) k).R.length:Int)+64*((L.length:Int) - (s.at':Int))≤_;omega⟩
  exact zcx
theorem ziE {k:Int} (h:In L a w x) (hB:B+(L.length:Int)≤549755813888) (hw:w≤B):Ends (rExpect k x) (In L (a - 1) (w - 63)):=zha (fun _ _ _=>In.fail _ _ _) fun s e=>by
 unfold St.expect
 split
 ·rename_i hk
  have hs:=(zmT (h s e)).2 (by rw[hk.2];exact hk.1)
  exact zcx
 ·exact ziA (In.fail _ _ _)
theorem zmK {c:Int} {Q:Res→Prop} (hQ:∀ d0 d1 d2,Q (.fail d0 d1 d2)):Ends (rFail c x) Q:=zha hQ fun _ _=>ziA (hQ _ _ _)
theorem zqT (h:In L a w x) (hB:B+(L.length:Int)≤549755813888) (hw:w≤B):Ends (rDown x) (In L a w):=zha (fun _ _ _=>In.fail _ _ _) fun s e=>by
 unfold St.down
 split
 ·exact ziA (In.fail _ _ _)
 ·obtain⟨h1,h2,h3,h4⟩:=h s e
  have hs:InS L a w { s with op:=s.op+1 }:=⟨h1,h2,h3,h4⟩
  exact zis (by have:=hs.rlen;rw[hs.eq];show s.R.length+_≤_;have:((s.R.length:Nat):Int)≤w:=hs.rlen;omega) hs.in
theorem zvL (h:In L a w x) (hB:B+(L.length:Int)≤549755813888) (hw:w≤B):Ends (rUp x) (In L a w):=zha (fun _ _ _=>In.fail _ _ _) fun s e=>by
 obtain⟨h1,h2,h3,h4⟩:=h s e
 have hs:InS L a w s.up:=⟨h1,h2,h3,h4⟩
 exact zis (by have:((s.R.length:Nat):Int)≤w:=hs.rlen;rw[hs.eq];show s.R.length+_≤_;omega) hs.in
theorem zlj (h:In L a w x) (hB:B+(L.length:Int)≤549755813888) (hw:w≤B):Ends (rName x) (In L (a - 1) (w - 62)):=by
 unfold rName
 refine Ends.bind (ziE h hB hw) fun y hy=>?_
 exact(zjd hy hB zdC).mono fun z hz=>hz.mono zdC zdC
theorem zqC (h:In L a w x) (hB:B+(L.length:Int)≤549755813888) (hw:w≤B):Ends (rQualified x) (In L (a - 1) (w - 62)):=by
 unfold rQualified
 refine Ends.bind (zlj h hB hw) fun y hy=>?_
 split
 ·refine Ends.bind (ziR hy hB zdC zdC) fun y2 hy2=>?_
  refine Ends.bind (zlj hy2 hB zdC) fun y3 hy3=>?_
  exact(zjd hy3 hB zdC).mono fun z hz=>hz.mono zdC zdC
 ·exact⟨_,rfl,hy⟩
def rk:Pc→Int
 |.type=>10|.array _=>9|.term=>11|.union=>12|.element=>13|.field=>1|.itL _=>14|.operand=>11|.primary _=>12|.primL _ _=>5
 |.unary _=>13|.binary _ _=>14|.X _=>15|.value=>16|.valL=>17|.callL=>16|.list _=>16|.sig=>3|.params=>2|.entry=>20|.tpL=>2|_=>1
def dd:Pc→Int
 |.binL _ _ _=>0|.primL _ _=>0|.idxL=>0|.callL=>0|.valL=>0|.flatL _=>0|.tyL=>0|.itL _=>0|.unionL=>0|.listL _=>0|.names=>0|_=>1
def cc:Pc→Int
 |.binL _ _ _=>0|.primL _ _=>0|.idxL=>0|.callL=>0|.valL=>0|.flatL _=>0|.tyL=>0|.itL _=>0|.unionL=>0|.listL _=>0|.names=>0
 |.values=>-100|.type=>-40|.array _=>-40|.term=>-40|.union=>-40|.params=>-60|.sig=>-40|.entry=>-40|.list _=>-20|_=>-30
def fl:Pc→Bool
 |.period _=>true|.index _=>true|.cut _=>true|.call _=>true|.array _=>true|_=>false
def Tot (L:List Tk) (B:Int) (n:Nat):Prop:=∀ (p:Pc) (s:St) (a w:Int),InS L a w s→(fl p=true→(Res.ok s).kind≠0)→100*a+rk p≤(n:Int)→w+8≤B→Ends (run n p (.ok s)) (In L (a - dd p) (w+cc p))
theorem zmk {n:Nat} (ih:Tot L B n) {p:Pc} (h:In L a w x) (hf:fl p=true→x.kind≠0) (hn:100*a+rk p≤(n:Int)) (hw:w+8≤B):Ends (run n p x) (In L (a - dd p) (w+cc p)):=by
 cases x with
 |fail d0 d1 d2=>exact⟨_,zfB _ _ _ _ _,In.fail _ _ _⟩
 |ok s=>exact ih p s a w (h s rfl) hf hn hw
theorem zvG:Tot L B 0:=fun p s a w h _ hn _=>by
 have:=h.pos
 have:1≤rk p:=by cases p <;> simp [rk]
 simp only[Int.natCast_zero] at hn
 omega
end
theorem ztK:∀ (l:List Ent) (lo n n':Nat),wfE lo l n=true→n≤n'→wfE lo l n'=true
 |[],lo,n,n',h,hn=>by
  rw[wfE,decide_eq_true_iff] at h ⊢
  omega
 |e::r,lo,n,n',h,hn=>by
  rw[wfE,Bool.and_eq_true] at h ⊢
  exact⟨h.1,ztK r _ _ _ h.2 hn⟩
theorem zoN:∀ (l:List Ent) (lo m n:Nat) (e:Ent),wfE lo l m=true→m≤e.a→e.a≤e.b→e.b≤n→wfE lo (l ++ [e]) n=true
 |[],lo,m,n,e,h,h1,h2,h3=>by
  rw[wfE,decide_eq_true_iff] at h
  show(decide (lo≤e.a) && decide (e.a≤e.b) && decide (e.b≤n))=true
  rw[decide_eq_true (show lo≤e.a by omega),decide_eq_true h2,decide_eq_true h3]
  rfl
 |f::r,lo,m,n,e,h,h1,h2,h3=>by
  rw[wfE,Bool.and_eq_true] at h
  show(decide (lo≤f.a) && decide (f.a≤f.b) && wfE f.b (r ++ [e]) n)=true
  rw[Bool.and_eq_true]
  exact⟨h.1,zoN r _ _ _ _ h.2 h1 h2 h3⟩
section
variable {L:List Tk} {B:Int}
theorem zqI (hB:B+(L.length:Int)≤549755813888) {n:Nat} (ih:Tot L B n) (kp:RunKp n):∀ (k:Nat) (l:List Ent) (x:Res) (a w:Int),In L a w x→100*a+20≤(n:Int)→a+1≤(k:Int)→1≤k→w+8≤B→(∀ s,x=.ok s→wfE 0 l s.R.length=true) →
  ∃ y l',rEnts (run n .entry) k l x=some (y,l')∧In L a (w - (l'.length:Int)+(l.length:Int)) y∧∀ t,y=.ok t→wfE 0 l' t.R.length=true
 |0,l,x,a,w,hx,hn,hk,hk1,hw,hwf=>by omega
 |k+1,l,x,a,w,hx,hn,hk,hk1,hw,hwf=>by
  rw[rEnts]
  cases x with
  |fail d0 d1 d2=>exact⟨_,_,by rw[if_pos (.inl (zfv _ _ _))],In.fail _ _ _,fun t e=>by cases e⟩
  |ok s=>
   by_cases h62:(Res.ok s).kind=62
   ·refine⟨_,_,by rw[if_pos (.inr h62)],?_,hwf⟩
    exact hx.mono (Int.le_refl _) zdC
   ·rw[if_neg (by rw[zfw];simp [h62])]
    have hap:=(hx s rfl).pos
    obtain⟨y1,hy1,hi1⟩:=zmk ih (p:=.entry) hx (fun h=>by cases h) (by show 100*a+20≤_;exact hn) hw
    have hi1:In L (a - 1) (w + -40) y1:=hi1
    have hk1:=kp .entry s y1 s.R.length (Nat.le_refl _) (fun m hm=>by cases hm) hy1
    rw[hy1]
    show ∃ y l',(if y1.kind=60 then(rTake y1).bind fun z=>rEnts (run n .entry) k (l ++ [⟨(Res.ok s).len,y1.len,(Res.ok s).named⟩]) z else some (y1,l ++ [⟨(Res.ok s).len,y1.len,(Res.ok s).named⟩]))=some (y,l')∧_
    have hl1:(l ++ [(⟨(Res.ok s).len,y1.len,(Res.ok s).named⟩:Ent)]).length=l.length+1:=by rw[List.length_append];rfl
    have hwf1:∀ t,y1=.ok t→wfE 0 (l ++ [(⟨(Res.ok s).len,y1.len,(Res.ok s).named⟩:Ent)]) t.R.length=true:=by
     intro t ht
     have hle:=(hk1 t ht).le
     subst ht
     exact zoN l 0 s.R.length t.R.length _ (hwf s rfl) (Nat.le_refl _) hle (Nat.le_refl _)
    by_cases h60:y1.kind=60
    ·rw[if_pos h60]
     obtain⟨t1,rfl⟩:=zhl h60 zdD
     obtain⟨y2,hy2,hi2⟩:=ziR hi1 hB zdC (by rw[h60];decide)
     have hi2b:=hi1 t1 rfl
     have hap1:=hi2b.pos
     have hk2:=zgr (Lib.hid hy2) (Kp.refl (s:=t1) (Nat.le_refl t1.R.length))
     rw[hy2]
     show ∃ y l',rEnts (run n .entry) k (l ++ [⟨(Res.ok s).len,(Res.ok t1).len,(Res.ok s).named⟩]) y2=some (y,l')∧_
     obtain⟨y,l',e1,e2,e3⟩:=zqI hB ih kp k (l ++ [⟨(Res.ok s).len,(Res.ok t1).len,(Res.ok s).named⟩]) y2 _ _ hi2 zdC zdC zdC zdC (fun t ht=>ztK _ _ _ _ (hwf1 t1 rfl) (hk2 t ht).le)
     refine⟨y,l',e1,e2.mono zdC (by rw[hl1];omega),e3⟩
    ·rw[if_neg h60]
     exact⟨_,_,rfl,hi1.mono zdC (by rw[hl1];omega),hwf1⟩
def Most (s:St) (M:Int) (y:Res):Prop:=∀ t,y=.ok t→t.L=s.L∧t.at'=s.at'∧(t.R.length:Int)≤M
theorem zlI (u:St) (R:List Tree) (H:List Int) {a b:Nat} (h1:a≤b):((u.back R H a b).R.length:Int)≤u.R.length+((b:Int) - (a:Int)):=by
 show((u.R ++ _).length:Int)≤_
 rw[List.length_append,List.length_take]
 omega
theorem zjC (s:St) {M:Int} (hM:M+(s.L.length:Int)≤549755813888) (R:List Tree) (H:List Int) (any:Bool):∀ (l:List Ent) (m a lo:Nat) (x:Res),wfE lo l R.length=true→a≤lo→Most s (M - ((R.length:Int) - (a:Int)) - (l.length:Int)) x→Ends (rGroups R H any l m a x) (Most s M)
 |[],m,a,lo,x,hwf,ha,hx=>by
  rw[rGroups]
  rw[wfE,decide_eq_true_iff] at hwf
  refine⟨_,rfl,fun t ht=>?_⟩
  obtain⟨h1,h2,h3⟩:=hx t ht
  simp only[List.length_nil] at h3
  exact⟨h1,h2,by omega⟩
 |e::r,m,a,lo,x,hwf,ha,hx=>by
  rw[rGroups.eq_def]
  have hw:=hwf
  rw[wfE,Bool.and_eq_true,Bool.and_eq_true,decide_eq_true_iff,decide_eq_true_iff] at hw
  obtain⟨⟨w1,w2⟩,w4⟩:=hw
  have hlo:∀ (l:List Ent) (lo n:Nat),wfE lo l n=true→lo≤n:=by
   intro l
   induction l with
   |nil=>intro lo n h;rw[wfE,decide_eq_true_iff] at h;exact h
   |cons f r ih=>
    intro lo n h
    rw[wfE,Bool.and_eq_true,Bool.and_eq_true,decide_eq_true_iff,decide_eq_true_iff] at h
    have:=ih _ _ h.2
    omega
  have w3:=hlo _ _ _ w4
  cases x with
  |fail d0 d1 d2=>exact⟨_,rfl,fun t e=>by cases e⟩
  |ok u=>
   obtain⟨h1,h2,h3⟩:=hx u rfl
   have hb:=zlI u R H (show a≤e.b by omega)
   rw[List.length_cons] at h3
   simp only[]
   split
   ·have hc:Ends (rClose (m:Int) 233 (.ok (u.back R H a e.b))) (Most s (M - ((R.length:Int) - (e.b:Int)) - (r.length:Int))):=by
     show Ends (chk (St.close _ _ _)) _
     unfold St.close
     split
     ·exact ziA (fun t e=>by cases e)
     ·have hl:=zmi (s:=u.back R H a e.b) (m:Int) 233
      refine zis ?_ (fun t ht=>?_)
      ·show _+u.L.length≤_
       rw[h1]
       omega
      ·cases ht
       exact⟨h1,h2,by omega⟩
    refine Ends.bind hc fun y hy=>?_
    cases y with
    |fail d0 d1 d2=>exact⟨_,rfl,fun t e=>by cases e⟩
    |ok t=>
     simp only[]
     obtain⟨g1,g2,g3⟩:=hy t rfl
     cases r with
     |nil=>
      have hb2:=zlI t R H w3
      refine zjC s hM R H any [] _ R.length R.length _ (by rw[wfE,decide_eq_true_iff];exact Nat.le_refl _) (Nat.le_refl _) (fun v hv=>?_)
      cases hv
      refine⟨g1,g2,?_⟩
      show((t.back R H e.b R.length).R.length:Int)≤_
      simp only[List.length_nil] at g3 ⊢
      omega
     |cons f r=>
      have w5:e.b≤f.a:=by
       rw[wfE,Bool.and_eq_true,Bool.and_eq_true,decide_eq_true_iff] at w4
       exact w4.1.1
      have hb2:=zlI t R H w5
      have w6:wfE f.a (f::r) R.length=true:=by
       rw[wfE,Bool.and_eq_true,Bool.and_eq_true,decide_eq_true_iff,decide_eq_true_iff] at w4 ⊢
       exact⟨⟨Nat.le_refl _,w4.1.2⟩,w4.2⟩
      refine zjC s hM R H any (f::r) _ f.a f.a _ w6 (Nat.le_refl _) (fun v hv=>?_)
      cases hv
      refine⟨g1,g2,?_⟩
      show((t.back R H e.b f.a).R.length:Int)≤_
      omega
   ·refine zjC s hM R H any r _ e.b e.b _ w4 (Nat.le_refl _) (fun v hv=>?_)
    cases hv
    exact⟨h1,h2,by omega⟩
theorem ztb (hB:B+(L.length:Int)≤549755813888) {m:Nat} {l:List Ent} {x:Res} {a w:Int} (hx:In L a (w - (l.length:Int)) x) (hw:w+8≤B) (hwf:∀ t,x=.ok t→wfE 0 l t.R.length=true):Ends (rFinish m l x) (In L (a - 1) (w - 62)):=by
 cases x with
 |fail d0 d1 d2=>exact⟨_,rfl,In.fail _ _ _⟩
 |ok s=>
  have hs:=hx s rfl
  have hrl:=hs.rlen
  have hL:=hs.eq
  unfold rFinish
  simp only[]
  rw[if_pos (by rw[hwf s rfl,Bool.true_and,decide_eq_true_iff,hL];omega)]
  split
  ·exact zmK (fun _ _ _=>In.fail _ _ _)
  ·have hg:Ends (rGroup l (l.any (·.is)) (.ok s)) (In L a w):=by
    unfold rGroup
    cases l with
    |nil=>
     refine⟨_,rfl,hx.mono (Int.le_refl _) ?_⟩
     simp
    |cons e r=>
     simp only[]
     have hw2:=hwf s rfl
     rw[wfE,Bool.and_eq_true,Bool.and_eq_true,decide_eq_true_iff,decide_eq_true_iff] at hw2
     have hw3:wfE e.a (e::r) s.R.length=true:=by
      rw[wfE,Bool.and_eq_true,Bool.and_eq_true,decide_eq_true_iff,decide_eq_true_iff]
      exact⟨⟨Nat.le_refl _,hw2.1.2⟩,hw2.2⟩
     have hm:=zjC s (M:=(s.R.length:Int)+((e::r).length:Int)) (by rw[hL];omega) s.R s.H ((e::r).any (·.is)) (e::r) e.a e.a e.a (.ok { s with R:=s.R.take e.a,H:=s.H.take e.a }) hw3 (Nat.le_refl _) (fun t ht=>by
      cases ht
      refine⟨rfl,rfl,?_⟩
      show((s.R.take e.a).length:Int)≤_
      rw[List.length_take]
      omega)
     refine hm.mono fun y hy t ht=>?_
     obtain⟨h1,h2,h3⟩:=hy t ht
     obtain⟨i1,i2,i3,i4⟩:=hs
     exact⟨h1.trans i1,by rw[h2];exact i2,by rw[h2];exact i3,by rw[h2];omega⟩
   refine Ends.bind hg fun y hy=>?_
   refine Ends.bind (ziE hy hB zdC) fun y2 hy2=>?_
   exact(zjd hy2 hB zdC).mono fun z hz=>hz.mono zdC zdC
end
theorem Ends.here {L:List Tk} {a w a' w':Int} {x:Res} (h:In L a w x) (ha:a≤a') (hw:w≤w'):Ends (some x) (In L a' w'):=⟨x,rfl,h.mono ha hw⟩
theorem Ends.bad {L:List Tk} {a w:Int} {x:Res} (h:x.bad=true):Ends (some x) (In L a w):=by
 cases x with
 |fail d0 d1 d2=>exact⟨_,rfl,In.fail _ _ _⟩
 |ok s=>cases h
theorem ztQ:precOf 0=0:=by decide
theorem zoL {k p:Int} (h:¬ (precOf k=0∨precOf k<p)):k≠0:=fun e=>h (.inl (by rw[e];exact ztQ))
theorem zuK {L:List Tk} {B a w:Int} {n:Nat} {s:St} (p:Pc) (hp:p≠.params) (hB:B+(L.length:Int)≤549755813888) (ih:Tot L B n) (hx:In L a w (.ok s)) (hap:0≤a) (hf:fl p=true→(Res.ok s).kind≠0) (hn:100*a+rk p≤((n+1:Nat):Int)) (hw:w+8≤B):Ends (run (n+1) p (.ok s)) (In L (a - dd p) (w+cc p)):=by
 cases p
 all_goals first|(exact absurd rfl hp)|(as_aux_lemma=>
 clear hp
 have _:=hap
 have _:=hB
 have _:=ih
 first|(have hf:=hf rfl)|clear hf
 rw[run]
 try dsimp only
 dsimp only [rk,dd,cc] at hn ⊢
 iterate 24 (all_goals(first|(with_reducible exact zmK (fun _ _ _=>In.fail _ _ _))|((with_reducible refine Ends.here ‹_› ?_ ?_) <;> omega)|(with_reducible exact Ends.bad ‹_›)|(with_reducible refine Ends.bind (Q:=In L (a - 1) (w - 63)) (zmK (fun _ _ _=>In.fail _ _ _)) (fun y hy=>?_))|(with_reducible refine Ends.bind (Ends.here ‹_› (Int.le_refl _) (Int.le_refl _)) (fun y hy=>?_))|((with_reducible refine Ends.bind (ziR ‹_› hB ?_ ?_) (fun y hy=>?_));(focus omega);(focus omega))|((with_reducible refine Ends.bind (ziR ‹_› hB ?_ (zoL ‹_›)) (fun y hy=>?_));(focus omega))|((with_reducible refine Ends.bind (zoR ‹_› hB ?_) (fun y hy=>?_));(focus omega))|((with_reducible refine Ends.bind (zqZ ‹_› hB ?_) (fun y hy=>?_));(focus omega))|((with_reducible refine Ends.bind (zjd ‹_› hB ?_) (fun y hy=>?_));(focus omega))|((with_reducible refine Ends.bind (ziE ‹_› hB ?_) (fun y hy=>?_));(focus omega))|((with_reducible refine Ends.bind (zqT ‹_› hB ?_) (fun y hy=>?_));(focus omega))|((with_reducible refine Ends.bind (zvL ‹_› hB ?_) (fun y hy=>?_));(focus omega))|((with_reducible refine Ends.bind (zlj ‹_› hB ?_) (fun y hy=>?_));(focus omega))|((with_reducible refine Ends.bind (zqC ‹_› hB ?_) (fun y hy=>?_));(focus omega))|((refine Ends.bind (zmk ih ‹_› (fun h=>(by first|(cases h;done)|omega)) (by dsimp only [rk];omega) zdC) (fun y hy=>?_));dsimp only [dd,cc] at hy)|((with_reducible refine Ends.mono (ziR ‹_› hB ?_ ?_) (fun y hy=>In.mono hy ?_ ?_)) <;> omega)|((with_reducible refine Ends.mono (ziR ‹_› hB ?_ (zoL ‹_›)) (fun y hy=>In.mono hy ?_ ?_)) <;> omega)|((with_reducible refine Ends.mono (zoR ‹_› hB ?_) (fun y hy=>In.mono hy ?_ ?_)) <;> omega)|((with_reducible refine Ends.mono (zqZ ‹_› hB ?_) (fun y hy=>In.mono hy ?_ ?_)) <;> omega)|((with_reducible refine Ends.mono (zjd ‹_› hB ?_) (fun y hy=>In.mono hy ?_ ?_)) <;> omega)|((with_reducible refine Ends.mono (ziE ‹_› hB ?_) (fun y hy=>In.mono hy ?_ ?_)) <;> omega)|((with_reducible refine Ends.mono (zqT ‹_› hB ?_) (fun y hy=>In.mono hy ?_ ?_)) <;> omega)|((with_reducible refine Ends.mono (zvL ‹_› hB ?_) (fun y hy=>In.mono hy ?_ ?_)) <;> omega)|((with_reducible refine Ends.mono (zlj ‹_› hB ?_) (fun y hy=>In.mono hy ?_ ?_)) <;> omega)|((with_reducible refine Ends.mono (zqC ‹_› hB ?_) (fun y hy=>In.mono hy ?_ ?_)) <;> omega)|((refine Ends.mono (zmk ih ‹_› (fun h=>(by first|(cases h;done)|omega)) (by dsimp only [rk];omega) zdC) (fun y hy=>In.mono hy ?_ ?_)) <;> dsimp only [dd,cc] <;> omega)|split|skip)))
theorem zrg {L:List Tk} {B a w:Int} {n:Nat} {s:St} (hB:B+(L.length:Int)≤549755813888) (ih:Tot L B n) (kp:RunKp n) (hx:In L a w (.ok s)) (hap:0≤a) (hn:100*a+rk .params≤((n+1:Nat):Int)) (hw:w+8≤B):Ends (run (n+1) .params (.ok s)) (In L (a - dd .params) (w+cc .params)):=by
 rw[run]
 dsimp only
 dsimp only [rk,dd,cc] at hn ⊢
 have _:=hap
 refine Ends.bind (ziE hx hB zdC) (fun y hy=>?_)
 cases y with
 |fail d0 d1 d2=>
  have h1:0<n:=by omega
  obtain⟨k,rfl⟩:∃ k,n=k+1:=⟨n - 1,by omega⟩
  exact⟨_,rfl,In.fail _ _ _⟩
 |ok t=>
  have hp:=(hy t rfl).pos
  obtain⟨y2,l2,e1,e2,e3⟩:=zqI hB ih kp n [] (.ok t) (a - 1) (w - 63) hy zdC zdC zdC zdC (fun u hu=>by cases hu;rw[wfE,decide_eq_true_iff];exact Nat.zero_le _)
  rw[e1]
  show Ends (rFinish _ l2 y2) _
  simp only[List.length_nil,Int.natCast_zero,Int.add_zero] at e2
  exact(ztb hB e2 zdC e3).mono fun z hz=>hz.mono zdC zdC
theorem zrf {L:List Tk} {B:Int} (hB:B+(L.length:Int)≤549755813888):∀ n,Tot L B n
 |0=>zvG
 |n+1=>fun p s a w hS hf hn hw=>by
  have ih:=zrf hB n
  have kp:=zhr n
  by_cases hp:p=.params
  ·subst hp
   exact zrg hB ih kp hS.in hS.pos hn hw
  ·exact zuK p hp hB ih hS.in hS.pos hf hn hw
theorem zvi {L:List Tk} {B a w:Int} (hB:B+(L.length:Int)≤549755813888) (hw:w+8≤B) (p:Pc) (x:Res) (h:In L a w x) (hf:fl p=true→x.kind≠0) (n:Nat) (hn:100*a+20≤(n:Int)):Ends (run n p x) (In L (a - dd p) (w+cc p)):=
 zmk (zrf hB n) h hf (by have hr:rk p≤20:=(by cases p <;> simp [rk]);omega) hw
open Go.RowKit
theorem zmz (w:World) (k i j:Int) (o:Option Addr) (nn c:Nat) (d0 d1 d2:Int):∃ W2,(w.alloc (.cells #[.int .i64 k,.int .i64 i,.int .i64 j,.slice o nn c] 43)).alloc (.cells #[.int .i64 d0,.int .i64 d1,.int .i64 d2] 37)=W2∧Below w.heap.size w W2∧W2.heap[w.heap.size]? = some (.cells #[.int .i64 k,.int .i64 i,.int .i64 j,.slice o nn c] 43 (0,0))∧W2.heap[w.heap.size+1]? = some (.cells #[.int .i64 d0,.int .i64 d1,.int .i64 d2] 37 (0,0)):=by
 have z1:(w.alloc (.cells #[.int .i64 k,.int .i64 i,.int .i64 j,.slice o nn c] 43)).heap.size=w.heap.size+1:=World.size_alloc _ _
 have b1:Below w.heap.size w (w.alloc (.cells #[.int .i64 k,.int .i64 i,.int .i64 j,.slice o nn c] 43)):=(Below.refl _ _).alloc (Nat.le_refl _) _
 have a1:=heap_alloc_last w (.cells #[.int .i64 k,.int .i64 i,.int .i64 j,.slice o nn c] 43)
 generalize w.alloc (.cells #[.int .i64 k,.int .i64 i,.int .i64 j,.slice o nn c] 43)=W1 at *
 have a2:=heap_alloc_last W1 (.cells #[.int .i64 d0,.int .i64 d1,.int .i64 d2] 37)
 rw[z1] at a2
 refine⟨_,rfl,b1.alloc b1.size _,(heap_alloc_old W1 _ zdC).trans a1,a2⟩
open Go.RowKit
theorem zrY (T:List Tk) (hn:T.length≤1048576):∃ (N:Nat) (x1 y:Res),N≤1099511627776∧Hid (run N (.X false) (.ok ⟨T,0,[],[],0⟩)=some x1)∧Hid (rDone x1=some y):=by
 have hin:In T (T.length:Int) (64*(T.length:Int)) (.ok ⟨T,0,[],[],0⟩):=InS.in ⟨rfl,Nat.zero_le _,by simp,by simp⟩
 obtain⟨x1,h1,hi⟩:=zvi (L:=T) (B:=64*(T.length:Int)+1000) zdC zdC (.X false) _ hin (fun h=>by cases h) (100*T.length+20) zdC
 obtain⟨y,h2,_⟩:Ends (rDone x1) (fun _=>True):=by
  unfold rDone
  refine zha (fun _ _ _=>trivial) ?_
  rintro s rfl
  obtain⟨e1,e2,e3,e4⟩:=hi s rfl
  split
  ·refine zis ?_ trivial
   have hl:(s.run (s.L.length - s.at')).R.length=s.R.length+(s.L.length - s.at'):=by simp [St.run]
   rw[hl]
   show s.R.length+(s.L.length - s.at')+s.L.length≤_
   rw[e1]
   simp only[cc] at e4
   omega
  ·exact ziA trivial
 exact⟨_,x1,y,by omega,Lib.hid h1,Lib.hid h2⟩
theorem zsR (s:ByteArray) (w:World) (hs:s.size≤140737488351232) :
  Calls Tryz.prog 5 #[.string s] w fun e w'=>e=.returned (.bool true)∧Below w.heap.size w w':=by
 go_enter Tryz.func5,Tryz.ntmps5
 by_cases hlt:16384<s.size
 ·have hd:decide ((16384:Int)<(s.size:Int))=true:=decide_eq_true zdC
  have hd':decide (16384<s.size)=true:=decide_eq_true hlt
  exact zby
 ·have hd:decide ((16384:Int)<(s.size:Int))=false:=decide_eq_false zdC
  have hd':decide (16384<s.size)=false:=decide_eq_false hlt
  have HT:=Lib.hid (zoZ s w zdC)
  go_wp2_with fail
  go_at_call 21
  refine HT.out.mono ?_
  rintro e w1 ⟨v1,T,rfl,hm1,hb1,hlen,_⟩
  obtain⟨g,o,c1,rfl,_,_⟩:=hm1.shape
  have HM1:=Lib.hid hm1
  have HB1:=Lib.hid hb1
  have HLEN:Hid (T.length≤32768):=Lib.hid zdC
  exact zaO
open Go.ChangeShapes Go.WideShapes Go.ChangeAt Go.RowKit
theorem own:ownKnob Tryz.prog.godebug=none:=by kernel_rfl
def Light {H:Type} (t:TypeId) (d:DataW H):Prop:=(d.weights Tryz.prog t).all (· ≤ reachBytes)=true
theorem cellsT:Tryz.prog.cellsOf 55=3:=by kernel_rfl
instance : Inhabited Tk := ⟨⟨0, 0, 0⟩⟩
open Go.RowKit
theorem zjn {H:Type} {s:ByteArray} (h:Light (H:=H) 9 (.lit (.string s.data.toList))):s.size≤140737488351232:=by
 unfold Light at h
 have h2:s.data.toList.length≤reachBytes:=by simpa [DataW.weights] using h
 have e:s.data.toList.length=s.size:=rfl
 rw[e] at h2
 exact h2
open Go.ChangeShapes Go.WideShapes Go.ChangeAt Go.RowKit
open Go.ChangeMaps (open_string shut_string)
theorem zkG (H:Type) (enc:TypeId × Value→H) (W:World) (base:Nat) (args:Array Value) (ds gs:List (DataW H)) (before:List MemPlace)
  (hval:∀ (j:Nat) t v,Tryz.f5.params[j]? = some t→args[j]? = some v→Value.okWide Tryz.prog W .any base t v)
  (hW:DataW.Whole enc Tryz.prog Tryz.f5.params.toList Rows.exprTextsSpec.vars false W args.toList ds gs before) (hsz:(DataW.weightsEach Tryz.prog Tryz.f5.params.toList ds).all (· ≤ reachBytes)=true) :
  Calls Tryz.prog 5 args W fun e W'=>∃ v,e=.returned v∧Rows.exprTextsSpec.post enc Tryz.prog Tryz.f5 false true false false W args v W':=by
 have hW':=hW
 obtain⟨p,q,hA0,hV,rfl,hfz,hnd⟩:=hW
 have hA:DataW.TrodAll enc Tryz.prog W 0 (fun _=>true) true Tryz.f5.params.toList args.toList ds p:=hA0
 rw[Tryz.params5] at hA hval hsz
 obtain⟨v0,vs0,d0,ds0,p0,q0,hargs,rfl,rfl,h0,r0⟩:=trodAll_cons hA
 obtain⟨rfl,rfl,rfl⟩:=trodAll_nil r0
 obtain rfl:args=#[v0]:=by cases args;simp_all
 obtain⟨rfl,rfl⟩:=trodVars_none hV
 have kk0:=hval 0 9 v0 zdF zdF
 have hs:(((d0:DataW H).weights Tryz.prog 9 ++ []):List Nat).all (· ≤ reachBytes)=true:=hsz
 simp only[List.all_append,Bool.and_eq_true] at hs
 have l0:Light 9 d0:=by unfold Light;exact hs.1
 obtain⟨s0,rfl,rfl,rfl,m0⟩:=open_string Tryz.underlying9 kk0 h0
 have z0:s0.size≤140737488351232:=zjn l0
 clear hA0
 simp only[List.append_nil] at hW'
 refine(zsR s0 W z0).mono fun e W' ⟨he,bel⟩=>?_
 subst he
 exact⟨_,rfl,_,_,_,[],_,[],hW',trodAll_cons_mk (shut_bool Tryz.underlying4 _) trodAll_mk0,(trodAll_cons_mk (shut_string Tryz.underlying9 m0) trodAll_mk0),rfl,bel.frame _,fun h=>by cases h⟩
theorem zmt (os:Os) {H:Type} (enc:TypeId × Value→H):∃ places,DataW.whole enc Tryz.prog ((World.holding Tryz.prog os ⟨#[],#[],[]⟩).forCall (fun _ _=>0) ⟨#[],#[.string .empty],[]⟩).memory Tryz.f5.params.toList Rows.exprTextsSpec.vars false #[.string .empty].toList 8=some ([.lit (.string [])],[],places):=
 ⟨[],by as_aux_lemma=>kernel_rfl⟩
theorem zmA (os:Os):laidMet Tryz.prog Rows.exprTextsRow.laid ((World.holding Tryz.prog os ⟨#[],#[],[]⟩).forCall (fun _ _=>0) ⟨#[],#[.string .empty],[]⟩).memory:=
 laidMet_of_run' 8 (by as_aux_lemma=>kernel_rfl) (by as_aux_lemma=>kernel_rfl)
theorem zlz (os:Os) (started:os.Started) (H:Type) (enc:TypeId × Value→H) (F:Stop.Interp) :
  ReturnsInHanded {} Tryz.checked os 5 .any ((OpenSpec.ofChange Rows.exprTextsSpec).preRow enc Tryz.prog Tryz.f5 Rows.exprTextsRow.domain false Rows.exprTextsRow.laid) (((OpenSpec.ofChange Rows.exprTextsSpec).at F).post enc Tryz.prog Tryz.f5 false true false false):=by
 obtain⟨places,hx⟩:=zmt os enc
 refine returnsInHanded_of_row (C:=Tryz.checked) (s:=OpenSpec.ofChange Rows.exprTextsSpec) own started (by as_aux_lemma=>kernel_rfl) Tryz.func5
  (witness_row_at (enc:=enc) (C:=Tryz.checked) false (World.holding Tryz.prog os ⟨#[],#[],[]⟩) #[.string .empty] rfl (by as_aux_lemma=>kernel_rfl) (by as_aux_lemma=>kernel_rfl) (by as_aux_lemma=>kernel_rfl)
   (OpenSpec.preRow_of_cond 8 hx (by as_aux_lemma=>kernel_rfl) (fun k hk=>by cases hk) (by as_aux_lemma=>kernel_rfl) (zmA os))) ?_
 intro W base args ds gs before hval hW _ hcond hsz _ _ _
 have hgs:gs=[]:=by
  obtain⟨p,q,_,hV,_⟩:=hW
  exact(trodVars_none hV).1
 have hsz':(DataW.weightsEach Tryz.prog Tryz.f5.params.toList ds).all (· ≤ reachBytes)=true:=by
  have h0:(DataW.weightsEach Tryz.prog (Tryz.f5.params.toList ++ []) (ds ++ gs)).all (· ≤ reachBytes)=true:=hsz
  rwa [hgs,List.append_nil,List.append_nil] at h0
 exact zkG H enc W base args ds gs before hval hW hsz'
theorem exprTexts_holds:Rows.ExprTextsSaid:=
 OpenClaim.holds_of_cond 5 Tryz.f5 rfl rfl rfl rfl rfl rfl rfl ⟨rfl,rfl,rfl,rfl,rfl⟩ rfl rfl rfl rfl rfl (by as_aux_lemma=>kernel_rfl) Tryz.func5 (by as_aux_lemma=>kernel_rfl)
  (of_decide_eq_true (by as_aux_lemma=>kernel_rfl)) zfc
  (fun os started H enc _ F=>by rw[OpenClaim.pre_eq_preRow];exact zlz os started H enc F)
open Go.RowKit
theorem zqP {x y:ByteArray} (h:x.size+y.size≤1048576):Op.stringOp .add x y=pure (.string (x ++ y)):=by
 unfold Op.stringOp
 simp only[]
 rw[if_neg (by show ¬ (((x.size+y.size:Nat)):Int)>9223372036854775807;omega)]
theorem zuy (n:Int) (a b:ByteArray) (w:World) (ha:a.size≤140737488351232) (hb:b.size≤140737488351232) :
  Calls Tryz.prog 7 #[.int .i64 n,.string a,.string b] w fun e w'=>e=.returned (.bool true)∧Below w.heap.size w w':=by
 go_enter Tryz.func7,Tryz.ntmps7
 by_cases hout:n<0∨400<n∨16<a.size∨16<b.size
 ·rcases(by omega:n<0∨(0≤n∧400<n)∨(0≤n∧n≤400∧16<a.size)∨(0≤n∧n≤400∧a.size≤16∧16<b.size)) with h|h|h|h
  ·have d1:decide (n<0)=true:=decide_eq_true h
   clear hout
   exact zby
  ·have d1:decide (n<0)=false:=decide_eq_false zdC
   have d2:decide (400<n)=true:=decide_eq_true h.2
   clear hout
   exact zby
  ·have d1:decide (n<0)=false:=decide_eq_false zdC
   have d2:decide (400<n)=false:=decide_eq_false zdC
   have d3:decide ((16:Int)<(a.size:Int))=true:=decide_eq_true zdC
   have d3':decide (16<a.size)=true:=decide_eq_true h.2.2
   clear hout
   exact zby
  ·have d1:decide (n<0)=false:=decide_eq_false zdC
   have d2:decide (400<n)=false:=decide_eq_false zdC
   have d3:decide ((16:Int)<(a.size:Int))=false:=decide_eq_false zdC
   have d3':decide (16<a.size)=false:=decide_eq_false zdC
   have d4:decide ((16:Int)<(b.size:Int))=true:=decide_eq_true zdC
   have d4':decide (16<b.size)=true:=decide_eq_true h.2.2.2
   clear hout
   exact zby
 ·have d1:decide (n<0)=false:=decide_eq_false zdC
  have d2:decide (400<n)=false:=decide_eq_false zdC
  have d3:decide ((16:Int)<(a.size:Int))=false:=decide_eq_false zdC
  have d3':decide (16<a.size)=false:=decide_eq_false zdC
  have d4:decide ((16:Int)<(b.size:Int))=false:=decide_eq_false zdC
  have d4':decide (16<b.size)=false:=decide_eq_false zdC
  have HA:Hid (a.size≤16∧b.size≤16):=Lib.hid zdC
  obtain⟨m,rfl⟩:∃ m:Nat,n=(m:Int):=⟨n.toNat,by omega⟩
  have hm:m≤400:=by omega
  clear hout ha hb
  go_wp2_with fail
  go_loop [7,8] (fun sv iv=>∃ (k:Nat) (s:ByteArray),k≤m∧iv=.int .i64 k∧sv=.string s∧Hid (s.size≤1+32*k)) (fun _ iv=>m - (intOf iv).toNat)
  case atStart=>exact⟨0,_,Nat.zero_le _,rfl,rfl,Lib.hid zdD⟩
  case round=>
   obtain⟨k,s,hk,rfl,rfl,HS⟩:=hrel
   by_cases hlt:k<m
   ·have hd:decide ((k:Int)<(m:Int))=true:=decide_eq_true zdC
    have hs1:s.size≤12801:=by have:=HS.out;omega
    obtain⟨h16,h17⟩:=HA.out
    obtain⟨u,hu⟩:∃ u,a ++ s=u:=⟨_,rfl⟩
    obtain⟨v,hv⟩:∃ v,u ++ b=v:=⟨_,rfl⟩
    have hus:u.size=a.size+s.size:=by rw[← hu,ByteArray.size_append]
    have hvs:v.size=u.size+b.size:=by rw[← hv,ByteArray.size_append]
    have hc1:Op.stringOp .add a s=pure (.string u):=by rw[← hu];exact zqP zdC
    have hc2:Op.stringOp .add u b=pure (.string v):=by rw[← hv];exact zqP zdC
    have HV:Hid (v.size≤1+32*(k+1)):=Lib.hid (by have:=HS.out;omega)
    clear hu hv hus hvs hs1 h16 h17
    go_wp2_with fail
    go_round
    case rel=>exact⟨k+1,_,by omega,by go_num,rfl,HV⟩
    case measure=>simp [intOf];omega
   ·have hd:decide ((k:Int)<(m:Int))=false:=decide_eq_false zdC
    have HZ:Hid (s.size≤16384):=Lib.hid (by have:=HS.out;omega)
    have HT:=Lib.hid (zoZ s w (by have:=HZ.out;omega))
    clear HS HA d1 d2 d3 d3' d4 d4' hk
    go_wp2_with fail
    go_at_call 21
    refine HT.out.mono ?_
    rintro e w1 ⟨v1,T,rfl,hm1,hb1,hlen,_⟩
    obtain⟨g,o,c1,rfl,_,_⟩:=hm1.shape
    have HM1:=Lib.hid hm1
    have HB1:=Lib.hid hb1
    have HLEN:Hid (T.length≤32768):=Lib.hid (by have:=HZ.out;omega)
    exact zaO
open Go.ChangeShapes Go.WideShapes Go.ChangeAt Go.RowKit
open Go.ChangeMaps (open_string shut_string)
theorem zlm (H:Type) (enc:TypeId × Value→H) (W:World) (base:Nat) (args:Array Value) (ds gs:List (DataW H)) (before:List MemPlace)
  (hval:∀ (j:Nat) t v,Tryz.f7.params[j]? = some t→args[j]? = some v→Value.okWide Tryz.prog W .any base t v)
  (hW:DataW.Whole enc Tryz.prog Tryz.f7.params.toList Rows.exprDeepSpec.vars false W args.toList ds gs before) (hsz:(DataW.weightsEach Tryz.prog Tryz.f7.params.toList ds).all (· ≤ reachBytes)=true) :
  Calls Tryz.prog 7 args W fun e W'=>∃ v,e=.returned v∧Rows.exprDeepSpec.post enc Tryz.prog Tryz.f7 false true false false W args v W':=by
 have hW':=hW
 obtain⟨p,q,hA0,hV,rfl,hfz,hnd⟩:=hW
 have hA:DataW.TrodAll enc Tryz.prog W 0 (fun _=>true) true Tryz.f7.params.toList args.toList ds p:=hA0
 rw[Tryz.params7] at hA hval hsz
 obtain⟨v0,vs0,d0,ds0,p0,q0,hargs,rfl,rfl,h0,r0⟩:=trodAll_cons hA
 obtain⟨v1,vs1,d1,ds1,p1,q1,rfl,rfl,rfl,h1,r1⟩:=trodAll_cons r0
 obtain⟨v2,vs2,d2,ds2,p2,q2,rfl,rfl,rfl,h2,r2⟩:=trodAll_cons r1
 obtain⟨rfl,rfl,rfl⟩:=trodAll_nil r2
 obtain rfl:args=#[v0,v1,v2]:=by cases args;simp_all
 obtain⟨rfl,rfl⟩:=trodVars_none hV
 have kk0:=hval 0 3 v0 zdF zdF
 have kk1:=hval 1 9 v1 zdF zdF
 have kk2:=hval 2 9 v2 zdF zdF
 have hs:(((d0:DataW H).weights Tryz.prog 3 ++ ((d1:DataW H).weights Tryz.prog 9 ++ ((d2:DataW H).weights Tryz.prog 9 ++ []))):List Nat).all (· ≤ reachBytes)=true:=hsz
 simp only[List.all_append,Bool.and_eq_true] at hs
 have l1:Light 9 d1:=by unfold Light;exact hs.2.1
 have l2:Light 9 d2:=by unfold Light;exact hs.2.2.1
 obtain⟨x0,rfl,rfl,rfl,w0⟩:=open_int Tryz.underlying3 kk0 h0
 obtain⟨s1,rfl,rfl,rfl,m1⟩:=open_string Tryz.underlying9 kk1 h1
 have z1:s1.size≤140737488351232:=zjn l1
 obtain⟨s2,rfl,rfl,rfl,m2⟩:=open_string Tryz.underlying9 kk2 h2
 have z2:s2.size≤140737488351232:=zjn l2
 clear hA0
 simp only[List.append_nil] at hW'
 refine(zuy x0 s1 s2 W z1 z2).mono fun e W' ⟨he,bel⟩=>?_
 subst he
 exact⟨_,rfl,_,_,_,[],_,[],hW',trodAll_cons_mk (shut_bool Tryz.underlying4 _) trodAll_mk0,(trodAll_cons_mk (shut_int Tryz.underlying3 w0) (trodAll_cons_mk (shut_string Tryz.underlying9 m1) (trodAll_cons_mk (shut_string Tryz.underlying9 m2) trodAll_mk0))),rfl,bel.frame _,fun h=>by cases h⟩
theorem zmW (os:Os) {H:Type} (enc:TypeId × Value→H):∃ places,DataW.whole enc Tryz.prog ((World.holding Tryz.prog os ⟨#[],#[],[]⟩).forCall (fun _ _=>0) ⟨#[],#[.int .i64 0,.string .empty,.string .empty],[]⟩).memory Tryz.f7.params.toList Rows.exprDeepSpec.vars false #[.int .i64 0,.string .empty,.string .empty].toList 8=some ([.lit (.int .i64 0),.lit (.string []),.lit (.string [])],[],places):=
 ⟨[],by as_aux_lemma=>kernel_rfl⟩
theorem znU (os:Os):laidMet Tryz.prog Rows.exprDeepRow.laid ((World.holding Tryz.prog os ⟨#[],#[],[]⟩).forCall (fun _ _=>0) ⟨#[],#[.int .i64 0,.string .empty,.string .empty],[]⟩).memory:=
 laidMet_of_run' 8 (by as_aux_lemma=>kernel_rfl) (by as_aux_lemma=>kernel_rfl)
theorem zlZ (os:Os) (started:os.Started) (H:Type) (enc:TypeId × Value→H) (F:Stop.Interp) :
  ReturnsInHanded {} Tryz.checked os 7 .any ((OpenSpec.ofChange Rows.exprDeepSpec).preRow enc Tryz.prog Tryz.f7 Rows.exprDeepRow.domain false Rows.exprDeepRow.laid) (((OpenSpec.ofChange Rows.exprDeepSpec).at F).post enc Tryz.prog Tryz.f7 false true false false):=by
 obtain⟨places,hx⟩:=zmW os enc
 refine returnsInHanded_of_row (C:=Tryz.checked) (s:=OpenSpec.ofChange Rows.exprDeepSpec) own started (by as_aux_lemma=>kernel_rfl) Tryz.func7
  (witness_row_at (enc:=enc) (C:=Tryz.checked) false (World.holding Tryz.prog os ⟨#[],#[],[]⟩) #[.int .i64 0,.string .empty,.string .empty] rfl (by as_aux_lemma=>kernel_rfl) (by as_aux_lemma=>kernel_rfl) (by as_aux_lemma=>kernel_rfl)
   (OpenSpec.preRow_of_cond 8 hx (by as_aux_lemma=>kernel_rfl) (fun k hk=>by cases hk) (by as_aux_lemma=>kernel_rfl) (znU os))) ?_
 intro W base args ds gs before hval hW _ hcond hsz _ _ _
 have hgs:gs=[]:=by
  obtain⟨p,q,_,hV,_⟩:=hW
  exact(trodVars_none hV).1
 have hsz':(DataW.weightsEach Tryz.prog Tryz.f7.params.toList ds).all (· ≤ reachBytes)=true:=by
  have h0:(DataW.weightsEach Tryz.prog (Tryz.f7.params.toList ++ []) (ds ++ gs)).all (· ≤ reachBytes)=true:=hsz
  rwa [hgs,List.append_nil,List.append_nil] at h0
 exact zlm H enc W base args ds gs before hval hW hsz'
theorem exprDeep_holds:Rows.ExprDeepSaid:=
 OpenClaim.holds_of_cond 7 Tryz.f7 rfl rfl rfl rfl rfl rfl rfl ⟨rfl,rfl,rfl,rfl,rfl⟩ rfl rfl rfl rfl rfl (by as_aux_lemma=>kernel_rfl) Tryz.func7 (by as_aux_lemma=>kernel_rfl)
  (of_decide_eq_true (by as_aux_lemma=>kernel_rfl)) zfc
  (fun os started H enc _ F=>by rw[OpenClaim.pre_eq_preRow];exact zlZ os started H enc F)
end Go.Proofs.YtcekbbkidipbnaaGreat.rd
