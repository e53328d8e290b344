/-
  What is read of any text, by any of five procedures, has all its tokens as leaves, in their order; no node begins or ends with trivia, none is too high; where it fails it tells a place in the text (the law ExprLossless).
  Conditions: none beyond the row's own.
-/
import Derived.Test.YtcekbbkidipbnaaGreatL19
import Derived.Test.YtcekbbkidipbnaaGreatL43
import Derived.Test.YtcekbbkidipbnaaGreatL17
import Derived.Test.YtcekbbkidipbnaaGreatL18
import Derived.ProofKit
import Derived.OpenShut
import Derived.Deep.DeepHandedRow
set_option maxRecDepth 100000
set_option maxHeartbeats 8000000
namespace Go.Proofs.YtcekbbkidipbnaaGreat.rd
open Go.RowKit
def toTk (t:lx.Tr):Tk:=⟨t.k,t.i,t.j⟩
theorem flat_tr (T:List lx.Tr):flat tk (T.map toTk)=lx.cellsT T:=by
 induction T with
 |nil=>rfl
 |cons t T ih=>rw[List.map_cons,flat_cons,ih];rfl
theorem mine_of_own {w:World} {B:Nat} {v:Value} {T:List lx.Tr} (h:lx.OwnT w B v T):Mine tk w B v (T.map toTk):=by
 unfold Mine
 rw[flat_tr,List.length_map]
 exact h
theorem auto_len (l:List UInt8) (more:Bool) (t:lx.Tr) (T:List lx.Tr):(lx.autoOf l more t T).length≤1:=by unfold lx.autoOf;split <;> simp
theorem autos_len (l:List UInt8) (more:Bool) (T:List lx.Tr):(lx.autos l more T).length≤2*T.length:=by
 induction T with
 |nil=>simp [lx.autos]
 |cons t T ih=>
  have:=auto_len l more t T
  simp only[lx.autos,List.length_cons,List.length_append]
  omega
theorem scan_len (l:List UInt8):(lx.scan lx.lang l).length≤2*l.length:=by
 have h1:=autos_len l false (lx.bare lx.lang l 0)
 have h2:=lx.bare_few (L:=lx.lang) l 0
 unfold lx.scan
 omega
theorem push_tk {w:World} {base:Nat} {v:Value} {T0:List Tk} (hown:Mine tk w base v T0) (a b c:Int) (hb:base≤w.heap.size) (hm:T0.length≤1099511627776) :
  ∃ v' w',(∀ ty,(Builtin.append_ #[22,22] ty #[v,.slice (some ⟨w.heap.size,0,none⟩) 1 1]).run Tryz.prog (w.alloc (.cells #[.int .i64 a,.int .i64 b,.int .i64 c] 55))=.ok v' w')∧Mine tk w' base v' (T0 ++ [⟨a,b,c⟩])∧∀ K w0,K≤base→Below K w0 w→Below K w0 w':=by
 have hB:Below w.heap.size w (w.alloc (.cells #[.int .i64 a,.int .i64 b,.int .i64 c] 55)):=(Below.refl _ _).alloc (Nat.le_refl _) _
 have hr:Row tk (w.alloc (.cells #[.int .i64 a,.int .i64 b,.int .i64 c] 55)) (.slice (some ⟨w.heap.size,0,none⟩) 1 1) [⟨a,b,c⟩]:=⟨w.heap.size,0,_,1,Nat.le_refl _,rfl,fun _=>rfl,fun j u hu=>by
  rw[Nat.zero_add,cell_of_row _ _ j _ _ _ (heap_alloc_last w _),show(#[(.int .i64 a:Value),.int .i64 b,.int .i64 c])=(flat tk [⟨a,b,c⟩]).toArray from rfl,List.getElem?_toArray]
  exact hu⟩
 obtain⟨v',w',h1,h2,h3⟩:=run_append_row (hown.below hB) hr (by simp;omega) (by simp [maxLen];omega) (by show(T0.length+1)*24≤_;omega)
 exact⟨v',w',h1,h2,fun K w0 hK hw=>Mine.more (hown.below hB) (hw.alloc (Nat.le_trans hK hb) _) hK (by simp;omega) h3⟩
def ToksPost (s:ByteArray) (B0:Nat) (w:World) (e:Ending) (w':World):Prop:=∃ v M,e=.returned v∧Mine tk w' B0 v M∧Below B0 w w'∧M.length≤2*s.size∧∀ x∈M,x∈(lx.scan lx.lang s.data.toList).map toTk
theorem toks_any (s:ByteArray) (w:World) (hs:s.size≤4194304) :
  Calls Tryz.prog 21 #[.string s] w (ToksPost s w.heap.size w):=by
 have hfew:((lx.scan lx.lang s.data.toList).map toTk).length≤2*s.size:=by
  rw[List.length_map];exact scan_len s.data.toList
 have HSC:Hid (∀ u,Calls Tryz.prog 70 #[.string s] u fun e w'=>∃ v1 v2,e=.returned (.tuple #[v1,v2])∧Hid (Mine tk w' u.heap.size v1 ((lx.scan lx.lang s.data.toList).map toTk))∧Hid (Below u.heap.size u w')):=Lib.hid (fun u=>(lx.refScan_any s u hs).mono (by
  rintro e w' ⟨v1,v2,rfl,h1,_,h3⟩
  exact⟨v1,v2,rfl,Lib.hid (mine_of_own h1),Lib.hid h3⟩))
 unfold ToksPost
 generalize (lx.scan lx.lang s.data.toList).map toTk=T at *
 obtain⟨B0,hB0⟩:∃ B0,w.heap.size=B0:=⟨_,rfl⟩
 have HZ:=Lib.hid hB0
 rw[hB0]
 clear hB0
 go_enter Tryz.func21,Tryz.ntmps21
 go_wp2_with (go_at_call 70;refine(HSC.out _).mono ?_;rintro e w1 ⟨v1,v2,rfl,HT,HB1⟩)
 obtain⟨g,off,o,cap,hc,rfl,ho,hcell⟩:=HT.out.row
 have HC:=Lib.hid hcell
 have HO:=Lib.hid ho
 clear hcell ho
 obtain⟨len,hlen⟩:∃ len,T.length=len:=⟨_,rfl⟩
 have HN:=Lib.hid hlen
 rw[hlen] at hc hfew HT ⊢
 clear hlen
 have hz1:B0≤w1.heap.size:=by have:=HB1.out.size;rw[HZ.out] at this;exact this
 go_loopw [5,6] (fun vv p wr=>∃ (n:Nat) (M:List Tk),n≤len∧M.length≤n∧p=.int .i64 n∧Hid (∀ x∈M,x∈T)∧Mine tk wr w1.heap.size vv M∧Below w1.heap.size w1 wr) (fun _ p _=>len - (intOf p).toNat)
 case atStart=>exact⟨0,[],Nat.zero_le _,Nat.le_refl _,rfl,Lib.hid (fun x h=>by cases h),World.ownsRow_made w1 #[] 0 (Nat.le_refl _) (by decide) rfl,(Below.refl _ _).alloc (Nat.le_refl _) _⟩
 case round=>
  obtain⟨n,M,hnl,hMn,rfl,HL,hown,hb⟩:=hrel
  have HB:=Lib.hid hb
  have HM:=Lib.hid hown
  have hsz:=hb.size
  clear hb hown
  by_cases hlt:n<len
  ·have hltT:n<T.length:=by rw[HN.out];exact hlt
   have hd:decide ((n:Int)<(len:Int))=true:=decide_eq_true (by omega)
   have hne:T≠[]:=by rintro rfl;simp at hltT
   have ho:=HO.out hne
   subst ho
   have HCC:Hid (∀ q,q<len→∃ a,wr.cell? ⟨g,off+q*3,none⟩=some (.int .i64 a)):=Lib.hid (fun q hq=>⟨_,(cells_tk (HC.out.below HB.out) q (by rw[HN.out];exact hq)).1⟩)
   obtain⟨c0,c1,c2⟩:=cells_tk (HC.out.below HB.out) n hltT
   have HIN:=Lib.hid (List.getElem_mem hltT)
   generalize T[n]=t at *
   obtain⟨k,i,j⟩:=t
   simp only[] at c0 c1 c2
   clear hne hltT
   obtain⟨v',w',hrun,hm',hbel⟩:=push_tk HM.out k i j hsz (by omega)
   have HRUN:=Lib.hid hrun
   have HM':=Lib.hid hm'
   have HB':=Lib.hid (hbel w1.heap.size w1 (Nat.le_refl _) HB.out)
   clear hrun hm' hbel
   go_wp2_with fail
   go_loop [7,8] (fun pl pk=>∃ (q:Nat) (b:Bool),q≤len∧n+1≤q∧pk=.int .i64 q∧pl=.bool b) (fun _ pk=>len - (intOf pk).toNat)
   case atStart=>exact⟨n+1,_,by omega,Nat.le_refl _,by go_num,rfl⟩
   case round=>
    obtain⟨q,b,hql,hnq,rfl,rfl⟩:=hrel
    by_cases hq:q<len
    ·have hdq:decide ((q:Int)<(len:Int))=true:=decide_eq_true (by omega)
     have hq0:(q:Int)≤4398046511104:=by omega
     cases b with
     |true=>
      obtain⟨a,ca⟩:=HCC.out q hq
      go_wp2_with fail
      go_round
      case rel=>exact⟨q+1,_,by omega,by omega,by go_num,rfl⟩
      case measure=>simp [intOf];omega
     |false=>
      go_wp2_with (at_builtin;refine Lib.wpList_append_run _ rfl _ _ _ _ rfl _ _ rfl rfl _ _ (HRUN.out _) ?_)
      go_roundw
      case rel=>exact⟨n+1,_,by omega,by simp;omega,by go_num,Lib.hid (fun x h=>by
       rcases List.mem_append.1 h with h|h
       ·exact HL.out x h
       ·rw[List.mem_singleton] at h;rw[h];exact HIN.out),HM'.out,HB'.out⟩
      case measure=>simp [intOf];omega
    ·have hdq:decide ((q:Int)<(len:Int))=false:=decide_eq_false (by omega)
     cases b with
     |true=>
      go_wp2_with fail
      go_roundw
      case rel=>exact⟨n+1,M,by omega,by omega,by go_num,HL,HM.out,HB.out⟩
      case measure=>simp [intOf];omega
     |false=>
      go_wp2_with (at_builtin;refine Lib.wpList_append_run _ rfl _ _ _ _ rfl _ _ rfl rfl _ _ (HRUN.out _) ?_)
      go_roundw
      case rel=>exact⟨n+1,_,by omega,by simp;omega,by go_num,Lib.hid (fun x h=>by
       rcases List.mem_append.1 h with h|h
       ·exact HL.out x h
       ·rw[List.mem_singleton] at h;rw[h];exact HIN.out),HM'.out,HB'.out⟩
      case measure=>simp [intOf];omega
  ·have hd:decide ((n:Int)<(len:Int))=false:=decide_eq_false (by omega)
   go_wp2_with fail
   go_ret
   exact⟨_,_,rfl,Mine.mono HM.out hz1,by rw[← HZ.out];exact HB1.out.trans (HB.out.mono HB1.out.size),by omega,HL.out⟩
open Go.RowKit
theorem lvTs_snoc {l:List Tree} {q:Nat} (h:q<l.length):lvTs (l.take (q+1))=lvTs (l.take q) ++ lvT l[q]:=by
 rw[List.take_add_one,List.getElem?_eq_getElem h,lv_append]
 show _ ++ lvTs [l[q]]=_
 rw[lvTs,lvTs,List.append_nil]
theorem lvTs_few {l:List Tree} {q:Nat} (h:q<l.length):(lvTs (l.take q)).length+(lvT l[q]).length≤(lvTs l).length:=by
 have e:lvTs l=lvTs (l.take (q+1)) ++ lvTs (l.drop (q+1)):=by rw[← lv_append,List.take_append_drop]
 rw[e,lvTs_snoc h,List.length_append,List.length_append]
 omega
structure Kn (B:Nat) (w w':World):Prop where
 bel:Below B w w'
 keep:∀ (k:Nat) (cs:Array Value) (fz:Nat × Nat),w.heap[k]? = some (.cells cs nd.e fz)→w'.heap[k]? = w.heap[k]?
theorem Kn.refl (B:Nat) (w:World):Kn B w w:=⟨Below.refl _ _,fun _ _ _ _=>rfl⟩
theorem Kn.trans {B:Nat} {w w1 w2:World} (h:Kn B w w1) (h2:Kn B w1 w2):Kn B w w2:=
 ⟨h.bel.trans h2.bel,fun k cs fz hk=>(h2.keep k cs fz ((h.keep k cs fz hk).trans hk)).trans (h.keep k cs fz hk)⟩
theorem Kn.alloc {B:Nat} {w:World} (hB:B≤w.heap.size) (o:Obj):Kn B w (w.alloc o):=
 ⟨(Below.refl _ _).alloc hB _,fun _ _ _ hk=>heap_alloc_old w _ (Array.getElem?_eq_some_iff.1 hk).1⟩
theorem Kn.nodes {B:Nat} {w w':World} {D:Nat→Prop} (h:Kn B w w') (hD:OfNodes w D):OfNodes w' D:=fun g hg=>by
 obtain⟨cs,fz,e⟩:=hD g hg
 exact⟨cs,fz,(h.keep g cs fz e).trans e⟩
theorem Kn.tie {B:Nat} {w w':World} {D:Nat→Prop} {t:Tree} {n:Rn} (h:Kn B w w') (hD:OfNodes w D) (ht:Tie w D t n):Tie w' D t n:=
 Tie.keep (fun g hg=>by obtain⟨cs,fz,e⟩:=hD g hg;exact h.keep g cs fz e) (fun _ h=>h) _ _ ht
theorem push_kn {w:World} {base:Nat} {v:Value} {T0:List Tk} (hown:Mine tk w base v T0) (a b c:Int) (hb:base≤w.heap.size) (hm:T0.length≤1099511627776) :
  ∃ v' w',(∀ ty,(Builtin.append_ #[22,22] ty #[v,.slice (some ⟨w.heap.size,0,none⟩) 1 1]).run Tryz.prog (w.alloc (.cells #[.int .i64 a,.int .i64 b,.int .i64 c] 55))=.ok v' w')∧Mine tk w' base v' (T0 ++ [⟨a,b,c⟩])∧Kn base w w':=by
 have hB:Below w.heap.size w (w.alloc (.cells #[.int .i64 a,.int .i64 b,.int .i64 c] 55)):=(Below.refl _ _).alloc (Nat.le_refl _) _
 have hr:Row tk (w.alloc (.cells #[.int .i64 a,.int .i64 b,.int .i64 c] 55)) (.slice (some ⟨w.heap.size,0,none⟩) 1 1) [⟨a,b,c⟩]:=⟨w.heap.size,0,_,1,Nat.le_refl _,rfl,fun _=>rfl,fun j u hu=>by
  rw[Nat.zero_add,cell_of_row _ _ j _ _ _ (heap_alloc_last w _),show(#[(.int .i64 a:Value),.int .i64 b,.int .i64 c])=(flat tk [⟨a,b,c⟩]).toArray from rfl,List.getElem?_toArray]
  exact hu⟩
 have hown1:=hown.below hB
 obtain⟨v',w',h1,h2,h3⟩:=run_append_row hown1 hr (by simp;omega) (by simp [maxLen];omega) (by show(T0.length+1)*24≤_;omega)
 refine⟨v',w',h1,h2,(Kn.alloc hb _).trans ⟨Mine.more hown1 (Below.refl _ _) (Nat.le_refl _) (by simp;omega) h3,fun k cs fz hk=>h3.block k (Array.getElem?_eq_some_iff.1 hk).1 (fun e=>?_)⟩⟩
 rcases hown1.2 with⟨h',_⟩|⟨q,cap',cur,h',hq,hh,_⟩
 ·subst h';cases e
 ·subst h'
  simp only[Value.ownBlock,Option.some.injEq] at e
  subst e
  rw[hk] at hh
  simp only[Option.some.injEq,Obj.cells.injEq] at hh
  exact absurd hh.2.1 (by decide)
def LvC (t:Tree):Prop:=∀ (w:World) (D:Nat→Prop) (n:Rn) (B:Nat) (v:Value) (T:List Tk),Tie w D t n→OfNodes w D→Mine tk w B v T→B≤w.heap.size→T.length+(lvT t).length≤549755813888→Calls Tryz.prog 28 #[n.v,v] w fun e w'=>∃ v',e=.returned v'∧Mine tk w' B v' (T ++ lvT t)∧Kn B w w'
theorem leaves_node (k i j:Int) (l:List Tree) (ih:∀ t∈l,LvC t):LvC (.mk k i j l):=by
 intro w D n B v T hT hD hm hB hfew
 obtain⟨k',i',j',o,nn,c⟩:=n
 rw[Tie] at hT
 obtain⟨rfl,rfl,rfl,hnn,g0,off0,R,⟨hc,hl⟩,ho,hcell,hties⟩:=hT
 simp only[] at hnn hc ho
 subst hnn
 show Calls Tryz.prog 28 #[.agg #[.int .i64 k',.int .i64 i',.int .i64 j',.slice o l.length c],v] w _
 have hlR:=hties.length
 obtain⟨len,hlen⟩:∃ len,l.length=len:=⟨_,rfl⟩
 have z1:(w.alloc (.cells #[.int .i64 k',.int .i64 i',.int .i64 j',.slice o l.length c] 43)).heap.size=w.heap.size+1:=World.size_alloc _ _
 have b1:Kn B w (w.alloc (.cells #[.int .i64 k',.int .i64 i',.int .i64 j',.slice o l.length c] 43)):=Kn.alloc hB _
 have m1:=hm.below ((Below.refl w.heap.size w).alloc (Nat.le_refl _) (.cells #[.int .i64 k',.int .i64 i',.int .i64 j',.slice o l.length c] 43))
 have a1:=heap_alloc_last w (.cells #[.int .i64 k',.int .i64 i',.int .i64 j',.slice o l.length c] 43)
 obtain⟨X,hX⟩:∃ X,w.heap.size=X:=⟨_,rfl⟩
 obtain⟨W1,hW1⟩:∃ W1,w.alloc (.cells #[.int .i64 k',.int .i64 i',.int .i64 j',.slice o l.length c] 43)=W1:=⟨_,rfl⟩
 rw[hW1] at z1 b1 a1 m1
 rw[hX] at z1 a1 hB
 have HB1:=Lib.hid (And.intro hX b1)
 have HW1:=Lib.hid hW1
 rw[hlen] at a1 hl hlR HW1 ⊢
 have HT:=Lib.hid (And.intro hties hD)
 have HC:=Lib.hid hcell
 have HO:=Lib.hid ho
 have HIH:=Lib.hid ih
 have HLN:=Lib.hid (And.intro hlen hlR)
 have HA:=Lib.hid a1
 have HM1:=Lib.hid m1
 have HZ1:=Lib.hid z1
 rw[lvT] at hfew ⊢
 by_cases hk:k'<200
 ·have hdk:decide (k'<200)=true:=decide_eq_true hk
  rw[if_pos hk] at hfew ⊢
  have hp:∃ v' w',(∀ ty,(Builtin.append_ #[22,22] ty #[v,.slice (some ⟨w.heap.size+1,0,none⟩) 1 1]).run Tryz.prog ((w.alloc (.cells #[.int .i64 k',.int .i64 i',.int .i64 j',.slice o len c] 43)).alloc (.cells #[.int .i64 k',.int .i64 i',.int .i64 j'] 55))=.ok v' w')∧(Hid (Mine tk w' B v' (T ++ [⟨k',i',j'⟩]))∧Hid (Kn B w w')):=by
   obtain⟨v',w',hrun,hm',hkn⟩:=push_kn HM1.out k' i' j' (by have:=HZ1.out;omega) (by omega)
   rw[HZ1.out,← HW1.out,← HB1.out.1] at hrun
   exact⟨v',w',hrun,Lib.hid hm',Lib.hid (HB1.out.2.trans hkn)⟩
  obtain⟨v',w',hrun,hm',hkn⟩:=hp
  have HRUN:=Lib.hid hrun
  clear hrun hties hD hcell ho ih hlen hlR hW1 b1 z1 hX HT HC HO HIH HLN hc HA a1 m1 hm HW1 HB1 HM1 HZ1 hfew hB
  go_enter Tryz.func28,Tryz.ntmps28
  go_wp2_with (at_builtin;refine Lib.wpList_append_run _ rfl _ _ _ _ rfl _ _ rfl rfl _ _ (HRUN.out _) ?_)
  go_ret
  exact⟨_,rfl,hm'.out,hkn.out⟩
 ·have hdk:decide (k'<200)=false:=decide_eq_false hk
  rw[if_neg hk] at hfew ⊢
  have HFEW:=Lib.hid hfew
  have HQ:=Lib.hid (show B≤W1.heap.size by omega)
  clear hfew hties hD hcell ho ih hlen hlR hW1 b1 z1 hX hc a1 m1 hm hB
  go_enter Tryz.func28,Tryz.ntmps28
  go_wp2_with fail
  rw[HW1.out,HB1.out.1]
  go_loopw [1,5] (fun pv pq wr=>∃ (q:Nat) (u:Value),q≤len∧pq=.int .i64 (q:Int)∧u=pv∧Hid (Mine tk wr B u (T ++ lvTs (l.take q)))∧Hid (Kn B W1 wr)) (fun _ pq _=>len - (intOf pq).toNat)
  case atStart=>exact⟨0,_,Nat.zero_le _,rfl,rfl,Lib.hid (by rw[List.take_zero,lvTs,List.append_nil];exact HM1.out),Lib.hid (Kn.refl _ _)⟩
  case round=>
   obtain⟨q,u,hql,rfl,rfl,HU,HK⟩:=hrel
   have hkn:=HB1.out.2.trans HK.out
   have y1:=(HK.out.keep X _ _ HA.out).trans HA.out
   obtain⟨⟨_,_,_,e3⟩,_⟩:=four_cells0 y1
   have hD':=hkn.nodes HT.out.2
   by_cases hlt:q<len
   ·have hlne:l≠[]:=by intro e;have:=HLN.out.1;rw[e] at this;simp at this;omega
    have hil:q<l.length:=by rw[HLN.out.1];exact hlt
    have hiR:q<R.length:=by rw[HLN.out.2];exact hlt
    obtain⟨ho,hd0⟩:=HO.out hlne
    subst ho
    have hge:wr.heap[g0]? = w.heap[g0]?:=by obtain⟨cs,fz,e⟩:=HT.out.2 g0 hd0;exact hkn.keep g0 cs fz e
    obtain⟨a0,a1,a2,a3⟩:=cells_nd HC.out q hiR
    have t1:=(ties_get' HT.out.1 hil hiR)
    obtain⟨⟨nk,ni,nj,no,nn,nc⟩,hn1⟩:∃ n,R[q]=n:=⟨_,rfl⟩
    rw[hn1] at a0 a1 a2 a3 t1
    have c0:=(cell_same hge (off0+q*4)).trans a0
    have c1:=(cell_same hge (off0+q*4+1)).trans a1
    have c2:=(cell_same hge (off0+q*4+2)).trans a2
    have c3:=(cell_same hge (off0+q*4+3)).trans a3
    have hg0:g0<wr.heap.size:=hD'.lt g0 hd0
    have HCALL:Hid (Calls Tryz.prog 28 #[.agg #[.int .i64 nk,.int .i64 ni,.int .i64 nj,.slice no nn nc],u] wr fun e w'=>∃ v',e=.returned v'∧Hid (Mine tk w' B v' (T ++ lvTs (l.take (q+1))))∧Hid (Kn B wr w')):=Lib.hid (by
     have h1:=lvTs_few hil
     have h2:=HFEW.out
     have:=HIH.out l[q] (List.getElem_mem hil) wr D ⟨nk,ni,nj,no,nn,nc⟩ B u _ (hkn.tie HT.out.2 t1) hD' HU.out (Nat.le_trans HQ.out HK.out.bel.size) (by rw[List.length_append];omega)
     refine this.mono ?_
     rintro e w' ⟨v',rfl,h3,h4⟩
     rw[List.append_assoc,← lvTs_snoc hil] at h3
     exact⟨v',rfl,Lib.hid h3,Lib.hid h4⟩)
    have hq0:(0:Int)≤(q:Int):=by omega
    have hww:(q:Int)+1≤1099511627777:=by omega
    have hd:decide ((q:Int)<(len:Int))=true:=decide_eq_true (by omega)
    have hd':decide (q<len)=true:=decide_eq_true hlt
    simp only[] at c0 c1 c2 c3
    clear a0 a1 a2 a3 t1 hn1 y1 hD' hge hkn
    go_wp2_with (go_at_call 28;refine HCALL.out.mono ?_;rintro e w9 ⟨v9,rfl,HM9,HK9⟩)
    first|exact⟨⟨q+1,_,by omega,by go_num,rfl,HM9,Lib.hid (HK.out.trans HK9.out)⟩,by simp [intOf];omega⟩|(go_roundw;(case rel=>exact⟨q+1,_,by omega,by go_num,rfl,HM9,Lib.hid (HK.out.trans HK9.out)⟩);(case measure=>simp [intOf];omega))
   ·obtain rfl:q=len:=by omega
    have hd:decide ((q:Int)<(q:Int))=false:=decide_eq_false (by omega)
    rw[List.take_of_length_le (by rw[HLN.out.1];exact Nat.le_refl _)] at HU
    have HKN:=Lib.hid hkn
    clear y1 hD' hkn
    go_wp2_with fail
    go_ret
    exact⟨_,rfl,HU.out,HKN.out⟩
mutual
theorem leaves_t:∀ t:Tree,LvC t
 |.mk k i j l=>leaves_node k i j l (leaves_l l)
theorem leaves_l:∀ (l:List Tree),∀ t∈l,LvC t
 |[],t,h=>by cases h
 |u::l,t,h=>by
  rcases List.mem_cons.1 h with h|h
  ·rw[h];exact leaves_t u
  ·exact leaves_l l t h
end
open Go.RowKit
open Go.RowKit
open Go.RowKit
open Go.RowKit
open Go.RowKit
theorem kw_lt (r:List UInt8):lx.lang.kw r<200:=by
 show tok.kwOf r<200
 unfold tok.kwOf
 split <;> omega
theorem op_lt (r:List UInt8):((lx.lang.op r).1:Int)<200:=by
 show((tok.opOf r).1:Int)<200
 unfold tok.opOf
 split
 ·decide
 ·have:=(tok.best_le r 46).1
  omega
theorem nx_lt (z:Bool) (r:List UInt8):(lx.nx lx.lang z r).kind<200:=by
 have hw:∀ (f:List UInt8→Int × Nat) (k code:Int) (q:UInt8) (r:List UInt8),(lx.quotedL f k code q r).kind=k:=fun f k code q r=>(lx.quoted_width f k code q r).2
 have hcl:∀ (k code:Int) (n:Nat) (clo r:List UInt8),(lx.closedL k code n clo r).kind=k:=by
  intro k code n clo r
  unfold lx.closedL
  split <;> rfl
 unfold lx.nx
 generalize lx.cls z r=k
 unfold lx.nxOf
 split
 ·show(1:Int)<200;decide
 ·show(1:Int)<200;decide
 ·show(2:Int)<200;decide
 ·show(3:Int)<200;decide
 ·rw[hcl];decide
 ·show(if lx.lang.kw _=0 then(10:Int) else lx.lang.kw _)<200
  split
  ·decide
  ·exact kw_lt _
 ·unfold lx.numL
  split
  ·show(11:Int)<200;decide
  ·show(11:Int)<200;decide
 ·rw[hw];decide
 ·rw[hw];decide
 ·rw[hcl];decide
 ·unfold lx.signL
  split
  ·exact op_lt _
  ·split
   ·show(5:Int)<200;decide
   ·show(5:Int)<200;decide
 ·show(0:Int)<200;decide
theorem bare_lt (l:List UInt8):∀ p,∀ t∈lx.bare lx.lang l p,t.k<200:=by
 refine lx.along (L:=lx.lang) (fun p h=>by rw[lx.bare_end h];intro t ht;simp at ht) (fun p h ih=>?_)
 rw[lx.bare_step h]
 intro t ht
 rcases List.mem_cons.1 ht with rfl|ht
 ·show(lx.nxAt lx.lang l p).kind<200
  unfold lx.nxAt
  exact nx_lt _ _
 ·exact ih t ht
theorem autos_ok {n:Nat} (l:List UInt8) (more:Bool):∀ T:List lx.Tr,(∀ t∈T,t.k<200∧t.i≤t.j∧t.j≤n)→∀ t∈lx.autos l more T,t.k<200∧t.i≤t.j∧t.j≤n
 |[],_,t,ht=>by rw[lx.autos] at ht;cases ht
 |a::T,h,t,ht=>by
  rw[lx.autos] at ht
  rcases List.mem_cons.1 ht with rfl|ht
  ·exact h _ (List.mem_cons_self ..)
  ·rcases List.mem_append.1 ht with ht|ht
   ·unfold lx.autoOf at ht
    split at ht
    ·rw[List.mem_singleton] at ht
     subst ht
     have:=h a (List.mem_cons_self ..)
     exact⟨by show(16:Int)<200;decide,Nat.le_refl _,this.2.2⟩
    ·cases ht
   ·exact autos_ok l more T (fun x hx=>h x (List.mem_cons_of_mem _ hx)) t ht
theorem scan_ok (s:ByteArray) {T:List Tk} (hT:∀ x∈T,x∈(lx.scan lx.lang s.data.toList).map toTk):TkOk (s.size:Int) T:=by
 refine⟨by omega,fun x hx=>?_⟩
 obtain⟨t,ht,rfl⟩:=List.mem_map.1 (hT x hx)
 unfold lx.scan at ht
 have hin:=lx.bare_in s.data.toList
 have h:=autos_ok (n:=s.data.toList.length) s.data.toList false _ (fun t ht=>⟨bare_lt _ _ t ht,(hin t ht).1,(hin t ht).2⟩) t ht
 have e:s.data.toList.length=s.size:=rfl
 rw[e] at h
 obtain⟨h1,h2,h3⟩:=h
 refine⟨h1,?_,?_,?_⟩
 ·show(0:Int)≤(t.i:Int);omega
 ·show(t.i:Int)≤(t.j:Int);omega
 ·show(t.j:Int)≤(s.size:Int);omega
def five (p:Pc):Prop:=p=.X true∨p=.type∨p=.sig∨p=.tparams∨p=.list false
theorem reads_five (T:List Tk) (hn:T.length≤1048576) (p:Pc) (hp:five p):∃ (N:Nat) (x1 y:Res),1≤N∧N≤1099511627775∧Hid (run N p (.ok ⟨T,0,[],[],0⟩)=some x1)∧Hid (rDone x1=some y):=by
 have hin:In T (T.length:Int) (64*(T.length:Int)) (.ok ⟨T,0,[],[],0⟩):=InS.in ⟨rfl,Nat.zero_le _,by simp,by simp⟩
 obtain⟨x1,h1,hi⟩:=run_ends (L:=T) (B:=64*(T.length:Int)+1000) (by omega) (by omega) p _ hin (fun h=>by rcases hp with rfl|rfl|rfl|rfl|rfl <;> cases h) (100*T.length+20) (by omega)
 have hcc:cc p≤64:=by rcases hp with rfl|rfl|rfl|rfl|rfl <;> decide
 obtain⟨y,h2,_⟩:Ends (rDone x1) (fun _=>True):=by
  unfold rDone
  refine lift_ends (fun _ _ _=>trivial) ?_
  rintro s rfl
  obtain⟨e1,e2,e3,e4⟩:=hi s rfl
  split
  ·refine chk_ends ?_ trivial
   have hl:(s.run (s.L.length - s.at')).R.length=s.R.length+(s.L.length - s.at'):=by simp [St.run]
   rw[hl]
   show s.R.length+(s.L.length - s.at')+s.L.length≤_
   rw[e1]
   omega
  ·exact chk_endf trivial
 exact⟨_,x1,y,by omega,by omega,Lib.hid h1,Lib.hid h2⟩
theorem iv_done {L:List Tk} {N:Int} (hL:TkOk N L) {x y:Res} (hx:IgR L N [] x) (hy:Hid (rDone x=some y)):(∀ t,y=.ok t→lvTs t.R=L∧okTs t.R)∧∀ c a b,y=.fail c a b→Fl N c a b:=by
 have hy:=hy.out
 cases x with
 |fail a b c=>cases hy;exact⟨fun t e=>(by cases e),fun c a b e=>(by cases e;exact hx)⟩
 |ok s=>
  have hs:Ig L [] s:=hx
  have hy:chk (if s.ahead 0=0 then .ok (s.run (s.L.length - s.at')) else s.fail 201)=some y:=hy
  rw[chk_is hy]
  split
  ·refine⟨fun t e=>?_,fun c a b e=>(by cases e)⟩
   cases e
   have hmem:∀ t∈(L.drop s.at').take (L.length - s.at'),t.k<200:=fun t ht=>(hL.2 t (List.mem_of_mem_drop (List.mem_of_mem_take ht))).1
   have h:=hs.lv
   rw[lvTs,List.append_nil] at h
   constructor
   ·show lvTs (s.R ++ ((s.L.drop s.at').take (s.L.length - s.at')).map Tk.tree)=L
    rw[hs.L,lv_append,lv_leaves _ hmem,h,List.take_of_length_le (l:=L.drop s.at') (by rw[List.length_drop];exact Nat.le_refl _),List.take_append_drop]
   ·show okTs (s.R ++ ((s.L.drop s.at').take (s.L.length - s.at')).map Tk.tree)
    rw[hs.L]
    exact hs.ok.append (ok_leaves _ hmem)
  ·refine⟨fun t e=>(by cases e),fun c a b e=>?_⟩
   have:IgR L N [] (s.fail 201):=fail_ok hL hs.L (.inl rfl)
   rw[e] at this
   exact this
open Go.RowKit
def DoneL (n:Nat) (T:List Tk) (w:World) (e:Ending) (w':World):Prop:=
 (∃ c a b:Int,e=.returned (tells (.slice none 0 0) (c,a,b) false)∧Fl (n:Int) c a b∧Below w.heap.size w w') ∨
 ∃ (l:List Tree) (v:Value) (R:List Rn) (D:Nat→Prop),e=.returned (tells v (0,0,0) true)∧Below w.heap.size w w'∧Row nd w' v R∧Ties w' D l R∧OfNodes w' D∧R.length≤549755813888∧lvTs l=T∧okTs l
theorem done_law {n:Nat} {T:List Tk} (hL:TkOk (n:Int) T) {N:Nat} {p:Pc} {x1 y:Res} (h1:Hid (run N p (.ok ⟨T,0,[],[],0⟩)=some x1)) (h2:Hid (rDone x1=some y)) {w w4:World} {b:Nat} (h:Hid (CAt ⟨allOf w,0⟩ w4 b x1)) :
  Calls Tryz.prog 15 #[.pointer (some ⟨b,0,none⟩)] w4 (DoneL n T w):=by
 have h0:Ig T [] ⟨T,0,[],[],0⟩:=⟨rfl,Nat.zero_le _,by rw[lvTs,List.take_zero,List.append_nil],by rw[okTs];trivial,rfl,fun t ht=>by cases ht⟩
 have hx:=run_iv hL N p _ x1 h0 h1.out
 obtain⟨hok,hbad⟩:=iv_done hL hx h2
 refine(cdone_at h h2).mono ?_
 rintro e w5 ⟨hkp,hd⟩
 have hb:Below w.heap.size w w5:=⟨hkp.os,hkp.tape,hkp.output,hkp.size,fun k hk=>hkp.kept k hk⟩
 rcases hd with⟨d0,d1,d2,rfl,rfl⟩|⟨t,v5,R,D,rfl,rfl,hm,ht,hD,hle⟩
 ·exact .inl ⟨d0,d1,d2,rfl,hbad _ _ _ rfl,hb⟩
 ·exact .inr ⟨t.R,v5,R,D,rfl,hb,hm.row,ht,hD,by rw[ht.length];exact hle,(hok t rfl).1,(hok t rfl).2⟩
open Go.RowKit
theorem all_made (w:World):∃ W7,(w.alloc (.cells #[.int .i64 0,.int .i64 0,.int .i64 0] 37)).alloc (.cells #[] 55)=W7∧Below w.heap.size w W7∧Mine tk W7 (w.heap.size+1) (.slice (some ⟨w.heap.size+1,0,none⟩) 0 0) []∧W7.heap.size=w.heap.size+2:=by
 have hz:(w.alloc (.cells #[.int .i64 0,.int .i64 0,.int .i64 0] 37)).heap.size=w.heap.size+1:=World.size_alloc _ _
 have hb:Below w.heap.size w (w.alloc (.cells #[.int .i64 0,.int .i64 0,.int .i64 0] 37)):=(Below.refl _ _).alloc (Nat.le_refl _) _
 generalize w.alloc (.cells #[.int .i64 0,.int .i64 0,.int .i64 0] 37)=W6 at *
 have hm:Mine tk (W6.alloc (.cells #[] tk.e)) W6.heap.size (.slice (some ⟨W6.heap.size,0,none⟩) 0 0) []:=World.ownsRow_made W6 #[] 0 (Nat.le_refl _) (by decide) rfl
 rw[hz] at hm
 exact⟨_,rfl,hb.alloc hb.size _,hm,by rw[World.size_alloc,hz]⟩
theorem wrap_small {i:Nat} (h:i≤32768):wrap64 ((i:Int)+1)=((i+1:Nat):Int):=by unfold wrap64;omega
theorem less_small {i len:Nat} (h:wrap64 ((i:Int)+1)=((i+1:Nat):Int)) (hl:i+1≤len):len - (intOf (.int .i64 (wrap64 ((i:Int)+1)))).toNat<len - (intOf (.int .i64 (i:Int))).toNat:=by
 rw[h]
 simp only[intOf]
 omega
theorem kn_of {w w':World} {B:Nat} (h:Below w.heap.size w w') (hB:B≤w.heap.size):Kn B w w':=
 ⟨h.mono hB,fun k _ _ hk=>h.block k (Array.getElem?_eq_some_iff.1 hk).1⟩
theorem lossK {P:Prop} (h:P:=by
 rintro e w5 hd
 rcases hd with⟨dc,da,db,rfl,hfl,hb5⟩|⟨l,vv,R,D,rfl,hb5,hrow,hties,hof,hle,hlv,hok⟩
 ·dsimp only [tells]
  obtain⟨hcode,f0,f1,f2⟩:=hfl
  have HB5:=Lib.hid (HB1.out.trans (hb5.mono HB1.out.size))
  have g0:decide (0≤da)=true:=decide_eq_true f0
  have g1:decide (da≤db)=true:=decide_eq_true f1
  have g2:decide (db≤(s.size:Int))=true:=decide_eq_true f2
  clear f0 f1 f2 hb5
  rcases hcode with rfl|rfl
  all_goals go_wp2_with fail
  all_goals go_ret
  all_goals exact⟨rfl,HB5.out.alloc HB5.out.size _⟩
 ·dsimp only [tells]
  have HB5:=Lib.hid (HB1.out.trans (hb5.mono HB1.out.size))
  have HT5:=Lib.hid (And.intro hties (And.intro hof (And.intro hlv hok)))
  have HM5:=Lib.hid (HM1.out.below hb5)
  obtain⟨gv,offv,ov,cv,hcv,rfl,hov,hcell⟩:=hrow.lt
  have HOV:=Lib.hid (And.intro hov hcell)
  obtain⟨rl,hrl⟩:∃ rl,R.length=rl:=⟨_,rfl⟩
  have HRL:=Lib.hid (And.intro hrl (hties.length.symm.trans hrl))
  rw[hrl] at hcv hle ⊢
  obtain⟨X,hX⟩:∃ X,w5.heap.size=X:=⟨_,rfl⟩
  obtain⟨W7,hW7,hb7,hm7,hz7⟩:=all_made w5
  rw[hX] at hm7 hz7
  have HX:=Lib.hid hX
  have HW7:=Lib.hid hW7
  have HB7:=Lib.hid hb7
  have HM7:=Lib.hid hm7
  have HZ7:=Lib.hid hz7
  clear hb5 hrow hties hof hlv hok hov hcell hrl hX hW7 hb7 hm7 hz7
  go_wp2_with fail
  rw[HW7.out,HX.out]
  go_loopw [10,11] (fun pv pq wr=>∃ (q:Nat) (u:Value),q≤rl∧pq=.int .i64 (q:Int)∧u=pv∧Hid (Mine tk wr (X+1) u (lvTs (l.take q)))∧Hid (Kn (X+1) W7 wr)) (fun _ pq _=>rl - (intOf pq).toNat)
  case atStart=>exact⟨0,_,Nat.zero_le _,rfl,rfl,Lib.hid (by rw[List.take_zero,lvTs];exact HM7.out),Lib.hid (Kn.refl _ _)⟩
  case round=>
   obtain⟨q,u,hql,rfl,rfl,HU,HK⟩:=hrel
   have hsz:X+1≤wr.heap.size:=by have:=HK.out.bel.size;have:=HZ7.out;omega
   by_cases hlt:q<rl
   ·have hiR:q<R.length:=by rw[HRL.out.1];exact hlt
    have hil:q<l.length:=by rw[HRL.out.2];exact hlt
    have hne:R≠[]:=by rintro rfl;simp at hiR
    obtain⟨ho,hgw⟩:=HOV.out.1 hne
    subst ho
    rw[HX.out] at hgw
    have hge:wr.heap[gv]? = w5.heap[gv]?:=(HK.out.bel.block gv (by omega)).trans (HB7.out.block gv (by rw[HX.out];exact hgw))
    obtain⟨a0,a1,a2,a3⟩:=cells_nd HOV.out.2 q hiR
    have t7:=(ties_get' HT5.out.1 hil hiR).below HT5.out.2.1 HB7.out
    have hD7:OfNodes W7 D:=HT5.out.2.1.below HB7.out
    have t1:=HK.out.tie hD7 t7
    have hDr:=HK.out.nodes hD7
    have hokt:=ok_at hil HT5.out.2.2.2
    obtain⟨⟨nk,ni,nj,no,nn,nc⟩,hn1⟩:∃ n,R[q]=n:=⟨_,rfl⟩
    rw[hn1] at a0 a1 a2 a3 t1
    have c0:=(cell_same hge (offv+q*4)).trans a0
    have c1:=(cell_same hge (offv+q*4+1)).trans a1
    have c2:=(cell_same hge (offv+q*4+2)).trans a2
    have c3:=(cell_same hge (offv+q*4+3)).trans a3
    have hgr:gv<wr.heap.size:=by omega
    have HNT:Hid (Calls Tryz.prog 27 #[.agg #[.int .i64 nk,.int .i64 ni,.int .i64 nj,.slice no nn nc]] wr fun e w'=>e=.returned (.tuple #[.int .i64 (htT l[q]),.bool true])∧Below wr.heap.size wr w'):=Lib.hid (neat_t l[q] wr D ⟨nk,ni,nj,no,nn,nc⟩ t1 hDr hokt)
    have HLV:Hid (∀ w8,Below wr.heap.size wr w8→(w8.cell? ⟨gv,offv+q*4,none⟩=some (.int .i64 nk)∧w8.cell? ⟨gv,offv+q*4+1,none⟩=some (.int .i64 ni)∧w8.cell? ⟨gv,offv+q*4+2,none⟩=some (.int .i64 nj)∧w8.cell? ⟨gv,offv+q*4+3,none⟩=some (.slice no nn nc))∧gv<w8.heap.size∧Calls Tryz.prog 28 #[.agg #[.int .i64 nk,.int .i64 ni,.int .i64 nj,.slice no nn nc],u] w8 fun e w'=>∃ v',e=.returned v'∧Hid (Mine tk w' (X+1) v' (lvTs (l.take (q+1))))∧Hid (Kn (X+1) W7 w')):=Lib.hid (fun w8 hb8=>by
     have k8:=kn_of hb8 hsz
     refine⟨⟨(hb8.cell (p:=⟨gv,offv+q*4,none⟩) hgr).trans c0,(hb8.cell (p:=⟨gv,offv+q*4+1,none⟩) hgr).trans c1,(hb8.cell (p:=⟨gv,offv+q*4+2,none⟩) hgr).trans c2,(hb8.cell (p:=⟨gv,offv+q*4+3,none⟩) hgr).trans c3⟩,Nat.lt_of_lt_of_le hgr hb8.size,?_⟩
     have h1:=lvTs_few hil
     have h2:=HLEN.out
     have h3:lvTs l=T:=HT5.out.2.2.1
     rw[h3] at h1
     refine(leaves_t l[q] w8 D ⟨nk,ni,nj,no,nn,nc⟩ (X+1) u _ (k8.tie hDr t1) (k8.nodes hDr) (HU.out.below hb8) (Nat.le_trans hsz hb8.size) (by omega)).mono ?_
     rintro e w' ⟨v',rfl,h4,h5⟩
     rw[← lvTs_snoc hil] at h4
     exact⟨v',rfl,Lib.hid h4,Lib.hid (HK.out.trans (k8.trans h5))⟩)
    have hq0:(0:Int)≤(q:Int):=by omega
    have hww:(q:Int)+1≤549755813889:=by omega
    have hd2:decide ((q:Int)<(rl:Int))=true:=decide_eq_true (by omega)
    have hd2':decide (q<rl)=true:=decide_eq_true hlt
    simp only[] at c0 c1 c2 c3
    generalize htT l[q]=hq at *
    clear a0 a1 a2 a3 t1 t7 hn1 hD7 hDr hge hokt
    go_wp2_with (first|(go_at_call 27;refine HNT.out.mono ?_;rintro e w8 ⟨rfl,hb8⟩;obtain⟨⟨y0,y1,y2,y3⟩,hg8,hlv8⟩:=HLV.out w8 hb8;have HLV8:=Lib.hid hlv8;clear hlv8 c0 c1 c2 c3 hb8)|(go_at_call 28;refine HLV8.out.mono ?_;rintro e w9 ⟨v9,rfl,HM9,HK9⟩))
    first|exact⟨⟨q+1,_,by omega,by go_num,rfl,HM9,HK9⟩,by simp [intOf];omega⟩|(go_roundw;(case rel=>exact⟨q+1,_,by omega,by go_num,rfl,HM9,HK9⟩);(case measure=>simp [intOf];omega))
   ·obtain rfl:q=rl:=by omega
    have hd2:decide ((q:Int)<(q:Int))=false:=decide_eq_false (by omega)
    rw[List.take_of_length_le (by rw[HRL.out.2];exact Nat.le_refl _),HT5.out.2.2.1] at HU
    have hB:=HK.out.bel
    have HBA:Hid (Below w.heap.size w wr):=Lib.hid (HB5.out.trans ((HB7.out.trans (hB.mono (by rw[HX.out];omega))).mono HB5.out.size))
    have HM1r:=Lib.hid ((HM5.out.below HB7.out))
    have hlr:Row tk wr (.slice o1 len c1) T:=by
     obtain⟨gl,offl,ol,cl,hcl,hvl,hol,hcel⟩:=HM5.out.row.lt
     refine⟨gl,offl,ol,cl,hcl,hvl,fun hne=>(hol hne).1,fun j x hx=>?_⟩
     have hcc:=hcel j x hx
     have hglt:gl<w5.heap.size:=World.block_lt_of_cell? _ _ hcc
     exact(cell_same ((hB.block gl (by rw[← HX.out];omega)).trans (HB7.out.block gl hglt)) _).trans hcc
    have HLR:=Lib.hid hlr
    obtain⟨ga,offa,oa,ca,hca,rfl,hoa,hcella⟩:=HU.out.row
    have HOA:=Lib.hid (And.intro hoa hcella)
    rw[HLN.out] at hca ⊢
    obtain⟨Y,hY⟩:∃ Y,wr.heap.size=Y:=⟨_,rfl⟩
    obtain⟨W10,hW10⟩:∃ W10,wr.alloc (.cells #[] 55)=W10:=⟨_,rfl⟩
    have hm10:Mine tk W10 Y (.slice (some ⟨Y,0,none⟩) 0 0) []:=by
     rw[← hW10,← hY]
     exact World.ownsRow_made wr #[] 0 (Nat.le_refl _) (by decide) rfl
    have hb10:Below Y wr W10:=by rw[← hW10,← hY];exact(Below.refl _ _).alloc (Nat.le_refl _) _
    have HY:=Lib.hid hY
    have HW10:=Lib.hid hW10
    have HB10:=Lib.hid hb10
    have HM10:=Lib.hid hm10
    have HRB:Hid (∀ wx,Below Y wr wx→Row tk wx (.slice o1 len c1) T∧Cells tk wx ga offa T∧Below w.heap.size w wx):=Lib.hid (fun wx hx=>by
     rw[← HY.out] at hx
     exact⟨HLR.out.below hx,HOA.out.2.below hx,HBA.out.trans (hx.mono HBA.out.size)⟩)
    have HKD:Hid (∀ i (hi:i<T.length),T[i].k<200):=Lib.hid (fun i hi=>(HL.out.2 _ (List.getElem_mem hi)).1)
    clear hB hlr hoa hcella hY hW10 hm10 hb10
    go_wp2_with fail
    rw[HW10.out,HY.out]
    go_loopw [14,15] (fun pv pq wx=>∃ (i:Nat) (u:Value),i≤len∧pq=.int .i64 (i:Int)∧u=pv∧Hid (Mine tk wx Y u (T.take i))∧Hid (Below Y wr wx)) (fun _ pq _=>len - (intOf pq).toNat)
    case atStart=>exact⟨0,_,Nat.zero_le _,rfl,rfl,Lib.hid (by rw[List.take_zero];exact HM10.out),HB10⟩
    case round=>
     obtain⟨i,u,hil,rfl,rfl,HR,HBX⟩:=hrel
     have hsy:Y≤wr.heap.size:=by have:=HBX.out.size;rw[HY.out] at this;exact this
     obtain⟨hrl,hra,hbw⟩:=HRB.out wr HBX.out
     by_cases hlt:i<len
     ·have hiT:i<T.length:=by rw[HLN.out];exact hlt
      have hne:T≠[]:=by rintro rfl;simp at hiT
      obtain rfl:=HOA.out.1 hne
      obtain⟨c0,c1,c2⟩:=cells_tk hra i hiT
      have hk:=HKD.out i hiT
      obtain⟨v',w',hrun,hm',hbel⟩:=push_tk HR.out T[i].k T[i].i T[i].j hsy (by rw[List.length_take,HLN.out];have:=HLEN.out;rw[HLN.out] at this;omega)
      have hsn:T.take (i+1)=T.take i ++ [⟨T[i].k,T[i].i,T[i].j⟩]:=by rw[List.take_add_one,List.getElem?_eq_getElem hiT];rfl
      rw[← hsn] at hm'
      have HRUN:=Lib.hid hrun
      have HM':=Lib.hid hm'
      have HB':=Lib.hid (hbel Y _ (Nat.le_refl _) HBX.out)
      generalize T[i].k=tk0 at *
      generalize T[i].i=tk1 at *
      generalize T[i].j=tk2 at *
      have hk200:(tk0 == 200)=false:=beq_eq_false_iff_ne.2 (by omega)
      have hd3:decide ((i:Int)<(len:Int))=true:=decide_eq_true (by omega)
      have hd3':decide (i<len)=true:=decide_eq_true hlt
      have hi0:(0:Int)≤(i:Int):=by omega
      have HLT:=Lib.hid (show i+1≤len by omega)
      clear hrun hm' hbel hsn hrl hra hbw hk hne
      go_wp2_with (at_builtin;refine Lib.wpList_append_run _ rfl _ _ _ _ rfl _ _ rfl rfl _ _ (HRUN.out _) ?_)
      have hib:i≤32768:=by have:=HLEN.out;rw[HLN.out] at this;have:=HLT.out;omega
      have hww:=wrap_small hib
      go_roundw
      case rel=>exact⟨i+1,_,HLT.out,congrArg (Value.int .i64) hww,rfl,HM',HB'⟩
      case measure=>exact less_small hww HLT.out
     ·obtain rfl:i=len:=by omega
      have hd3:decide ((i:Int)<(i:Int))=false:=decide_eq_false (by omega)
      rw[List.take_of_length_le (by rw[HLN.out];exact Nat.le_refl _)] at HR
      obtain⟨gr,offr,orr,cr,hcr,rfl,hor,hcellr⟩:=HR.out.row
      have HOR:=Lib.hid (And.intro hor hcellr)
      obtain⟨gl,offl,o1',c1',hcl,hvl,hol,hcelll⟩:=hrl
      have HOL:=Lib.hid (And.intro hol hcelll)
      have hvl':=hvl
      rw[HLN.out] at hvl'
      simp only[Value.slice.injEq] at hvl'
      obtain⟨rfl,_,rfl⟩:=hvl'
      have HBW:=Lib.hid hbw
      rw[HLN.out] at hcr hcl ⊢
      clear hor hcellr hol hcelll hvl hra hbw hsy
      obtain⟨wp,hwp⟩:∃ wp,wp=wr:=⟨_,rfl⟩
      subst hwp
      go_wp2_with fail
      go_loopw [16] (fun pq wx=>∃ n:Nat,n≤i∧pq=.int .i64 (n:Int)∧Hid (Below wp.heap.size wp wx)) (fun pq _=>i - (intOf pq).toNat)
      case atStart=>exact⟨0,Nat.zero_le _,rfl,Lib.hid (Below.refl _ _)⟩
      case round=>
       obtain⟨n,hni,rfl,HBY⟩:=hrel
       by_cases hln:n<i
       ·have hnT:n<T.length:=by rw[HLN.out];exact hln
        have hne:T≠[]:=by rintro rfl;simp at hnT
        obtain rfl:=HOR.out.1 hne
        obtain rfl:=HOL.out.1 hne
        obtain⟨c0,c1,c2⟩:=cells_tk (HOR.out.2.below HBY.out) n hnT
        obtain⟨e0,e1,e2⟩:=cells_tk (HOL.out.2.below HBY.out) n hnT
        generalize T[n].k=tk0 at *
        generalize T[n].i=tk1 at *
        generalize T[n].j=tk2 at *
        have hd4:decide ((n:Int)<(i:Int))=true:=decide_eq_true (by omega)
        have hd4':decide (n<i)=true:=decide_eq_true hln
        have hn0:(0:Int)≤(n:Int):=by omega
        have HLT:=Lib.hid (show n+1≤i by omega)
        have hib:(n:Int)+1≤32769:=by have:=HLEN.out;rw[HLN.out] at this;omega
        go_wp2_with fail
        go_region
        all_goals(try go_wp2_with fail)
        all_goals first|(go_roundw;(case rel=>exact⟨n+1,HLT.out,by go_num,by first|exact HBY|exact Lib.hid HBY.out.drew⟩);(case measure=>have:=HLT.out;simp [intOf];omega))|exact⟨⟨n+1,HLT.out,by go_num,by first|exact HBY|exact Lib.hid HBY.out.drew⟩,by have:=HLT.out;simp [intOf];omega⟩
       ·obtain rfl:n=i:=by omega
        have hd4:decide ((n:Int)<(n:Int))=false:=decide_eq_false (by omega)
        go_wp2_with fail
        go_ret
        exact⟨rfl,HBW.out.trans (HBY.out.mono HBW.out.size)⟩):P:=h
theorem lossless_law (s:ByteArray) (z:Int) (w:World) (hs:s.size≤140737488351232) :
  Calls Tryz.prog 6 #[.string s,.int .i64 z] w fun e w'=>e=.returned (.bool true)∧Below w.heap.size w w':=by
 go_enter Tryz.func6,Tryz.ntmps6
 by_cases hlt:16384<s.size
 ·have hd:decide ((16384:Int)<(s.size:Int))=true:=decide_eq_true (by omega)
  have hd':decide (16384<s.size)=true:=decide_eq_true hlt
  go_wp2_with fail
  go_ret
  exact⟨rfl,Below.refl _ _⟩
 ·have hd:decide ((16384:Int)<(s.size:Int))=false:=decide_eq_false (by omega)
  have hd':decide (16384<s.size)=false:=decide_eq_false hlt
  have HT:=Lib.hid (toks_any s w (by omega))
  have HS:=Lib.hid (show s.size≤16384 by omega)
  go_wp2_with fail
  go_at_call 21
  refine HT.out.mono ?_
  rintro e w1 ⟨v1,T,rfl,hm1,hb1,hlen,hmem⟩
  have HL:=Lib.hid (scan_ok s hmem)
  have HM1:=Lib.hid hm1
  have HB1:=Lib.hid hb1
  have HLEN:Hid (T.length≤32768):=Lib.hid (by have:=HS.out;omega)
  have HNEW:=Lib.hid (cnew_any hm1.row (by omega))
  obtain⟨len,hln⟩:∃ len,T.length=len:=⟨_,rfl⟩
  have HLN:=Lib.hid hln
  obtain⟨g1,o1,c1,rfl,hx1,hx2⟩:=hm1.shape
  clear hx1 hx2
  rw[hln] at HM1 HNEW ⊢
  clear hm1 hb1 hlen hmem hln
  go_wp2_with fail
  go_at_call 9
  refine HNEW.out.mono ?_
  rintro e w3 ⟨b,rfl,hat⟩
  have hat3:=Lib.hid hat
  clear hat
  have HALL:Hid (∀ p,five p→∃ (N:Nat) (x1 y:Res),1≤N∧N≤1099511627775∧Hid (run N p (.ok ⟨T,0,[],[],0⟩)=some x1)∧Hid (rDone x1=some y)):=Lib.hid (fun p hp=>reads_five T (by have:=HLEN.out;omega) p hp)
  by_cases z0:z=0
  ·subst z0
   obtain⟨N,x1,y,hN1,hN,h1,h2⟩:=HALL.out (.X true) (.inl rfl)
   have HC:Hid (∀ w4,Hid (CAt ⟨allOf w1,0⟩ w4 b x1)→Calls Tryz.prog 15 #[.pointer (some ⟨b,0,none⟩)] w4 (DoneL s.size T w1)):=Lib.hid (fun w4 h=>done_law HL.out h1 h2 h)
   have HX:=Lib.hid ((prog_all N (by omega)).X _ _ _ _ _ true hat3 h1)
   clear h1 h2 hN1 hN hat3
   go_wp2_with (go_at_call 22;refine HX.out.mono ?_;rintro e w4 ⟨v4,rfl,hat4⟩;have HD:=Lib.hid (HC.out _ hat4))
   go_at_call 15
   refine HD.out.mono ?_
   exact lossK
  have b0:(z == 0)=false:=beq_eq_false_iff_ne.2 z0
  by_cases z1:z=1
  ·subst z1
   obtain⟨N,x1,y,hN1,hN,h1,h2⟩:=HALL.out (.type) (.inr (.inl rfl))
   have HC:Hid (∀ w4,Hid (CAt ⟨allOf w1,0⟩ w4 b x1)→Calls Tryz.prog 15 #[.pointer (some ⟨b,0,none⟩)] w4 (DoneL s.size T w1)):=Lib.hid (fun w4 h=>done_law HL.out h1 h2 h)
   have HX:=Lib.hid ((prog_all N (by omega)).type _ _ _ _ _ hat3 h1)
   clear h1 h2 hN1 hN hat3
   go_wp2_with (go_at_call 23;refine HX.out.mono ?_;rintro e w4 ⟨v4,rfl,hat4⟩;have HD:=Lib.hid (HC.out _ hat4))
   go_at_call 15
   refine HD.out.mono ?_
   exact lossK
  have b1:(z == 1)=false:=beq_eq_false_iff_ne.2 z1
  by_cases z2:z=2
  ·subst z2
   obtain⟨N,x1,y,hN1,hN,h1,h2⟩:=HALL.out (.sig) (.inr (.inr (.inl rfl)))
   have HC:Hid (∀ w4,Hid (CAt ⟨allOf w1,0⟩ w4 b x1)→Calls Tryz.prog 15 #[.pointer (some ⟨b,0,none⟩)] w4 (DoneL s.size T w1)):=Lib.hid (fun w4 h=>done_law HL.out h1 h2 h)
   have HX:=Lib.hid ((prog_all N (by omega)).sig _ _ _ _ _ hat3 h1)
   clear h1 h2 hN1 hN hat3
   go_wp2_with (go_at_call 24;refine HX.out.mono ?_;rintro e w4 ⟨v4,rfl,hat4⟩;have HD:=Lib.hid (HC.out _ hat4))
   go_at_call 15
   refine HD.out.mono ?_
   exact lossK
  have b2:(z == 2)=false:=beq_eq_false_iff_ne.2 z2
  by_cases z3:z=3
  ·subst z3
   obtain⟨N,x1,y,hN1,hN,h1,h2⟩:=HALL.out (.tparams) (.inr (.inr (.inr (.inl rfl))))
   have HC:Hid (∀ w4,Hid (CAt ⟨allOf w1,0⟩ w4 b x1)→Calls Tryz.prog 15 #[.pointer (some ⟨b,0,none⟩)] w4 (DoneL s.size T w1)):=Lib.hid (fun w4 h=>done_law HL.out h1 h2 h)
   obtain⟨n,rfl⟩:∃ n,N=n+1:=⟨N - 1,by omega⟩
   have HX:=Lib.hid (prog_TParams n (by omega) _ _ _ _ _ hat3 h1)
   clear h1 h2 hN1 hN hat3
   go_wp2_with (go_at_call 25;refine HX.out.mono ?_;rintro e w4 ⟨v4,rfl,hat4⟩;have HD:=Lib.hid (HC.out _ hat4))
   go_at_call 15
   refine HD.out.mono ?_
   exact lossK
  have b3:(z == 3)=false:=beq_eq_false_iff_ne.2 z3
  obtain⟨N,x1,y,hN1,hN,h1,h2⟩:=HALL.out (.list false) (.inr (.inr (.inr (.inr rfl))))
  have HC:Hid (∀ w4,Hid (CAt ⟨allOf w1,0⟩ w4 b x1)→Calls Tryz.prog 15 #[.pointer (some ⟨b,0,none⟩)] w4 (DoneL s.size T w1)):=Lib.hid (fun w4 h=>done_law HL.out h1 h2 h)
  obtain⟨n,rfl⟩:∃ n,N=n+1:=⟨N - 1,by omega⟩
  have HX:=Lib.hid (prog_List n (by omega) _ _ _ _ _ false hat3 h1)
  clear h1 h2 hN1 hN hat3
  go_wp2_with (go_at_call 26;refine HX.out.mono ?_;rintro e w4 ⟨v4,rfl,hat4⟩;have HD:=Lib.hid (HC.out _ hat4))
  go_at_call 15
  refine HD.out.mono ?_
  exact lossK
open Go.ChangeShapes Go.WideShapes Go.ChangeAt Go.RowKit
open Go.ChangeMaps (open_string shut_string)
theorem exprLossless_contract (H:Type) (enc:TypeId × Value→H) (W:World) (base:Nat) (args:Array Value) (ds gs:List (DataW H)) (before:List MemPlace)
  (hval:∀ (j:Nat) t v,Tryz.f6.params[j]? = some t→args[j]? = some v→Value.okWide Tryz.prog W .any base t v)
  (hW:DataW.Whole enc Tryz.prog Tryz.f6.params.toList Rows.exprLosslessSpec.vars false W args.toList ds gs before) (hsz:(DataW.weightsEach Tryz.prog Tryz.f6.params.toList ds).all (· ≤ reachBytes)=true) :
  Calls Tryz.prog 6 args W fun e W'=>∃ v,e=.returned v∧Rows.exprLosslessSpec.post enc Tryz.prog Tryz.f6 false true false false W args v W':=by
 have hW':=hW
 obtain⟨p,q,hA0,hV,rfl,hfz,hnd⟩:=hW
 have hA:DataW.TrodAll enc Tryz.prog W 0 (fun _=>true) true Tryz.f6.params.toList args.toList ds p:=hA0
 rw[Tryz.params6] at hA hval hsz
 obtain⟨v0,vs0,d0,ds0,p0,q0,hargs,rfl,rfl,h0,r0⟩:=trodAll_cons hA
 obtain⟨v1,vs1,d1,ds1,p1,q1,rfl,rfl,rfl,h1,r1⟩:=trodAll_cons r0
 obtain⟨rfl,rfl,rfl⟩:=trodAll_nil r1
 obtain rfl:args=#[v0,v1]:=by cases args;simp_all
 obtain⟨rfl,rfl⟩:=trodVars_none hV
 have kk0:=hval 0 9 v0 (by simp) (by simp)
 have kk1:=hval 1 3 v1 (by simp) (by simp)
 have hs:(((d0:DataW H).weights Tryz.prog 9 ++ ((d1:DataW H).weights Tryz.prog 3 ++ [])):List Nat).all (· ≤ reachBytes)=true:=hsz
 simp only[List.all_append,Bool.and_eq_true] at hs
 have l0:Light 9 d0:=by unfold Light;exact hs.1
 obtain⟨s0,rfl,rfl,rfl,m0⟩:=open_string Tryz.underlying9 kk0 h0
 have z0:s0.size≤140737488351232:=string_light l0
 obtain⟨x1,rfl,rfl,rfl,w1⟩:=open_int Tryz.underlying3 kk1 h1
 clear hA0
 simp only[List.append_nil] at hW'
 refine(lossless_law s0 x1 W z0).mono fun e W' ⟨he,bel⟩=>?_
 subst he
 exact⟨_,rfl,_,_,_,[],_,[],hW',trodAll_cons_mk (shut_bool Tryz.underlying4 _) trodAll_mk0,(trodAll_cons_mk (shut_string Tryz.underlying9 m0) (trodAll_cons_mk (shut_int Tryz.underlying3 w1) trodAll_mk0)),rfl,bel.frame _,fun h=>by cases h⟩
theorem exprLossless_reads (os:Os) {H:Type} (enc:TypeId × Value→H):∃ places,DataW.whole enc Tryz.prog ((World.holding Tryz.prog os ⟨#[],#[],[]⟩).forCall (fun _ _=>0) ⟨#[],#[.string .empty,.int .i64 0],[]⟩).memory Tryz.f6.params.toList Rows.exprLosslessSpec.vars false #[.string .empty,.int .i64 0].toList 8=some ([.lit (.string []),.lit (.int .i64 0)],[],places):=
 ⟨[],by as_aux_lemma=>kernel_rfl⟩
theorem exprLossless_laid (os:Os):laidMet Tryz.prog Rows.exprLosslessRow.laid ((World.holding Tryz.prog os ⟨#[],#[],[]⟩).forCall (fun _ _=>0) ⟨#[],#[.string .empty,.int .i64 0],[]⟩).memory:=
 laidMet_of_run' 8 (by as_aux_lemma=>kernel_rfl) (by as_aux_lemma=>kernel_rfl)
theorem exprLossless_lifted (os:Os) (started:os.Started) (H:Type) (enc:TypeId × Value→H) (F:Stop.Interp) :
  ReturnsInHanded {} Tryz.checked os 6 .any ((OpenSpec.ofChange Rows.exprLosslessSpec).preRow enc Tryz.prog Tryz.f6 Rows.exprLosslessRow.domain false Rows.exprLosslessRow.laid) (((OpenSpec.ofChange Rows.exprLosslessSpec).at F).post enc Tryz.prog Tryz.f6 false true false false):=by
 obtain⟨places,hx⟩:=exprLossless_reads os enc
 refine returnsInHanded_of_row (C:=Tryz.checked) (s:=OpenSpec.ofChange Rows.exprLosslessSpec) own started (by as_aux_lemma=>kernel_rfl) Tryz.func6
  (witness_row_at (enc:=enc) (C:=Tryz.checked) false (World.holding Tryz.prog os ⟨#[],#[],[]⟩) #[.string .empty,.int .i64 0] rfl (by as_aux_lemma=>kernel_rfl) (by as_aux_lemma=>kernel_rfl) (by as_aux_lemma=>kernel_rfl)
   (OpenSpec.preRow_of_cond 8 hx (by as_aux_lemma=>kernel_rfl) (fun k hk=>by cases hk) (by as_aux_lemma=>kernel_rfl) (exprLossless_laid os))) ?_
 intro W base args ds gs before hval hW _ hcond hsz _ _ _
 have hgs:gs=[]:=by
  obtain⟨p,q,_,hV,_⟩:=hW
  exact(trodVars_none hV).1
 have hsz':(DataW.weightsEach Tryz.prog Tryz.f6.params.toList ds).all (· ≤ reachBytes)=true:=by
  have h0:(DataW.weightsEach Tryz.prog (Tryz.f6.params.toList ++ []) (ds ++ gs)).all (· ≤ reachBytes)=true:=hsz
  rwa [hgs,List.append_nil,List.append_nil] at h0
 exact exprLossless_contract H enc W base args ds gs before hval hW hsz'
theorem exprLossless_holds:Rows.ExprLosslessSaid:=
 OpenClaim.holds_of_cond 6 Tryz.f6 rfl rfl rfl rfl rfl rfl rfl ⟨rfl,rfl,rfl,rfl,rfl⟩ rfl rfl rfl rfl rfl (by as_aux_lemma=>kernel_rfl) Tryz.func6 (by as_aux_lemma=>kernel_rfl)
  (of_decide_eq_true (by as_aux_lemma=>kernel_rfl)) (by unfold Func.isWrapper;first|(rw[if_pos (by decide +kernel)];as_aux_lemma=>kernel_rfl)|(rw[if_neg (by decide +kernel)];exact⟨rfl,rfl⟩))
  (fun os started H enc _ F=>by rw[OpenClaim.pre_eq_preRow];exact exprLossless_lifted os started H enc F)
end Go.Proofs.YtcekbbkidipbnaaGreat.rd
