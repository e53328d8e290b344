/-
  Texts put together: Gb, Gc, Gd, Ge, Gf.
-/
import Derived.Test.YtcekbbkidipbnaaGreatL2
set_option maxRecDepth 100000
set_option maxHeartbeats 8000000
namespace Go.Proofs.YtcekbbkidipbnaaGreat.rd
open Go.RowKit
structure Bn where
 (k i j:Int) (o:Option Addr) (n c:Nat) (h:Int)
def Bn.rn (x:Bn):Rn:=⟨x.k,x.i,x.j,x.o,x.n,x.c⟩
def bt:Kd Bn where
 c t:=[.int .i64 t.k,.int .i64 t.i,.int .i64 t.j,.slice t.o t.n t.c,.int .i64 t.h]
 k:=5
 e:=73
 t:=59
 z:=.agg #[.int .i64 0,.int .i64 0,.int .i64 0,.slice none 0 0,.int .i64 0]
 bytes:=56
 len _:=rfl
 one x u hu:=by simp only[List.mem_cons,List.not_mem_nil,or_false] at hu;rcases hu with rfl|rfl|rfl|rfl|rfl <;> rfl
 ht:=Tryz.underlying59
 hi:=by kernel_rfl
 hz:=rfl
 hk:=by decide
 ht':=by kernel_rfl
 hs _:=by kernel_rfl
theorem cells_bt {w:World} {g off:Nat} {T:List Bn} (h:Cells bt w g off T) (n:Nat) (hn:n<T.length):w.cell? ⟨g,off+n*5,none⟩=some (.int .i64 T[n].k)∧w.cell? ⟨g,off+n*5+1,none⟩=some (.int .i64 T[n].i)∧w.cell? ⟨g,off+n*5+2,none⟩=some (.int .i64 T[n].j)∧w.cell? ⟨g,off+n*5+3,none⟩=some (.slice T[n].o T[n].n T[n].c)∧w.cell? ⟨g,off+n*5+4,none⟩=some (.int .i64 T[n].h):=
 ⟨h _ _ (flat_at bt T n hn 0 (by decide)),h _ _ (flat_at bt T n hn 1 (by decide)),h _ _ (flat_at bt T n hn 2 (by decide)),h _ _ (flat_at bt T n hn 3 (by decide)),h _ _ (flat_at bt T n hn 4 (by decide))⟩
def sigP:Nat→List Tk→List Int
 |_,[]=>[]
 |k,t::r=>if sig t.k then(k:Int)::sigP (k+1) r else sigP (k+1) r
theorem sigP_append:∀ (a:List Tk) (k:Nat) (b:List Tk),sigP k (a ++ b)=sigP k a ++ sigP (k+a.length) b
 |[],k,b=>rfl
 |t::a,k,b=>by
  rw[List.cons_append,sigP,sigP,sigP_append a (k+1) b,List.length_cons,show k+1+a.length=k+(a.length+1) by omega]
  split <;> rfl
theorem sigP_at:∀ (l:List Tk) (k n:Nat),(sigP k l)[n]? = if nxt n l<l.length then some ((k+nxt n l:Nat):Int) else none
 |[],k,n=>by simp [sigP,nxt]
 |t::r,k,n=>by
  rw[sigP,nxt,List.length_cons]
  cases hs:sig t.k with
  |true=>
   rw[if_pos rfl,if_pos rfl]
   cases n with
   |zero=>simp
   |succ n=>
    rw[List.getElem?_cons_succ,sigP_at r (k+1) n]
    have e:(if n+1=0 then 0 else 1+nxt (n+1 - 1) r)=1+nxt n r:=by rw[if_neg (by omega),Nat.add_sub_cancel]
    rw[e]
    by_cases h:nxt n r<r.length
    ·rw[if_pos h,if_pos (show 1+nxt n r<r.length+1 by omega),show k+1+nxt n r=k+(1+nxt n r) by omega]
    ·rw[if_neg h,if_neg (show ¬ (1+nxt n r<r.length+1) by omega)]
  |false=>
   have e2:¬ (false=true):=by simp
   rw[if_neg e2,if_neg e2,sigP_at r (k+1) n]
   by_cases h:nxt n r<r.length
   ·rw[if_pos h,if_pos (show 1+nxt n r<r.length+1 by omega),show k+1+nxt n r=k+(1+nxt n r) by omega]
   ·rw[if_neg h,if_neg (show ¬ (1+nxt n r<r.length+1) by omega)]
theorem sigP_le:∀ (l:List Tk) (k:Nat),(sigP k l).length≤l.length
 |[],k=>by simp [sigP]
 |t::r,k=>by
  rw[sigP,List.length_cons]
  have:=sigP_le r (k+1)
  split
  ·rw[List.length_cons];omega
  ·omega
def cnt (L:List Tk) (a:Nat):Nat:=(sigP 0 (L.take a)).length
theorem sigP_next (L:List Tk) (a n:Nat) (ha:a≤L.length):(sigP 0 L)[cnt L a+n]? = if a+nxt n (L.drop a)<L.length then some ((a+nxt n (L.drop a):Nat):Int) else none:=by
 have e:sigP 0 L=sigP 0 (L.take a) ++ sigP a (L.drop a):=by
  have:=sigP_append (L.take a) 0 (L.drop a)
  rw[List.take_append_drop,List.length_take,Nat.min_eq_left ha,Nat.zero_add] at this
  exact this
 rw[e]
 unfold cnt
 rw[List.getElem?_append_right (by omega),Nat.add_sub_cancel_left,sigP_at,List.length_drop]
 by_cases h:nxt n (L.drop a)<L.length - a
 ·rw[if_pos h,if_pos (by omega)]
 ·rw[if_neg h,if_neg (by omega)]
theorem cnt_le' (L:List Tk) (a:Nat):cnt L a≤(sigP 0 L).length:=by
 have:=sigP_append (L.take a) 0 (L.drop a)
 rw[List.take_append_drop] at this
 rw[this,List.length_append]
 unfold cnt
 omega
theorem cnt_succ (L:List Tk) (a:Nat) (ha:a<L.length):cnt L (a+1)=cnt L a+(if sig L[a].k then 1 else 0):=by
 unfold cnt
 rw[List.take_add_one,List.getElem?_eq_getElem ha,sigP_append]
 simp only[Option.toList_some,sigP,List.length_append]
 split <;> simp
theorem lastTo_cnt (L:List Tk):∀ a,a≤L.length→(lastTo L a=none↔cnt L a=0)∧∀ x,lastTo L a=some x→∃ p,(sigP 0 L)[cnt L a - 1]? = some ((p:Nat):Int)∧0<cnt L a∧∃ h:p<L.length,L[p].j=x
 |0,_=>⟨⟨fun _=>by simp [cnt,sigP],fun _=>rfl⟩,fun x h=>by cases h⟩
 |a+1,ha=>by
  have hlt:a<L.length:=by omega
  obtain⟨h1,h2⟩:=lastTo_cnt L a (by omega)
  rw[lastTo,List.getElem?_eq_getElem hlt,cnt_succ L a hlt]
  simp only[]
  cases hs:sig L[a].k with
  |true=>
   refine⟨⟨fun h=>(by cases h),fun h=>(by simp at h)⟩,fun x hx=>?_⟩
   simp only[if_true,Option.some.injEq] at hx
   refine⟨a,?_,by simp,hlt,hx⟩
   have:=sigP_next L a 0 (by omega)
   rw[List.drop_eq_getElem_cons hlt,nxt,hs,if_pos rfl,if_pos rfl,if_pos (by omega)] at this
   simpa using this
  |false=>
   simp only[Bool.false_eq_true,if_false,Nat.add_zero]
   exact⟨h1,h2⟩
structure Rc where
 L:List Tk
 at':Nat
 R:List Bn
 op:Nat
 (d0 d1 d2:Int)
 failed:Bool
structure RcAt (W:World) (b:Nat) (vL vS vR:Value) (σ:Rc):Prop where
 cells:W.heap[b]? = some (.cells #[vL,vS,.int .i64 (σ.at':Int),.int .i64 (cnt σ.L σ.at':Int),vR,.int .i64 (σ.op:Int),.int .i64 σ.d0,.int .i64 σ.d1,.int .i64 σ.d2,.bool σ.failed] 61 (0,0))
 toks:Mine tk W 0 vL σ.L
 sigs:Mine it W 0 vS (sigP 0 σ.L)
 row:Mine bt W 0 vR σ.R
 read:σ.at'≤σ.L.length
 few:σ.L.length≤1099511627776
theorem ten_at {w:World} {b:Nat} {x0 x1 x2 x3 x4 x5 x6 x7 x8 x9:Value} {e:TypeId} (h:w.heap[b]? = some (.cells #[x0,x1,x2,x3,x4,x5,x6,x7,x8,x9] e (0,0))) :
  (w.cell? ⟨b,0,none⟩=some x0∧w.cell? ⟨b,1,none⟩=some x1∧w.cell? ⟨b,2,none⟩=some x2∧w.cell? ⟨b,3,none⟩=some x3∧w.cell? ⟨b,4,none⟩=some x4∧w.cell? ⟨b,5,none⟩=some x5∧w.cell? ⟨b,6,none⟩=some x6∧w.cell? ⟨b,7,none⟩=some x7∧w.cell? ⟨b,8,none⟩=some x8∧w.cell? ⟨b,9,none⟩=some x9)∧∀ j,w.frozen? ⟨b,j,none⟩=false:=
 ⟨⟨by rw[cell_of_row w b 0 _ _ _ h];rfl,by rw[cell_of_row w b 1 _ _ _ h];rfl,by rw[cell_of_row w b 2 _ _ _ h];rfl,by rw[cell_of_row w b 3 _ _ _ h];rfl,by rw[cell_of_row w b 4 _ _ _ h];rfl,by rw[cell_of_row w b 5 _ _ _ h];rfl,by rw[cell_of_row w b 6 _ _ _ h];rfl,by rw[cell_of_row w b 7 _ _ _ h];rfl,by rw[cell_of_row w b 8 _ _ _ h];rfl,by rw[cell_of_row w b 9 _ _ _ h];rfl⟩,fun j=>frozen_of_row w b j _ _ h⟩
def Rc.next (σ:Rc) (n:Nat):Nat:=σ.at'+nxt n (σ.L.drop σ.at')
def Rc.ahead (σ:Rc) (n:Nat):Int:=if σ.failed then 0 else match σ.L[σ.next n]? with|some t=>t.k|none=>0
def Rc.here (σ:Rc):Int:=match lastTo σ.L σ.at' with
 |some x=>x
 |none=>match σ.L[σ.next 0]? with
  |some t=>t.i
  |none=>match σ.L[0]? with
   |some t=>t.i
   |none=>0
theorem isTrivia_any (z:Int) (w:World):Calls Tryz.prog 30 #[.int .i64 z] w fun e w'=>e=.returned (.bool (!sig z))∧w=w':=by
 have h:decide (z<10) = !sig z:=by
  unfold sig
  rw[← decide_not,decide_eq_decide]
  omega
 go_enter Tryz.func30,Tryz.ntmps30
 rw[← h]
 clear h
 go_wp2_with fail
 go_ret
 exact⟨rfl,rfl⟩
theorem cmark_any {W:World} {b:Nat} {vL vS vR:Value} {σ:Rc} (h:RcAt W b vL vS vR σ) :
  Calls Tryz.prog 61 #[.pointer (some ⟨b,0,none⟩)] W fun e w'=>e=.returned (.int .i64 (σ.R.length:Int))∧W=w':=by
 obtain⟨⟨_,_,_,_,b4,_⟩,_⟩:=ten_at h.cells
 obtain⟨g,o,cap,hv,_,_⟩:=h.row.shape
 subst hv
 clear h
 go_enter Tryz.func61,Tryz.ntmps61
 go_wp2_with fail
 go_ret
 exact⟨rfl,rfl⟩
theorem cahead_any {W:World} {b:Nat} {vL vS vR:Value} {σ:Rc} (h:RcAt W b vL vS vR σ) (n:Int) (hn:n≤4611686018427387904) :
  Calls Tryz.prog 59 #[.pointer (some ⟨b,0,none⟩),.int .i64 n] W fun e w'=>e=.returned (.int .i64 (if n<0 then 0 else σ.ahead n.toNat))∧Below W.heap.size W w':=by
 obtain⟨⟨b0,b1,_,b3,_,_,_,_,_,b9⟩,_⟩:=ten_at h.cells
 have hcl:=cnt_le' σ.L σ.at'
 have hsl:=sigP_le σ.L 0
 have hfew:=h.few
 obtain⟨gS,oS,cS,hvS,hoS,_⟩:=h.sigs.shape
 obtain⟨gL,oL,cL,hvL,hoL,_⟩:=h.toks.shape
 subst hvS
 subst hvL
 have HA:Hid (σ.ahead n.toNat=if σ.failed then 0 else match σ.L[σ.next n.toNat]? with|some t=>t.k|none=>0):=Lib.hid rfl
 have HM:=Lib.hid h.toks
 have HMS:=Lib.hid h.sigs
 have HSP:=Lib.hid (sigP_next σ.L σ.at' n.toNat h.read)
 have HNX:Hid (σ.next n.toNat=σ.at'+nxt n.toNat (σ.L.drop σ.at')):=Lib.hid rfl
 have HOS:=Lib.hid hoS
 have HOL:=Lib.hid hoL
 have hRd:Hid (RcAt W b _ _ vR σ):=Lib.hid h
 clear h hoS hoL
 obtain⟨res,hres⟩:∃ res,(if n<0 then 0 else σ.ahead n.toNat)=res:=⟨_,rfl⟩
 rw[hres]
 have HRES:=Lib.hid hres
 clear hres
 obtain⟨k,hk⟩:∃ k,cnt σ.L σ.at'=k:=⟨_,rfl⟩
 obtain⟨ls,hls⟩:∃ ls,(sigP 0 σ.L).length=ls:=⟨_,rfl⟩
 obtain⟨len,hlen⟩:∃ len,σ.L.length=len:=⟨_,rfl⟩
 have HLS:=Lib.hid hls
 have HLN:=Lib.hid hlen
 rw[hk] at b3 hcl HSP
 rw[hls] at b1 hcl hsl
 rw[hlen] at b0 hsl hfew
 clear hk hls hlen
 cases hf:σ.failed with
 |true=>
  rw[hf] at b9 HA
  rw[if_pos rfl] at HA
  have hr:res=0:=by rw[← HRES.out,HA.out];split <;> rfl
  clear hf
  subst hr
  go_enter Tryz.func59,Tryz.ntmps59
  go_wp2_with fail
  go_region
  all_goals(try go_wp2_with fail)
  go_ret
  exact⟨rfl,(Below.refl _ _).drew⟩
 |false=>
  rw[hf] at b9 HA
  rw[if_neg (by simp)] at HA
  clear hf
  by_cases hneg:n<0
  ·have hr:res=0:=by rw[← HRES.out,if_pos hneg]
   subst hr
   have hd:decide (n<0)=true:=decide_eq_true hneg
   go_enter Tryz.func59,Tryz.ntmps59
   go_wp2_with fail
   go_region
   all_goals(try go_wp2_with fail)
   go_ret
   exact⟨rfl,(Below.refl _ _).drew⟩
  ·obtain⟨m,hm⟩:∃ m:Nat,n=(m:Int):=⟨n.toNat,by omega⟩
   subst hm
   rw[Int.toNat_natCast] at HA HSP HNX HRES
   rw[if_neg hneg] at HRES
   have hd:decide ((m:Int)<0)=false:=decide_eq_false hneg
   clear hneg
   by_cases hge:ls≤k+m
   ·have hr:res=0:=by
     have h1:=HSP.out
     rw[List.getElem?_eq_none (by rw[HLS.out];exact hge)] at h1
     rw[← HRES.out,HA.out]
     have h2:¬ (σ.at'+nxt m (σ.L.drop σ.at')<σ.L.length):=fun h=>by rw[if_pos h] at h1;cases h1
     rw[List.getElem?_eq_none (by rw[HNX.out];omega)]
    subst hr
    have hd2:decide ((ls:Int) - (k:Int)≤(m:Int))=true:=decide_eq_true (by omega)
    go_enter Tryz.func59,Tryz.ntmps59
    go_wp2_with fail
    go_region
    all_goals(try go_wp2_with fail)
    go_ret
    exact⟨rfl,(Below.refl _ _).drew⟩
   ·have hlt:k+m<(sigP 0 σ.L).length:=by rw[HLS.out];omega
    have h1:=HSP.out
    rw[List.getElem?_eq_getElem hlt] at h1
    have h2:σ.at'+nxt m (σ.L.drop σ.at')<σ.L.length:=by
     by_cases h:σ.at'+nxt m (σ.L.drop σ.at')<σ.L.length
     ·exact h
     ·rw[if_neg h] at h1;cases h1
    rw[if_pos h2,Option.some.injEq] at h1
    have hoS:=HOS.out (by intro e;rw[e] at hlt;simp at hlt)
    have hoL:=HOL.out (by intro e;rw[e] at h2;simp at h2)
    subst hoS
    subst hoL
    have c0:=cells_it HMS.out.cells (k+m) hlt
    rw[h1,Nat.zero_add] at c0
    rw[← HNX.out] at h2 c0
    obtain⟨c1,_,_⟩:=cells_tk HM.out.cells (σ.next m) h2
    rw[Nat.zero_add] at c1
    have hr:σ.L[σ.next m].k=res:=by rw[← HRES.out,HA.out,List.getElem?_eq_getElem h2]
    rw[hr] at c1
    obtain⟨p,hp⟩:∃ p,σ.next m=p:=⟨_,rfl⟩
    rw[HLN.out] at h2
    rw[hp] at c0 c1 h2
    clear h1 hr hp hlt
    have hd2:decide ((ls:Int) - (k:Int)≤(m:Int))=false:=decide_eq_false (by omega)
    have hq0:(0:Int)≤(k:Int)+(m:Int):=by omega
    have hq1:(k:Int)+(m:Int)<(ls:Int):=by omega
    have hq2:((k:Int)+(m:Int)).toNat=k+m:=by omega
    have hq3:(0:Int)≤(p:Int):=by omega
    have hq4:(p:Int)<(len:Int):=by omega
    go_enter Tryz.func59,Tryz.ntmps59
    go_wp2_with fail
    go_region
    all_goals(try go_wp2_with fail)
    go_region
    all_goals(try go_wp2_with fail)
    go_ret
    exact⟨rfl,(Below.refl _ _).drew.drew⟩
open Go.RowKit
theorem chere_any {W:World} {b:Nat} {vL vS vR:Value} {σ:Rc} (h:RcAt W b vL vS vR σ) :
  Calls Tryz.prog 88 #[.pointer (some ⟨b,0,none⟩)] W fun e w'=>e=.returned (.int .i64 σ.here)∧Below W.heap.size W w':=by
 obtain⟨⟨b0,b1,_,b3,_,_,_,_,_,b9⟩,_⟩:=ten_at h.cells
 have hcl:=cnt_le' σ.L σ.at'
 have hsl:=sigP_le σ.L 0
 have hfew:=h.few
 obtain⟨gS,oS,cS,hvS,hoS,_⟩:=h.sigs.shape
 obtain⟨gL,oL,cL,hvL,hoL,_⟩:=h.toks.shape
 subst hvS
 subst hvL
 have HH:Hid (σ.here=match lastTo σ.L σ.at' with|some x=>x|none=>match σ.L[σ.next 0]? with|some t=>t.i|none=>match σ.L[0]? with|some t=>t.i|none=>0):=Lib.hid rfl
 have HM:=Lib.hid h.toks
 have HMS:=Lib.hid h.sigs
 have HSP:=Lib.hid (sigP_next σ.L σ.at' 0 h.read)
 have HLT:=Lib.hid (lastTo_cnt σ.L σ.at' h.read)
 have HNX:Hid (σ.next 0=σ.at'+nxt 0 (σ.L.drop σ.at')):=Lib.hid rfl
 have HOS:=Lib.hid hoS
 have HOL:=Lib.hid hoL
 clear h hoS hoL
 obtain⟨res,hres⟩:∃ res,σ.here=res:=⟨_,rfl⟩
 rw[hres] at HH ⊢
 clear hres
 obtain⟨k,hk⟩:∃ k,cnt σ.L σ.at'=k:=⟨_,rfl⟩
 obtain⟨ls,hls⟩:∃ ls,(sigP 0 σ.L).length=ls:=⟨_,rfl⟩
 obtain⟨len,hlen⟩:∃ len,σ.L.length=len:=⟨_,rfl⟩
 have HLS:=Lib.hid hls
 have HLN:=Lib.hid hlen
 rw[hk] at b3 hcl HSP HLT
 rw[hls] at b1 hcl hsl
 rw[hlen] at b0 hsl hfew
 clear hk hls hlen
 rcases Nat.eq_zero_or_pos k with hk0|hk0
 ·subst hk0
  have hl0:=HLT.out.1.2 rfl
  rw[hl0] at HH
  simp only[] at HH
  clear hl0
  by_cases hs:0<ls
  ·have hlt:0<(sigP 0 σ.L).length:=by rw[HLS.out];exact hs
   have h1:=HSP.out
   rw[Nat.zero_add,List.getElem?_eq_getElem hlt] at h1
   have h2:σ.at'+nxt 0 (σ.L.drop σ.at')<σ.L.length:=by
    by_cases h:σ.at'+nxt 0 (σ.L.drop σ.at')<σ.L.length
    ·exact h
    ·rw[if_neg h] at h1;cases h1
   rw[if_pos h2,Option.some.injEq] at h1
   have hoS:=HOS.out (by intro e;rw[e] at hlt;simp at hlt)
   have hoL:=HOL.out (by intro e;rw[e] at h2;simp at h2)
   subst hoS
   subst hoL
   have c0:=cells_it HMS.out.cells 0 hlt
   rw[h1] at c0
   rw[← HNX.out] at h2 c0
   obtain⟨_,c1,_⟩:=cells_tk HM.out.cells (σ.next 0) h2
   rw[Nat.zero_add] at c1
   have hr:σ.L[σ.next 0].i=res:=by rw[HH.out,List.getElem?_eq_getElem h2]
   rw[hr] at c1
   obtain⟨p,hp⟩:∃ p,σ.next 0=p:=⟨_,rfl⟩
   rw[HLN.out] at h2
   rw[hp] at c0 c1 h2
   have c0':W.cell? ⟨gS,0,none⟩=some (.int .i64 (p:Int)):=c0
   clear h1 hr hp hlt c0
   have hd:decide (0<(ls:Int))=true:=decide_eq_true (by omega)
   have hd':decide (0<ls)=true:=decide_eq_true hs
   have hq3:(0:Int)≤(p:Int):=by omega
   have hq4:(p:Int)<(len:Int):=by omega
   go_enter Tryz.func88,Tryz.ntmps88
   go_wp2_with fail
   go_region
   all_goals(try go_wp2_with fail)
   go_ret
   exact⟨rfl,(Below.refl _ _).drew⟩
  ·obtain rfl:ls=0:=by omega
   have h3:σ.L[σ.next 0]? = none:=by
    have h1:=HSP.out
    rw[List.getElem?_eq_none (by rw[HLS.out];omega)] at h1
    have h2:¬ (σ.at'+nxt 0 (σ.L.drop σ.at')<σ.L.length):=fun h=>by rw[if_pos h] at h1;cases h1
    exact List.getElem?_eq_none (by rw[HNX.out];omega)
   rw[h3] at HH
   simp only[] at HH
   by_cases hl:0<len
   ·have h2:0<σ.L.length:=by rw[HLN.out];exact hl
    have hoL:=HOL.out (by intro e;rw[e] at h2;simp at h2)
    subst hoL
    obtain⟨_,c1,_⟩:=cells_tk HM.out.cells 0 h2
    have hr:σ.L[0].i=res:=by rw[HH.out,List.getElem?_eq_getElem h2]
    rw[hr] at c1
    have c1':W.cell? ⟨gL,1,none⟩=some (.int .i64 res):=c1
    have hd:decide (0<(len:Int))=true:=decide_eq_true (by omega)
    have hd':decide (0<len)=true:=decide_eq_true hl
    clear hr h3 c1
    go_enter Tryz.func88,Tryz.ntmps88
    go_wp2_with fail
    go_ret
    exact⟨rfl,Below.refl _ _⟩
   ·obtain rfl:len=0:=by omega
    have hr:res=0:=by rw[HH.out,List.getElem?_eq_none (by rw[HLN.out];exact Nat.le_refl _)]
    subst hr
    clear h3
    go_enter Tryz.func88,Tryz.ntmps88
    go_wp2_with fail
    go_ret
    exact⟨rfl,Below.refl _ _⟩
 ·cases hl:lastTo σ.L σ.at' with
  |none=>exact absurd (HLT.out.1.1 hl) (by omega)
  |some x=>
   rw[hl] at HH
   simp only[] at HH
   obtain⟨p,h1,_,h2,h3⟩:=HLT.out.2 x hl
   have hr:=HH.out
   subst hr
   have hlt:k - 1<(sigP 0 σ.L).length:=by rw[HLS.out];omega
   have hoS:=HOS.out (by intro e;rw[e] at hlt;simp at hlt)
   have hoL:=HOL.out (by intro e;rw[e] at h2;simp at h2)
   subst hoS
   subst hoL
   have c0:=cells_it HMS.out.cells (k - 1) hlt
   rw[List.getElem?_eq_getElem hlt,Option.some.injEq] at h1
   rw[h1,Nat.zero_add] at c0
   obtain⟨_,_,c1⟩:=cells_tk HM.out.cells p h2
   rw[Nat.zero_add,h3] at c1
   rw[HLN.out] at h2
   clear h1 h3 hlt hl
   have hd:decide (0<(k:Int))=true:=decide_eq_true (by omega)
   have hd':decide (0<k)=true:=decide_eq_true hk0
   have hq0:(0:Int)≤(k:Int) - 1:=by omega
   have hq1:(k:Int) - 1<(ls:Int):=by omega
   have hq2:((k:Int) - 1).toNat=k - 1:=by omega
   have hq3:(0:Int)≤(p:Int):=by omega
   have hq4:(p:Int)<(len:Int):=by omega
   go_enter Tryz.func88,Tryz.ntmps88
   go_wp2_with fail
   go_region
   all_goals(try go_wp2_with fail)
   go_ret
   exact⟨rfl,(Below.refl _ _).drew⟩
theorem RcAt.below {W W':World} {b:Nat} {vL vS vR:Value} {σ:Rc} (h:RcAt W b vL vS vR σ) (hb:Below W.heap.size W W'):RcAt W' b vL vS vR σ:=
 ⟨(hb.block b (Array.getElem?_eq_some_iff.1 h.cells).1).trans h.cells,h.toks.below hb,h.sigs.below hb,h.row.below hb,h.read,h.few⟩
theorem RcAt.put {W W':World} {b:Nat} {vL vS vR:Value} {σ σ':Rc} (h:RcAt W b vL vS vR σ) (hs:∀ k,k<W.heap.size→k≠b→W'.heap[k]? = W.heap[k]?)
  (hc:W'.heap[b]? = some (.cells #[vL,vS,.int .i64 (σ'.at':Int),.int .i64 (cnt σ'.L σ'.at':Int),vR,.int .i64 (σ'.op:Int),.int .i64 σ'.d0,.int .i64 σ'.d1,.int .i64 σ'.d2,.bool σ'.failed] 61 (0,0))) (hL:σ'.L=σ.L) (hR:σ'.R=σ.R) (ha:σ'.at'≤σ.L.length):RcAt W' b vL vS vR σ':=
 ⟨hc,by rw[hL];exact h.toks.off h.cells (by decide) hs,by rw[hL];exact h.sigs.off h.cells (by decide) hs,by rw[hR];exact h.row.off h.cells (by decide) hs,by rw[hL];exact ha,by rw[hL];exact h.few⟩
def CSteps (W:World) (b:Nat) (vL vS vR:Value) (σ':Rc) (e:Ending) (W':World):Prop:=∃ v vR',e=.returned v∧RcAt W' b vL vS vR' σ'∧Nx W b vR (.slice none 0 0) W' vR' (.slice none 0 0)
def CStepsB (t:Bool) (W:World) (b:Nat) (vL vS vR:Value) (σ':Rc) (e:Ending) (W':World):Prop:=∃ vR',e=.returned (.bool t)∧RcAt W' b vL vS vR' σ'∧Nx W b vR (.slice none 0 0) W' vR' (.slice none 0 0)
def Rc.piece (σ:Rc):Int × Int:=match σ.L[σ.next 0]? with
 |some t=>(t.i,t.j)
 |none=>(σ.here,σ.here)
def Rc.fail (σ:Rc) (code:Int):Rc:=if σ.failed then σ else{ σ with d0:=code,d1:=σ.piece.1,d2:=σ.piece.2,failed:=true }
structure Kc where
 k:Keep
 low:Nat
def CIs (N:Nat) (w:World) (D:Nat→Prop) (σ:Rc):Res→Prop
 |.ok s=>σ.failed=false∧σ.L=s.L∧σ.at'=s.at'∧Ties w D s.R (σ.R.map Bn.rn)∧σ.R.map Bn.h=s.H∧σ.op=s.op∧(∀ x∈s.H,0≤x∧x≤100)∧s.op≤100∧s.R.length+s.L.length≤549755813888∧N≤s.R.length
 |.fail a b c=>σ.failed=true∧σ.d0=a∧σ.d1=b∧σ.d2=c∧σ.op≤100∧σ.R.length+σ.L.length≤549755813889∧N≤σ.R.length
def CAt (C:Kc) (w:World) (b:Nat) (x:Res):Prop:=∃ vL vS vR σ D,RcAt w b vL vS vR σ∧Own C.k w b vR (.slice none 0 0) D∧CIs C.low w D σ x
def CPost (C:Kc) (b:Nat) (y:Res) (e:Ending) (w':World):Prop:=∃ v,e=.returned v∧Hid (CAt C w' b y)
def CPostB (C:Kc) (b:Nat) (y:Res) (t:Bool) (e:Ending) (w':World):Prop:=e=.returned (.bool t)∧Hid (CAt C w' b y)
open Go.RowKit
theorem Rc.fail_failed {σ:Rc} (h:σ.failed=true) (c:Int):σ.fail c=σ:=by unfold Rc.fail;rw[h,if_pos rfl]
theorem Rc.fail_not {σ:Rc} (h:σ.failed=false) (c:Int):σ.fail c = { σ with d0:=c,d1:=σ.piece.1,d2:=σ.piece.2,failed:=true }:=by unfold Rc.fail;rw[h,if_neg (by simp)]
theorem cfail_any {W:World} {b:Nat} {vL vS vR:Value} {σ:Rc} (h:RcAt W b vL vS vR σ) (code:Int) :
  Calls Tryz.prog 45 #[.pointer (some ⟨b,0,none⟩),.int .i64 code] W (CSteps W b vL vS vR (σ.fail code)):=by
 have HRD:=Lib.hid h
 have hcb:=h.cells
 obtain⟨⟨b0,b1,_,b3,_,_,b6,b7,b8,b9⟩,hfr⟩:=ten_at hcb
 cases hf:σ.failed with
 |true=>
  rw[hf] at b9
  have HF:=Lib.hid (Rc.fail_failed hf code)
  clear hcb hf h hfr b0 b1 b3 b6 b7 b8
  go_enter Tryz.func45,Tryz.ntmps45
  go_wp2_with fail
  go_end0
  exact⟨_,vR,rfl,by rw[HF.out];exact HRD.out,Nx.refl _ _ _ _⟩
 |false=>
  rw[hf] at b9
  have HF:=Lib.hid (Rc.fail_not hf code)
  have f9:=hfr 9
  have HR1:Hid (RcAt (W.setCell ⟨b,9,none⟩ (.bool true)) b vL vS vR { σ with failed:=true }):=Lib.hid (h.put (fun k _ hk=>set_one _ _ _ _ _ hk) (heap_setCell_same _ b 9 _ _ _ hcb) rfl rfl h.read)
  have HN1:Hid (Nx W b vR (.slice none 0 0) (W.setCell ⟨b,9,none⟩ (.bool true)) vR (.slice none 0 0)):=Lib.hid (Nx.own rfl rfl rfl (by rw[size_set]) (fun k _ hk=>set_one _ _ _ _ _ hk))
  have hh:({ σ with failed:=true }:Rc).here=σ.here:=rfl
  clear hcb hf h hfr b0 b1 b3 b6 b7 b8
  go_enter Tryz.func45,Tryz.ntmps45
  go_wp2_with fail
  generalize W.setCell ⟨b,9,none⟩ (.bool true)=W1 at *
  go_at_call 88
  refine(chere_any HR1.out).mono ?_
  rintro e w2 ⟨rfl,hb2⟩
  have HR2:=Lib.hid (HR1.out.below hb2)
  go_wp2_with fail
  go_at_call 88
  refine(chere_any HR2.out).mono ?_
  rintro e w3 ⟨rfl,hb3⟩
  rw[hh]
  have hr3:=HR2.out.below hb3
  have HN3:Hid (Nx W b vR (.slice none 0 0) w3 vR (.slice none 0 0)):=Lib.hid (HN1.out.trans ((Nx.below hb2).trans (Nx.below hb3)))
  obtain⟨⟨_,_,_,_,_,_,b6,b7,b8,_⟩,hfr⟩:=ten_at hr3.cells
  have f6:=hfr 6
  have f7:=hfr 7
  have f8:=hfr 8
  obtain⟨hr,hhr⟩:∃ hr,σ.here=hr:=⟨_,rfl⟩
  rw[hhr]
  have HHR:=Lib.hid hhr
  have HR3:=Lib.hid hr3
  clear hr3 hfr hb2 hb3 HR1 HR2 HN1 hh hhr
  go_wp2_with fail
  obtain⟨w4,hw4⟩:∃ w4,((w3.setCell ⟨b,6,none⟩ (.int .i64 code)).setCell ⟨b,7,none⟩ (.int .i64 hr)).setCell ⟨b,8,none⟩ (.int .i64 hr)=w4:=⟨_,rfl⟩
  have hs4:∀ k,k≠b→w4.heap[k]? = w3.heap[k]?:=fun k hk=>by rw[← hw4,set_one _ _ _ _ _ hk,set_one _ _ _ _ _ hk,set_one _ _ _ _ _ hk]
  have hr4:RcAt w4 b vL vS vR { σ with d0:=code,d1:=hr,d2:=hr,failed:=true }:=HR3.out.put (fun k _ hk=>hs4 k hk) (by rw[← hw4];exact heap_setCell_same _ b 8 _ _ _ (heap_setCell_same _ b 7 _ _ _ (heap_setCell_same _ b 6 _ _ _ HR3.out.cells))) rfl rfl HR3.out.read
  have HN4:Hid (Nx W b vR (.slice none 0 0) w4 vR (.slice none 0 0)):=Lib.hid (HN3.out.trans (Nx.own (by rw[← hw4];rfl) (by rw[← hw4];rfl) (by rw[← hw4];rfl) (by rw[← hw4,size_set,size_set,size_set]) (fun k _ hk=>hs4 k hk)))
  rw[hw4]
  clear HR3 HN3 b6 b7 b8 f6 f7 f8 hs4 hw4
  obtain⟨⟨b0,b1,_,b3,_,_,b6,b7,b8,b9⟩,hfr⟩:=ten_at hr4.cells
  have f7:=hfr 7
  have f8:=hfr 8
  have hcl:=cnt_le' σ.L σ.at'
  have hsl:=sigP_le σ.L 0
  have hfew:σ.L.length≤1099511627776:=hr4.few
  have hrt:RcAt w4 b vL vS vR { σ with d0:=code,d1:=hr,d2:=hr,failed:=true }:=hr4
  obtain⟨gS,oS,cS,hvS,hoS,_⟩:=hr4.sigs.shape
  obtain⟨gL,oL,cL,hvL,hoL,_⟩:=hr4.toks.shape
  subst hvS
  subst hvL
  have HM:=Lib.hid hr4.toks
  have HMS:=Lib.hid hr4.sigs
  have HSP:=Lib.hid (sigP_next σ.L σ.at' 0 hr4.read)
  have HNX:Hid (σ.next 0=σ.at'+nxt 0 (σ.L.drop σ.at')):=Lib.hid rfl
  have HOS:=Lib.hid hoS
  have HOL:=Lib.hid hoL
  have HR4:=Lib.hid hr4
  have HPI:Hid (σ.piece=match σ.L[σ.next 0]? with|some t=>(t.i,t.j)|none=>(σ.here,σ.here)):=Lib.hid rfl
  have hbz:b<w4.heap.size:=(Array.getElem?_eq_some_iff.1 hr4.cells).1
  clear hrt hr4 hoS hoL hfr
  obtain⟨k,hk⟩:∃ k,cnt σ.L σ.at'=k:=⟨_,rfl⟩
  obtain⟨ls,hls⟩:∃ ls,(sigP 0 σ.L).length=ls:=⟨_,rfl⟩
  obtain⟨len,hlen⟩:∃ len,σ.L.length=len:=⟨_,rfl⟩
  have HLS:=Lib.hid hls
  have HLN:=Lib.hid hlen
  simp only[] at b0 b1 b3
  rw[hk] at b3 hcl HSP
  rw[hls] at b1 hcl hsl
  rw[hlen] at b0 hsl hfew
  clear hk hls hlen
  by_cases hge:ls≤k
  ·have hd2:decide ((k:Int)<(ls:Int))=false:=decide_eq_false (by omega)
   have hd3:decide (k<ls)=false:=decide_eq_false (by omega)
   have hp:σ.piece=(hr,hr):=by
    have h1:=HSP.out
    rw[List.getElem?_eq_none (by rw[HLS.out];exact hge)] at h1
    have h2:¬ (σ.at'+nxt 0 (σ.L.drop σ.at')<σ.L.length):=fun h=>by rw[if_pos h] at h1;cases h1
    rw[HPI.out,List.getElem?_eq_none (by rw[HNX.out];omega),HHR.out]
   have HP:=Lib.hid hp
   clear hp
   go_region
   all_goals(try go_wp2_with fail)
   go_end0
   refine⟨_,vR,rfl,?_,HN4.out.trans (Nx.below ((Below.refl _ _).drew))⟩
   rw[HF.out,HP.out]
   exact HR4.out.below (Below.refl _ _).drew
  ·have hlt:k<(sigP 0 σ.L).length:=by rw[HLS.out];omega
   have h1:=HSP.out
   rw[Nat.add_zero,List.getElem?_eq_getElem hlt] at h1
   have h2:σ.at'+nxt 0 (σ.L.drop σ.at')<σ.L.length:=by
    by_cases h:σ.at'+nxt 0 (σ.L.drop σ.at')<σ.L.length
    ·exact h
    ·rw[if_neg h] at h1;cases h1
   rw[if_pos h2,Option.some.injEq] at h1
   have hoS:=HOS.out (by intro e;rw[e] at hlt;simp at hlt)
   have hoL:=HOL.out (by intro e;rw[e] at h2;simp at h2)
   subst hoS
   subst hoL
   have hp:σ.piece=((σ.L[σ.next 0]'(by rw[HNX.out];exact h2)).i,(σ.L[σ.next 0]'(by rw[HNX.out];exact h2)).j):=by rw[HPI.out,List.getElem?_eq_getElem]
   have c0:=cells_it HMS.out.cells k hlt
   rw[h1,Nat.zero_add] at c0
   rw[← HNX.out] at h2 c0
   obtain⟨c1,c2,c3⟩:=cells_tk HM.out.cells (σ.next 0) h2
   rw[Nat.zero_add] at c1 c2 c3
   obtain⟨tk',htk⟩:∃ tk',σ.L[σ.next 0]=tk':=⟨_,rfl⟩
   rw[htk] at c1 c2 c3 hp
   have HP:=Lib.hid hp
   clear hp htk
   obtain⟨p,hpp⟩:∃ p,σ.next 0=p:=⟨_,rfl⟩
   rw[HLN.out] at h2
   rw[hpp] at c0 c1 c2 c3 h2
   obtain⟨z,x1,x2⟩:=tk'
   simp only[] at c1 c2 c3
   clear h1 hlt hpp
   have hd2:decide ((k:Int)<(ls:Int))=true:=decide_eq_true (by omega)
   have hd3:decide (k<ls)=true:=decide_eq_true (by omega)
   have hq0:(0:Int)≤(k:Int):=by omega
   have hq1:(k:Int)<(ls:Int):=by omega
   have hq3:(0:Int)≤(p:Int):=by omega
   have hq4:(p:Int)<(len:Int):=by omega
   go_region
   all_goals(try go_wp2_with fail)
   obtain⟨w5,hw5⟩:∃ w5,w4.drew=w5:=⟨_,rfl⟩
   have hb5:Below w4.heap.size w4 w5:=by rw[← hw5];exact(Below.refl _ _).drew
   have HZ5:Hid (w5.heap.size=w4.heap.size):=Lib.hid (by rw[← hw5];rfl)
   rw[hw5]
   clear hw5
   have hgL:gL<w4.heap.size:=World.block_lt_of_cell? _ _ c1
   have hgS:gS<w4.heap.size:=World.block_lt_of_cell? _ _ c0
   have HS:Hid (∀ u,Below w5.heap.size w5 u→u.cell? ⟨b,0,none⟩=some (.slice (some ⟨gL,0,none⟩) len cL)∧u.cell? ⟨b,1,none⟩=some (.slice (some ⟨gS,0,none⟩) ls cS)∧u.cell? ⟨b,3,none⟩=some (.int .i64 (k:Int))∧u.cell? ⟨gS,k,none⟩=some (.int .i64 (p:Int))∧u.cell? ⟨gL,p*3,none⟩=some (.int .i64 z)∧u.cell? ⟨gL,p*3+1,none⟩=some (.int .i64 x1)∧u.cell? ⟨gL,p*3+2,none⟩=some (.int .i64 x2)):=Lib.hid (fun u hu=>by
    have hu4:Below w4.heap.size w4 u:=hb5.trans (hu.mono (by rw[HZ5.out];exact Nat.le_refl _))
    exact⟨(hu4.cell (p:=⟨b,0,none⟩) hbz).trans b0,(hu4.cell (p:=⟨b,1,none⟩) hbz).trans b1,(hu4.cell (p:=⟨b,3,none⟩) hbz).trans b3,(hu4.cell (p:=⟨gS,k,none⟩) hgS).trans c0,(hu4.cell (p:=⟨gL,p*3,none⟩) hgL).trans c1,(hu4.cell (p:=⟨gL,p*3+1,none⟩) hgL).trans c2,(hu4.cell (p:=⟨gL,p*3+2,none⟩) hgL).trans c3⟩)
   obtain⟨e0,e1,e3,e4,e5,e6,e7⟩:=HS.out _ (Below.refl _ _)
   clear b0 b1 b3 c0 c1 c2 c3
   go_cut [4] (fun v wx=>v=.pointer (some ⟨w5.heap.size,0,none⟩)∧wx.heap[w5.heap.size]? = some (.cells #[.int .i64 z,.int .i64 x1,.int .i64 x2] 55 (0,0))∧Below w5.heap.size w5 wx)
   case first=>
    go_region_held3 (fun W'=>W'.cell? ⟨b,0,none⟩=some (.slice (some ⟨gL,0,none⟩) len cL)∧W'.cell? ⟨b,1,none⟩=some (.slice (some ⟨gS,0,none⟩) ls cS)∧W'.cell? ⟨b,3,none⟩=some (.int .i64 (k:Int))∧W'.cell? ⟨gS,k,none⟩=some (.int .i64 (p:Int))∧W'.cell? ⟨gL,p*3,none⟩=some (.int .i64 z)∧W'.cell? ⟨gL,p*3+1,none⟩=some (.int .i64 x1)∧W'.cell? ⟨gL,p*3+2,none⟩=some (.int .i64 x2))
     (first|exact HS.out _ (Below.refl _ _).drew|exact HS.out _ ((Below.refl _ _).drew.alloc (Nat.le_refl _) _))
     (fail)
    all_goals(try go_wp2_with fail)
    all_goals go_meet
    all_goals exact⟨rfl,heap_alloc_last _ _,((Below.refl _ _).alloc (Nat.le_refl _) _).drew⟩
   case rest=>
    obtain⟨rfl,hcell,hb6⟩:=hcut
    have hb46:Below w4.heap.size w4 wc:=hb5.trans (hb6.mono (by rw[HZ5.out];exact Nat.le_refl _))
    have hr6:=HR4.out.below hb46
    have y1:wc.cell? ⟨w5.heap.size,1,none⟩=some (.int .i64 x1):=by rw[cell_of_row wc _ 1 _ _ _ hcell];rfl
    have y2:wc.cell? ⟨w5.heap.size,2,none⟩=some (.int .i64 x2):=by rw[cell_of_row wc _ 2 _ _ _ hcell];rfl
    obtain⟨⟨_,_,_,_,_,_,_,g7,g8,_⟩,hfr6⟩:=ten_at hr6.cells
    have f7':=hfr6 7
    have f8':=hfr6 8
    have hbb:b<w5.heap.size:=by rw[HZ5.out];exact hbz
    have HR6:=Lib.hid hr6
    have HN6:=Lib.hid (HN4.out.trans (Nx.below (vR:=vR) (vH:=.slice none 0 0) hb46))
    have HE:Hid (∀ W',(W'=(wc.setCell ⟨b,7,none⟩ (.int .i64 x1)).setCell ⟨b,8,none⟩ (.int .i64 x2)∨W'=(wc.setCell ⟨b,8,none⟩ (.int .i64 x2)).setCell ⟨b,7,none⟩ (.int .i64 x1))→RcAt W' b (.slice (some ⟨gL,0,none⟩) σ.L.length cL) (.slice (some ⟨gS,0,none⟩) (sigP 0 σ.L).length cS) vR (σ.fail code)∧Nx W b vR (.slice none 0 0) W' vR (.slice none 0 0)):=Lib.hid (fun W' hW=>by
     have hs:∀ k,k≠b→W'.heap[k]? = wc.heap[k]?:=fun k hk=>by rcases hW with rfl|rfl <;> rw[set_one _ _ _ _ _ hk,set_one _ _ _ _ _ hk]
     have hz:W'.heap.size=wc.heap.size:=by rcases hW with rfl|rfl <;> rw[size_set,size_set]
     have ho:W'.os=wc.os∧W'.tape=wc.tape∧W'.output=wc.output:=by rcases hW with rfl|rfl <;> exact⟨rfl,rfl,rfl⟩
     rw[HF.out,HP.out]
     refine⟨HR6.out.put (fun k _ hk=>hs k hk) ?_ rfl rfl HR6.out.read,HN6.out.trans (Nx.own ho.1 ho.2.1 ho.2.2 hz (fun k _ hk=>hs k hk))⟩
     rcases hW with rfl|rfl
     ·exact heap_setCell_same _ b 8 _ _ _ (heap_setCell_same _ b 7 _ _ _ HR6.out.cells)
     ·exact heap_setCell_same _ b 7 _ _ _ (heap_setCell_same _ b 8 _ _ _ HR6.out.cells))
    clear hcell hb6 hr6 hfr6
    go_wp2_with fail
    go_region
    all_goals(try go_wp2_with fail)
    all_goals go_end0
    all_goals
     obtain⟨hE1,hE2⟩:=HE.out _ (by first|exact Or.inl rfl|exact Or.inr rfl)
     exact⟨_,vR,rfl,hE1.below (Below.refl _ _).drew,hE2.trans (Nx.below (Below.refl _ _).drew)⟩
open Go.RowKit
section
variable {C:Kc} {w:World} {b:Nat} {x y:Res}
theorem CAt.below (h:Hid (CAt C w b x)) {w':World} (hb:Below w.heap.size w w'):Hid (CAt C w' b x):=by
 obtain⟨vL,vS,vR,σ,D,hr,ho,hi⟩:=h.out
 have hn:Nx w b vR (.slice none 0 0) w' vR (.slice none 0 0):=Nx.below hb
 refine Lib.hid ⟨vL,vS,vR,σ,D,hr.below hb,ho.step hn,?_⟩
 cases x with
 |fail=>exact hi
 |ok s=>
  obtain⟨h1,h2,h3,h4,h5⟩:=hi
  exact⟨h1,h2,h3,ho.ties hn h4,h5⟩
theorem CAt.alloc (h:Hid (CAt C w b x)) (o:Obj):Hid (CAt C (w.alloc o) b x):=CAt.below h ((Below.refl _ _).alloc (Nat.le_refl _) _)
theorem c_ahead {N:Nat} {D:Nat→Prop} {σ:Rc} (hi:CIs N w D σ x) (n:Nat):σ.ahead n=x.ahead n:=by
 cases x with
 |fail=>unfold Rc.ahead;rw[hi.1,if_pos rfl];rfl
 |ok s=>
  obtain⟨h1,h2,h3,_⟩:=hi
  unfold Rc.ahead Rc.next
  rw[h1,h2,h3]
  rfl
theorem cahead_at (h:Hid (CAt C w b x)) (n:Nat) (hn:n≤4611686018427387904):Calls Tryz.prog 59 #[.pointer (some ⟨b,0,none⟩),.int .i64 (n:Int)] w fun e w'=>e=.returned (.int .i64 (x.ahead n))∧Hid (CAt C w' b x):=by
 obtain⟨vL,vS,vR,σ,D,hr,_,hi⟩:=h.out
 refine(cahead_any hr n (by omega)).mono ?_
 rintro e w' ⟨rfl,hb⟩
 rw[if_neg (by omega),Int.toNat_natCast,c_ahead hi]
 exact⟨rfl,CAt.below h hb⟩
theorem ckind_at (h:Hid (CAt C w b x)):Calls Tryz.prog 57 #[.pointer (some ⟨b,0,none⟩)] w fun e w'=>e=.returned (.int .i64 x.kind)∧Hid (CAt C w' b x):=by
 have HA:=Lib.hid (cahead_at h 0 (by decide))
 clear h
 go_enter Tryz.func57,Tryz.ntmps57
 go_wp2_with (go_at_call 59;refine HA.out.mono ?_;rintro e w' ⟨rfl,hat⟩)
 go_ret
 exact⟨rfl,hat⟩
theorem ckind_is (h:Hid (CAt C w b x)) {k:Int} (hk:x.kind=k):Calls Tryz.prog 57 #[.pointer (some ⟨b,0,none⟩)] w fun e w'=>e=.returned (.int .i64 k)∧Hid (CAt C w' b x):=by
 rw[← hk];exact ckind_at h
theorem cahead_is (h:Hid (CAt C w b x)) (n:Nat) (hn:n≤4611686018427387904) {k:Int} (hk:x.ahead n=k):Calls Tryz.prog 59 #[.pointer (some ⟨b,0,none⟩),.int .i64 (n:Int)] w fun e w'=>e=.returned (.int .i64 k)∧Hid (CAt C w' b x):=by
 rw[← hk];exact cahead_at h n hn
theorem cmark_at {s:St} (h:Hid (CAt C w b (.ok s))):Calls Tryz.prog 61 #[.pointer (some ⟨b,0,none⟩)] w fun e w'=>e=.returned (.int .i64 (s.R.length:Int))∧w=w':=by
 obtain⟨vL,vS,vR,σ,D,hr,_,hi⟩:=h.out
 refine(cmark_any hr).mono ?_
 rintro e w' ⟨rfl,rfl⟩
 obtain⟨_,_,_,h4,_⟩:=hi
 have:=h4.length
 rw[List.length_map] at this
 exact⟨by rw[this],rfl⟩
theorem cmark_bad {d0 d1 d2:Int} (h:Hid (CAt C w b (.fail d0 d1 d2))):Calls Tryz.prog 61 #[.pointer (some ⟨b,0,none⟩)] w fun e w'=>(∃ v:Nat,v≤549755813889∧e=.returned (.int .i64 (v:Int)))∧w=w':=by
 obtain⟨vL,vS,vR,σ,D,hr,_,hi⟩:=h.out
 refine(cmark_any hr).mono ?_
 rintro e w' ⟨rfl,rfl⟩
 obtain⟨_,_,_,_,_,h6,_⟩:=hi
 exact⟨⟨_,by omega,rfl⟩,rfl⟩
theorem CPost.of {vL vS vR:Value} {σ':Rc} {D:Nat→Prop} {e:Ending} {w':World} (ho:Own C.k w b vR (.slice none 0 0) D) (hs:CSteps w b vL vS vR σ' e w') (hi:∀ vR',Nx w b vR (.slice none 0 0) w' vR' (.slice none 0 0)→CIs C.low w' D σ' y):CPost C b y e w':=by
 obtain⟨v,vR',rfl,hr,hn⟩:=hs
 exact⟨v,rfl,Lib.hid ⟨vL,vS,vR',σ',D,hr,ho.step hn,hi vR' hn⟩⟩
theorem c_here {σ:Rc} {s:St} (h2:σ.L=s.L) (h3:σ.at'=s.at'):σ.here=s.here:=by
 unfold Rc.here St.here Rc.next St.next
 rw[h2,h3]
 rfl
theorem c_piece {σ:Rc} {s:St} (h2:σ.L=s.L) (h3:σ.at'=s.at'):σ.piece=s.piece:=by
 have:=c_here h2 h3
 unfold Rc.piece St.piece Rc.next St.next
 rw[this,h2,h3]
 rfl
theorem cfail_is {N:Nat} {D:Nat→Prop} {σ:Rc} {s:St} (h:CIs N w D σ (.ok s)) (w':World) (c:Int):CIs N w' D (σ.fail c) (s.fail c):=by
 obtain⟨h1,h2,h3,h4,h5,h6,h7,h8,h9⟩:=h
 rw[Rc.fail_not h1]
 have hp:=c_piece h2 h3
 have hl:=h4.length
 rw[List.length_map] at hl
 exact⟨rfl,rfl,by show Prod.fst _=_;rw[hp],by show Prod.snd _=_;rw[hp],by show σ.op≤100;omega,by show σ.R.length+σ.L.length≤_;rw[h2];omega,by show N≤σ.R.length;omega⟩
theorem cfail_at (h:Hid (CAt C w b x)) (c:Int) (hy:Hid (rFail c x=some y)):Calls Tryz.prog 45 #[.pointer (some ⟨b,0,none⟩),.int .i64 c] w (CPost C b y):=by
 obtain⟨vL,vS,vR,σ,D,hr,ho,hi⟩:=h.out
 refine(cfail_any hr c).mono fun e w' hs=>CPost.of ho hs fun vR' hn=>?_
 have hy:=hy.out
 cases x with
 |fail a0 a1 a2=>
  cases hy
  rw[Rc.fail_failed hi.1]
  exact hi
 |ok s=>
  have hi0:=hi
  cases chk_fail hy
  exact cfail_is hi0 w' c
theorem cup_any {W:World} {b:Nat} {vL vS vR:Value} {σ:Rc} (h:RcAt W b vL vS vR σ) (hop:σ.op≤100) :
  Calls Tryz.prog 43 #[.pointer (some ⟨b,0,none⟩)] W (CSteps W b vL vS vR { σ with op:=σ.op - 1 }):=by
 have HRD:=Lib.hid h
 obtain⟨⟨_,_,_,_,_,b5,_,_,_,_⟩,hfr⟩:=ten_at h.cells
 have f5:=hfr 5
 have HE:Hid (∀ W' (v:Int),v=((σ.op - 1:Nat):Int)→W'=W.setCell ⟨b,5,none⟩ (.int .i64 v)→RcAt W' b vL vS vR { σ with op:=σ.op - 1 }∧Nx W b vR (.slice none 0 0) W' vR (.slice none 0 0)):=Lib.hid (fun W' v hv hW=>by
  subst hW hv
  exact⟨HRD.out.put (fun k _ hk=>set_one _ _ _ _ _ hk) (heap_setCell_same _ b 5 _ _ _ HRD.out.cells) rfl rfl HRD.out.read,Nx.own rfl rfl rfl (by rw[size_set]) (fun k _ hk=>set_one _ _ _ _ _ hk)⟩)
 clear h hfr
 obtain⟨p,hp⟩:∃ p,σ.op=p:=⟨_,rfl⟩
 have HP:=Lib.hid hp
 rw[hp] at b5 hop
 clear hp
 rcases Nat.lt_or_ge p 2 with h1|h1
 ·have h01:p=0∨p=1:=by omega
  rcases h01 with rfl|rfl
  all_goals
   go_enter Tryz.func43,Tryz.ntmps43
   go_wp2_with fail
   go_end0
   obtain⟨h1,h2⟩:=HE.out _ 0 (by rw[HP.out];rfl) rfl
   exact⟨_,vR,rfl,h1,h2⟩
 ·have hd:decide ((p:Int) - 1<0)=false:=decide_eq_false (by omega)
  have hd2:decide ((0:Int)<(p:Int) - 1)=true:=decide_eq_true (by omega)
  have hd3:decide ((p:Int) - 1≤0)=false:=decide_eq_false (by omega)
  have hd4:decide ((p:Int)<1)=false:=decide_eq_false (by omega)
  go_enter Tryz.func43,Tryz.ntmps43
  go_wp2_with fail
  all_goals go_end0
  all_goals
   obtain⟨h1,h2⟩:=HE.out _ ((p:Int) - 1) (by rw[HP.out];omega) rfl
   exact⟨_,vR,rfl,h1,h2⟩
theorem cup_at (h:Hid (CAt C w b x)) (hy:Hid (rUp x=some y)):Calls Tryz.prog 43 #[.pointer (some ⟨b,0,none⟩)] w (CPost C b y):=by
 obtain⟨vL,vS,vR,σ,D,hr,ho,hi⟩:=h.out
 have hy:=hy.out
 have hop:σ.op≤100:=by
  cases x with
  |fail=>exact hi.2.2.2.2.1
  |ok s=>obtain⟨_,_,_,_,_,h6,_,h8,_⟩:=hi;omega
 refine(cup_any hr hop).mono fun e w' hs=>CPost.of ho hs fun vR' hn=>?_
 cases x with
 |fail a0 a1 a2=>
  cases hy
  obtain⟨h1,h2,h3,h4,h5,h6⟩:=hi
  exact⟨h1,h2,h3,h4,by show σ.op - 1≤100;omega,h6⟩
 |ok s=>
  obtain⟨rfl,hz⟩:=chk_ok hy
  obtain⟨h1,h2,h3,h4,h5,h6,h7,h8,h9⟩:=hi
  exact⟨h1,h2,h3,ho.ties hn h4,h5,by show σ.op - 1=s.op - 1;rw[h6],h7,by show s.op - 1≤100;omega,h9⟩
theorem cdown_no {W:World} {b:Nat} {vL vS vR:Value} {σ:Rc} (h:RcAt W b vL vS vR σ) (hc:σ.failed=true∨100≤σ.op) :
  Calls Tryz.prog 41 #[.pointer (some ⟨b,0,none⟩)] W (CStepsB false W b vL vS vR (σ.fail 202)):=by
 have HRD:=Lib.hid h
 obtain⟨⟨_,_,_,_,_,b5,_,_,_,b9⟩,_⟩:=ten_at h.cells
 have HFA:=Lib.hid (cfail_any h 202)
 have HFF:Hid ((σ.fail 202).failed=true):=Lib.hid (by
  unfold Rc.fail
  split
  ·assumption
  ·rfl)
 clear h
 obtain⟨p,hp⟩:∃ p,σ.op=p:=⟨_,rfl⟩
 rw[hp] at b5 hc
 clear hp
 by_cases h100:100≤p
 ·have hd:decide (100≤(p:Int))=true:=decide_eq_true (by omega)
  have hd':decide (100≤p)=true:=decide_eq_true h100
  clear hc
  go_enter Tryz.func41,Tryz.ntmps41
  go_wp2_with (go_at_call 45;refine HFA.out.mono ?_;rintro e w' ⟨v,vR',rfl,hr',hn⟩;have HR':=Lib.hid hr';have c9:w'.cell? ⟨b,9,none⟩=some (.bool true):=(by have h9:=(ten_at hr'.cells).1.2.2.2.2.2.2.2.2.2;rw[HFF.out] at h9;exact h9);clear hr')
  go_ret
  exact⟨vR',rfl,HR'.out,hn⟩
 ·have hd:decide (100≤(p:Int))=false:=decide_eq_false (by omega)
  have hd':decide (100≤p)=false:=decide_eq_false h100
  have hf:σ.failed=true:=by rcases hc with h|h;exact h;exact absurd h h100
  rw[hf] at b9
  have HS:=Lib.hid (Rc.fail_failed hf 202)
  clear hf hc
  go_enter Tryz.func41,Tryz.ntmps41
  go_wp2_with fail
  go_ret
  exact⟨vR,rfl,by rw[HS.out];exact HRD.out,Nx.refl _ _ _ _⟩
theorem cdown_yes {W:World} {b:Nat} {vL vS vR:Value} {σ:Rc} (h:RcAt W b vL vS vR σ) (hf:σ.failed=false) (hop:¬ 100≤σ.op) :
  Calls Tryz.prog 41 #[.pointer (some ⟨b,0,none⟩)] W (CStepsB true W b vL vS vR { σ with op:=σ.op+1 }):=by
 have HRD:=Lib.hid h
 obtain⟨⟨_,_,_,_,_,b5,_,_,_,b9⟩,hfr⟩:=ten_at h.cells
 have f5:=hfr 5
 rw[hf] at b9
 have HE:Hid (∀ W',W'=W.setCell ⟨b,5,none⟩ (.int .i64 ((σ.op:Int)+1))→RcAt W' b vL vS vR { σ with op:=σ.op+1 }∧Nx W b vR (.slice none 0 0) W' vR (.slice none 0 0)):=Lib.hid (fun W' hW=>by
  subst hW
  refine⟨HRD.out.put (fun k _ hk=>set_one _ _ _ _ _ hk) ?_ rfl rfl HRD.out.read,Nx.own rfl rfl rfl (by rw[size_set]) (fun k _ hk=>set_one _ _ _ _ _ hk)⟩
  exact heap_setCell_same _ b 5 _ _ _ HRD.out.cells)
 clear h hfr hf
 obtain⟨p,hp⟩:∃ p,σ.op=p:=⟨_,rfl⟩
 have HP:=Lib.hid hp
 rw[hp] at b5 hop HE
 clear hp
 have hd:decide (100≤(p:Int))=false:=decide_eq_false (by omega)
 have hd':decide (100≤p)=false:=decide_eq_false hop
 go_enter Tryz.func41,Tryz.ntmps41
 go_wp2_with fail
 go_ret
 obtain⟨h1,h2⟩:=HE.out _ rfl
 exact⟨vR,rfl,by rw[HP.out];exact h1,h2⟩
theorem CPostB.of {vL vS vR:Value} {σ':Rc} {D:Nat→Prop} {e:Ending} {w':World} {t:Bool} (ho:Own C.k w b vR (.slice none 0 0) D) (hs:CStepsB t w b vL vS vR σ' e w') (hi:∀ vR',Nx w b vR (.slice none 0 0) w' vR' (.slice none 0 0)→CIs C.low w' D σ' y):CPostB C b y t e w':=by
 obtain⟨vR',rfl,hr,hn⟩:=hs
 exact⟨rfl,Lib.hid ⟨vL,vS,vR',σ',D,hr,ho.step hn,hi vR' hn⟩⟩
theorem cdown_at (h:Hid (CAt C w b x)) (hy:Hid (rDown x=some y)):Calls Tryz.prog 41 #[.pointer (some ⟨b,0,none⟩)] w (CPostB C b y (!y.bad)):=by
 obtain⟨vL,vS,vR,σ,D,hr,ho,hi⟩:=h.out
 have hy:=hy.out
 cases x with
 |fail a0 a1 a2=>
  cases hy
  refine(cdown_no hr (.inl hi.1)).mono fun e w' hs=>CPostB.of ho hs fun vR' hn=>?_
  rw[Rc.fail_failed hi.1]
  exact hi
 |ok s=>
  have hi0:=hi
  obtain⟨h1,h2,h3,h4,h5,h6,h7,h8,h9⟩:=hi
  unfold rDown lift St.down at hy
  simp only[] at hy
  by_cases hop:100≤s.op
  ·rw[if_pos hop] at hy
   cases chk_fail hy
   exact(cdown_no hr (.inr (by omega))).mono fun e w' hs=>CPostB.of ho hs fun vR' hn=>cfail_is hi0 w' 202
  ·rw[if_neg hop] at hy
   obtain⟨rfl,hz⟩:=chk_ok hy
   exact(cdown_yes hr h1 (by omega)).mono fun e w' hs=>CPostB.of ho hs fun vR' hn=>⟨h1,h2,h3,ho.ties hn h4,h5,by show σ.op+1=s.op+1;rw[h6],h7,by show s.op+1≤100;omega,h9⟩
end
open Go.RowKit
structure RcT (W:World) (b:Nat) (vL vS vR:Value) (σ:Rc) (tkn:Nat):Prop where
 cells:W.heap[b]? = some (.cells #[vL,vS,.int .i64 (σ.at':Int),.int .i64 (tkn:Int),vR,.int .i64 (σ.op:Int),.int .i64 σ.d0,.int .i64 σ.d1,.int .i64 σ.d2,.bool σ.failed] 61 (0,0))
 toks:Mine tk W 0 vL σ.L
 sigs:Mine it W 0 vS (sigP 0 σ.L)
 row:Mine bt W 0 vR σ.R
 read:σ.at'≤σ.L.length
 few:σ.L.length≤1099511627776
theorem RcAt.t {W:World} {b:Nat} {vL vS vR:Value} {σ:Rc} (h:RcAt W b vL vS vR σ):RcT W b vL vS vR σ (cnt σ.L σ.at'):=⟨h.cells,h.toks,h.sigs,h.row,h.read,h.few⟩
theorem RcT.at {W:World} {b tkn:Nat} {vL vS vR:Value} {σ:Rc} (h:RcT W b vL vS vR σ tkn) (ht:tkn=cnt σ.L σ.at'):RcAt W b vL vS vR σ:=⟨by rw[← ht];exact h.cells,h.toks,h.sigs,h.row,h.read,h.few⟩
theorem RcT.below {W W':World} {b tkn:Nat} {vL vS vR:Value} {σ:Rc} (h:RcT W b vL vS vR σ tkn) (hb:Below W.heap.size W W'):RcT W' b vL vS vR σ tkn:=
 ⟨(hb.block b (Array.getElem?_eq_some_iff.1 h.cells).1).trans h.cells,h.toks.below hb,h.sigs.below hb,h.row.below hb,h.read,h.few⟩
theorem cpush_run {W:World} {b tkn:Nat} {vL vS vR:Value} {σ:Rc} (h:RcT W b vL vS vR σ tkn) (x:Bn) (hfew:σ.R.length≤1099511627776) :
  ∀ u,Below W.heap.size W u→∀ ad,u.heap[ad]? = some (.cells #[.int .i64 x.k,.int .i64 x.i,.int .i64 x.j,.slice x.o x.n x.c,.int .i64 x.h] 73 (0,0)) →
   ∃ v' w',(∀ ty,(Builtin.append_ #[59,59] ty #[vR,.slice (some ⟨ad,0,none⟩) 1 1]).run Tryz.prog u=.ok v' w') ∧
    (∃ g cap',v'=.slice (some ⟨g,0,none⟩) (σ.R.length+1) cap')∧w'.cell? ⟨b,4,none⟩=some vR∧w'.frozen? ⟨b,4,none⟩=false∧b<w'.heap.size ∧
    RcT (w'.setCell ⟨b,4,none⟩ v') b vL vS v' { σ with R:=σ.R ++ [x] } tkn∧Nx W b vR (.slice none 0 0) (w'.setCell ⟨b,4,none⟩ v') v' (.slice none 0 0):=by
 intro u hu ad had
 have hbz:b<W.heap.size:=(Array.getElem?_eq_some_iff.1 h.cells).1
 have hub:=h.below hu
 have hRb:=h.row.ne h.cells (by decide)
 obtain⟨g,cap',w',h1,h2,h3,h4⟩:=app_lies (F:=bt) (x:=x) hub.row had (Nat.zero_le _) (by simp [maxLen];omega) (by show(σ.R.length+1)*56≤_;omega)
 have hbu:b<u.heap.size:=Nat.lt_of_lt_of_le hbz hu.size
 have hwb:w'.heap[b]? = u.heap[b]?:=h3.block b hbu (fun e=>hRb e.symm)
 have hcells:=hwb.trans hub.cells
 obtain⟨⟨_,_,_,_,b4,_⟩,hfr⟩:=ten_at hcells
 have hg:vR.ownBlock=some g∨W.heap.size≤g:=by
  rcases h4 with h4|h4
  ·exact .inl h4
  ·exact .inr (by rw[h4];exact hu.size)
 have hgb:g≠b:=by
  rintro rfl
  rcases hg with hg|hg
  ·exact hRb hg
  ·omega
 have hbw:b<w'.heap.size:=Nat.lt_of_lt_of_le hbu h3.size
 have hrun:∀ k,k≠b→(w'.setCell ⟨b,4,none⟩ (.slice (some ⟨g,0,none⟩) (σ.R.length+1) cap')).heap[k]? = w'.heap[k]?:=fun k hk=>set_one _ _ _ _ _ hk
 have hold:∀ k,k<u.heap.size→k≠b→vR.ownBlock≠some k→(w'.setCell ⟨b,4,none⟩ (.slice (some ⟨g,0,none⟩) (σ.R.length+1) cap')).heap[k]? = u.heap[k]?:=fun k hk hkb hkR=>(hrun k hkb).trans (h3.block k hk (fun e=>hkR e.symm))
 refine⟨_,w',h1,⟨g,cap',rfl⟩,b4,hfr 4,hbw,⟨?_,?_,?_,?_,h.read,h.few⟩,⟨?_,?_,?_,?_,?_,?_,fun k hk=>by simp [Value.ownBlock] at hk⟩⟩
 ·exact heap_setCell_same _ b 4 _ _ _ hcells
 ·exact hub.toks.keep (fun k hk hz=>hold k hz (fun e=>hub.toks.ne hub.cells (by decide) (by rw[← e];exact hk)) (hub.toks.differs hub.row (by decide) k hk))
 ·exact hub.sigs.keep (fun k hk hz=>hold k hz (fun e=>hub.sigs.ne hub.cells (by decide) (by rw[← e];exact hk)) (hub.sigs.differs hub.row (by decide) k hk))
 ·exact h2.keep (fun k hk _=>hrun k (by simp only[Value.ownBlock,Option.some.injEq] at hk;omega))
 ·exact h3.os.trans hu.os
 ·exact h3.tape.trans hu.tape
 ·exact h3.output.trans hu.output
 ·rw[size_set];exact Nat.le_trans hu.size h3.size
 ·intro k hk hkb hkR _
  exact(hold k (Nat.lt_of_lt_of_le hk hu.size) hkb hkR).trans (hu.block k hk)
 ·intro k hk
  simp only[Value.ownBlock,Option.some.injEq] at hk
  subst hk
  exact hg
theorem step_append_wp {P:Program} {w:World} {o:Oper} {a:Act} {K:Act→World→Prop} {Q:Exit→Act→World→Prop} (s x:Operand) (t tn:TypeId)
  (ho:o.op=.call { callee:=.builtin .append,args:=#[s,x],argTypes:=#[t,tn] }) (vs vx:Value) (hs:a.eval s=vs) (hx:a.eval x=vx)
  {R:Value→World→Prop} (hr:∃ v' w',(∀ ty,(Builtin.append_ #[t,tn] ty #[vs,vx]).run P w=.ok v' w')∧R v' w') (h:∀ v' w',R v' w'→K (a.put o.dst v') w'):Oper.wp P o a w K Q:=by
 obtain⟨v',w',h1,h2⟩:=hr
 exact Lib.wp_append_run w s x t tn ho vs vx hs hx v' w' (h1 _) (h v' w' h2)
theorem cnoneV_any (z:Int) (w:World):Calls Tryz.prog 87 #[.int .i64 z] w fun e w'=>e=.returned (.agg #[.int .i64 200,.int .i64 z,.int .i64 z,.slice none 0 0,.int .i64 0])∧Below w.heap.size w w':=by
 go_enter Tryz.func87,Tryz.ntmps87
 go_wp2_with fail
 refine bodyPost_ret (v:=.agg #[.int .i64 200,.int .i64 z,.int .i64 z,.slice none 0 0,.int .i64 0]) (results_cell_row Tryz.results87 _ _ w.heap.size 73 _ (0,0) _ rfl (heap_alloc_last w _) Tryz.underlying73 rfl (by as_aux_lemma=>kernel_rfl)) rfl ⟨rfl,(Below.refl _ _).alloc (Nat.le_refl _) _⟩
theorem cnone_any {W:World} {b:Nat} {vL vS vR:Value} {σ:Rc} (h:RcAt W b vL vS vR σ) (hf:σ.failed=false) (hfew:σ.R.length≤1099511627776) :
  Calls Tryz.prog 35 #[.pointer (some ⟨b,0,none⟩)] W (CSteps W b vL vS vR { σ with R:=σ.R ++ [⟨200,σ.here,σ.here,none,0,0,0⟩] }):=by
 have HRD:=Lib.hid h
 obtain⟨⟨_,_,_,_,b4,_,_,_,_,b9⟩,_⟩:=ten_at h.cells
 rw[hf] at b9
 have hbz:b<W.heap.size:=(Array.getElem?_eq_some_iff.1 h.cells).1
 have HE:Hid (∀ u,Below W.heap.size W u→Calls Tryz.prog 88 #[.pointer (some ⟨b,0,none⟩)] u fun e w'=>e=.returned (.int .i64 σ.here)∧Below u.heap.size u w'):=Lib.hid (fun u hu=>chere_any (h.below hu))
 have HA:=Lib.hid (cpush_run h.t ⟨200,σ.here,σ.here,none,0,0,0⟩ hfew)
 have HB:Hid (∀ u,Below W.heap.size W u→u.cell? ⟨b,4,none⟩=some vR):=Lib.hid (fun u hu=>(hu.cell (p:=⟨b,4,none⟩) hbz).trans b4)
 clear h hf
 obtain⟨hr,hhr⟩:∃ hr,σ.here=hr:=⟨_,rfl⟩
 rw[hhr] at HE HA ⊢
 clear hhr
 go_enter Tryz.func35,Tryz.ntmps35
 go_wp2_with fail
 go_region_law (first|(go_simp;go_at_call 88;refine(HE.out _ ?_).mono ?_;(first|exact(Below.refl _ _).drew|exact Below.refl _ _);rintro e w2 ⟨rfl,hb2⟩;have hB2:Below W.heap.size W w2:=(Below.refl W.heap.size W).drew.trans hb2;have y4:=HB.out _ hB2;have hz2:b<w2.heap.size:=Nat.lt_of_lt_of_le hbz hB2.size;clear hb2;dsimp only)|(go_simp;go_at_call 87;refine(cnoneV_any _ _).mono ?_;rintro e w3 ⟨rfl,hb3⟩;have hB3:Below W.heap.size W w3:=hB2.trans (hb3.mono hB2.size);have y4':=HB.out _ hB3;have hz3:b<w3.heap.size:=Nat.lt_of_lt_of_le hbz hB3.size;clear hb3;dsimp only)|((first|refine step_append_ex rfl _ _ _ _ rfl _ _ rfl rfl (HA.out _ (hB3.alloc hB3.size _) _ (heap_alloc_last _ _)) ?_|refine step_append_wp _ _ _ _ rfl _ _ rfl rfl (HA.out _ (hB3.alloc hB3.size _) _ (heap_alloc_last _ _)) ?_);rintro v' w' ⟨⟨g,cap',rfl⟩,c4,f4,hbw,hrt,hnx⟩;have HRT:=Lib.hid hrt;have HNX:=Lib.hid hnx;clear hrt hnx))
 all_goals(try go_wp2_with fail)
 all_goals go_end0
 all_goals exact⟨_,_,rfl,RcT.at HRT.out rfl,HNX.out⟩
end Go.Proofs.YtcekbbkidipbnaaGreat.rd
