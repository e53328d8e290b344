/-
  Texts put together: Ea, Eb, Ec, Ed, Ee, Ef, Eg, Eh, Ei, Ej, Ek, El, Em, Fa, Fb, Fc, Fd, Fe, Ff.
-/
import Derived.Test.YtcekbbkidipbnaaGreatRows
import Derived.Handy
import Derived.Deep.DeepFit
import Derived.Deep.WholeRow
import Derived.Lib.Hide
import Derived.Lib.AppendZeros
import Derived.Lib.SliceRun
import Derived.WalkKit
import Derived.WalkSpells
import Derived.BigQuiet
import Derived.Deep.QuietTactic
import Derived.Laws.Rows
import Derived.Laws.OwnMore
import Derived.Laws.CopyRow
import Derived.Maps.AppendAt
import Derived.Deep.RegionLaw
import Derived.Deep.AppendLies
import Derived.Deep.DeepCutAuto
import Derived.Deep.RegionHeld3
set_option maxRecDepth 100000
set_option maxHeartbeats 8000000
namespace Go.Proofs.YtcekbbkidipbnaaGreat.rd
open Go.RowKit
structure Tk where
 (k i j:Int)
structure Rn where
 (k i j:Int) (o:Option Addr) (n c:Nat)
structure Kd (α:Type) where
 c:α→List Value
 k:Nat
 e:TypeId
 t:TypeId
 z:Value
 bytes:Nat
 len:∀ x,(c x).length=k
 one:∀ x,∀ u∈c x,u.oneCell'=true
 ht:Tryz.prog.underlying t=some (.slice e)
 hi:(Tryz.prog.info? e).map (fun i=>(i.zero,i.size,i.bytes))=some (some z,k,bytes)
 hz:z.cells.size=k
 hk:0<k
 ht':Tryz.prog.underlying t=some (.slice (Tryz.prog.elem t))
 hs:∀ u,(sizeOf (Tryz.prog.elem t)).run Tryz.prog u=.ok k u
def tk:Kd Tk where
 c t:=[.int .i64 t.k,.int .i64 t.i,.int .i64 t.j]
 k:=3
 e:=55
 t:=22
 z:=.agg #[.int .i64 0,.int .i64 0,.int .i64 0]
 bytes:=24
 len _:=rfl
 one x u hu:=by simp only[List.mem_cons,List.not_mem_nil,or_false] at hu;rcases hu with rfl|rfl|rfl <;> rfl
 ht:=Tryz.underlying22
 hi:=by kernel_rfl
 hz:=rfl
 hk:=by decide
 ht':=by kernel_rfl
 hs _:=by kernel_rfl
def nd:Kd Rn where
 c t:=[.int .i64 t.k,.int .i64 t.i,.int .i64 t.j,.slice t.o t.n t.c]
 k:=4
 e:=43
 t:=35
 z:=.agg #[.int .i64 0,.int .i64 0,.int .i64 0,.slice none 0 0]
 bytes:=48
 len _:=rfl
 one x u hu:=by simp only[List.mem_cons,List.not_mem_nil,or_false] at hu;rcases hu with rfl|rfl|rfl|rfl <;> rfl
 ht:=Tryz.underlying35
 hi:=by kernel_rfl
 hz:=rfl
 hk:=by decide
 ht':=by kernel_rfl
 hs _:=by kernel_rfl
def it:Kd Int where
 c t:=[.int .i64 t]
 k:=1
 e:=3
 t:=58
 z:=.int .i64 0
 bytes:=8
 len _:=rfl
 one x u hu:=by simp only[List.mem_cons,List.not_mem_nil,or_false] at hu;subst hu;rfl
 ht:=Tryz.underlying58
 hi:=by kernel_rfl
 hz:=rfl
 hk:=by decide
 ht':=by kernel_rfl
 hs _:=by kernel_rfl
section
variable {α:Type} (F:Kd α)
def flat (T:List α):List Value:=T.flatMap F.c
theorem flat_append (a b:List α):flat F (a ++ b)=flat F a ++ flat F b:=by simp [flat]
theorem flat_cons (x:α) (T:List α):flat F (x::T)=F.c x ++ flat F T:=rfl
theorem flat_length (T:List α):(flat F T).length=T.length*F.k:=by
 induction T with
 |nil=>simp [flat]
 |cons d T ih=>rw[flat_cons,List.length_append,ih,F.len,List.length_cons,Nat.add_mul,Nat.one_mul,Nat.add_comm]
theorem flat_one (T:List α):∀ u∈flat F T,u.oneCell'=true:=by
 intro u hu
 unfold flat at hu
 rw[List.mem_flatMap] at hu
 obtain⟨x,_,hx⟩:=hu
 exact F.one x u hx
theorem flat_at (T:List α):∀ (j:Nat) (hj:j<T.length) (m:Nat),m<F.k→(flat F T)[j*F.k+m]? = (F.c T[j])[m]?:=by
 induction T with
 |nil=>intro j hj;simp at hj
 |cons d T ih=>
  intro j hj m hm
  rw[flat_cons]
  cases j with
  |zero=>rw[Nat.zero_mul,Nat.zero_add,List.getElem?_append_left (by rw[F.len];exact hm)];rfl
  |succ j=>
   rw[List.getElem?_append_right (by rw[F.len,Nat.add_mul];omega),F.len,show(j+1)*F.k+m - F.k=j*F.k+m by rw[Nat.add_mul];omega,ih j (by simpa using hj) m hm]
   rfl
def Cells (w:World) (g off:Nat) (T:List α):Prop:=∀ j u,(flat F T)[j]? = some u→w.cell? ⟨g,off+j,none⟩=some u
def Row (w:World) (v:Value) (T:List α):Prop:=∃ (g off:Nat) (o:Option Addr) (cap:Nat),T.length≤cap∧v=.slice o T.length cap∧(T≠[]→o=some ⟨g,off,none⟩)∧Cells F w g off T
def Mine (w:World) (base:Nat) (v:Value) (T:List α):Prop:=w.ownsRow base F.e F.k v T.length (flat F T)
end
section
variable {α:Type} {F:Kd α}
theorem Cells.below {w w':World} {g off:Nat} {T:List α} (h:Cells F w g off T) (hb:Below w.heap.size w w'):Cells F w' g off T:=fun j u hu=>
 (hb.cell (p:=⟨g,off+j,none⟩) (World.block_lt_of_cell? _ _ (h j u hu))).trans (h j u hu)
theorem Row.below {w w':World} {v:Value} {T:List α} (h:Row F w v T) (hb:Below w.heap.size w w'):Row F w' v T:=by
 obtain⟨g,off,o,cap,hc,hv,ho,hcell⟩:=h
 exact⟨g,off,o,cap,hc,hv,ho,hcell.below hb⟩
theorem Cells.drop {w:World} {g off:Nat} {T:List α} (h:Cells F w g off T) (n:Nat):Cells F w g (off+n*F.k) (T.drop n):=by
 intro j u hu
 rw[Nat.add_assoc]
 refine h _ u ?_
 by_cases hn:n≤T.length
 ·have e:flat F T=flat F (T.take n) ++ flat F (T.drop n):=by rw[← flat_append,List.take_append_drop]
  have hl:(flat F (T.take n)).length=n*F.k:=by rw[flat_length,List.length_take,Nat.min_eq_left hn]
  rw[e,List.getElem?_append_right (by omega),hl,Nat.add_sub_cancel_left]
  exact hu
 ·rw[List.drop_of_length_le (by omega)] at hu
  simp [flat] at hu
theorem Cells.take {w:World} {g off:Nat} {T:List α} (h:Cells F w g off T) (n:Nat):Cells F w g off (T.take n):=by
 intro j u hu
 refine h j u ?_
 have e:flat F T=flat F (T.take n) ++ flat F (T.drop n):=by rw[← flat_append,List.take_append_drop]
 rw[e,List.getElem?_append_left (List.getElem?_eq_some_iff.1 hu).1]
 exact hu
theorem Row.nil (w:World) (o:Option Addr) (cap:Nat):Row F w (.slice o 0 cap) []:=⟨0,0,o,cap,Nat.zero_le _,rfl,fun h=>absurd rfl h,fun j u h=>by simp [flat] at h⟩
theorem Mine.row {w:World} {base:Nat} {v:Value} {T:List α} (h:Mine F w base v T):Row F w v T:=by
 have h0:=h
 rcases h.2 with⟨rfl,b⟩|⟨g,cap,cur,rfl,_,_,hcap,_⟩
 ·have:T=[]:=List.eq_nil_of_length_eq_zero b
  subst this
  exact Row.nil w none 0
 ·refine⟨g,0,_,cap,hcap,rfl,fun _=>rfl,fun j u hu=>?_⟩
  have:=World.ownsRow.cells h0 (g:=g) rfl j u hu
  rw[Addr.add_lit] at this
  exact this
theorem Mine.nil (w:World) (base:Nat):Mine F w base (.slice none 0 0) []:=World.ownsRow_nil _ _ _ _
theorem Mine.below {w w':World} {base:Nat} {v:Value} {T:List α} (h:Mine F w base v T) (hb:Below w.heap.size w w'):Mine F w' base v T:=by
 refine⟨h.1,?_⟩
 rcases h.2 with hn|⟨g,cap,cur,rfl,hg,hc,rest⟩
 ·exact .inl hn
 ·exact .inr ⟨g,cap,cur,rfl,hg,(hb.block g (Array.getElem?_eq_some_iff.1 hc).1).trans hc,rest⟩
theorem Mine.mono {w:World} {B0 B1:Nat} {v:Value} {T:List α} (h:Mine F w B0 v T) (hB:B1≤B0):Mine F w B1 v T:=by
 refine⟨h.1,?_⟩
 rcases h.2 with hn|⟨g,cap,cur,rfl,hg,rest⟩
 ·exact .inl hn
 ·exact .inr ⟨g,cap,cur,rfl,by omega,rest⟩
theorem Row.new (w:World) (T:List α):Row F (w.alloc (.cells (flat F T).toArray F.e)) (.slice (some ⟨w.heap.size,0,none⟩) T.length T.length) T:=by
 refine⟨w.heap.size,0,_,_,Nat.le_refl _,rfl,fun _=>rfl,fun j u hu=>?_⟩
 have:=cell_of_row (w.alloc (.cells (flat F T).toArray F.e)) w.heap.size (0+j) _ F.e (0,0) (heap_alloc_last w _)
 rw[this]
 simpa using hu
theorem run_append_row {w:World} {base:Nat} {v sv:Value} {T0 T:List α} (hown:Mine F w base v T0) (hr:Row F w sv T) (hb:base≤w.heap.size) (hm:T0.length+T.length≤maxLen) (hby:(T0.length+T.length)*F.bytes≤140737488355328) :
  ∃ v' w',(∀ ty,(Builtin.append_ #[F.t,F.t] ty #[v,sv]).run Tryz.prog w=.ok v' w')∧Mine F w' base v' (T0 ++ T)∧w.grownBy w' v.ownBlock:=by
 obtain⟨i0,hi,hz0,hz1,hz2⟩:=info_parts F.hi
 obtain⟨g,off,o,cap,hc,rfl,ho,hcell⟩:=hr
 have main:∀ ad:Addr,(∀ j u,(flat F T)[j]? = some u→w.cell? (ad.add j)=some u)→∃ v' w',(∀ ty,(Builtin.append_ #[F.t,F.t] ty #[v,.slice (some ad) T.length cap]).run Tryz.prog w=.ok v' w')∧Mine F w' base v' (T0 ++ T)∧w.grownBy w' v.ownBlock:=by
  intro ad hcc
  obtain⟨v',w',h1,h2,h3,_⟩:=run_append_own (P:=Tryz.prog) w base F.t 0 F.e i0 F.z F.k F.bytes F.ht hi hz0 hz1 hz2 F.hz F.hk v T0.length (flat F T0) hown ad T.length cap (flat F T) (flat_length F T) hcc (flat_one F T) hm hby hb
  refine⟨v',w',fun ty=>h1,?_,h3⟩
  unfold Mine
  rw[List.length_append,flat_append]
  exact h2
 by_cases hT:T=[]
 ·subst hT
  cases o with
  |some ad=>exact main ad (fun j u hu=>by simp [flat] at hu)
  |none=>
   refine⟨v,w,fun ty=>?_,by rw[List.append_nil];exact hown,World.grownBy.refl _ _⟩
   rcases hown.2 with⟨rfl,h0⟩|⟨g',cap',cur,rfl,_,_,hnc,_⟩
   ·simp [Builtin.append_,run_underlying F.ht,sizeOf,typeInfo,hi,Builtin.lenOf,Builtin.firstCells]
   ·simp [Builtin.append_,run_underlying F.ht,sizeOf,typeInfo,hi,Builtin.lenOf,Builtin.firstCells,hnc,storeCells]
 ·rw[ho hT]
  exact main _ (fun j u hu=>by rw[Addr.add_lit];exact hcell j u hu)
theorem Mine.more {w W w2:World} {base:Nat} {v:Value} {T0:List α} {K:Nat} (hown:Mine F W base v T0) (hb:Below K w W) (hK:K≤base) (hKW:K≤W.heap.size) (hg:W.grownBy w2 v.ownBlock):Below K w w2:=
 hb.grown hg hKW (fun k hk=>Nat.le_trans hK ((World.ownsRow.lt hown k hk).1))
theorem Row.len {w:World} {v:Value} {T:List α} (h:Row F w v T):∃ o cap,v=.slice o T.length cap:=by
 obtain⟨_,_,o,cap,_,hv,_⟩:=h
 exact⟨o,cap,hv⟩
theorem Row.lt {w:World} {v:Value} {T:List α} (h:Row F w v T):∃ (g off:Nat) (o:Option Addr) (cap:Nat),T.length≤cap∧v=.slice o T.length cap∧(T≠[]→o=some ⟨g,off,none⟩∧g<w.heap.size)∧Cells F w g off T:=by
 obtain⟨g,off,o,cap,hc,hv,ho,hcell⟩:=h
 refine⟨g,off,o,cap,hc,hv,fun hne=>⟨ho hne,?_⟩,hcell⟩
 have hl:0<T.length:=List.length_pos_iff.2 hne
 have:=flat_at F T 0 hl 0 F.hk
 rw[Nat.zero_mul,Nat.zero_add] at this
 obtain⟨u,hu⟩:∃ u,(F.c (T[0]'hl))[0]? = some u:=⟨_,List.getElem?_eq_getElem (by rw[F.len];exact F.hk)⟩
 rw[hu] at this
 exact World.block_lt_of_cell? _ _ (hcell 0 u this)
end
theorem cells_tk {w:World} {g off:Nat} {T:List Tk} (h:Cells tk w g off T) (n:Nat) (hn:n<T.length):w.cell? ⟨g,off+n*3,none⟩=some (.int .i64 T[n].k)∧w.cell? ⟨g,off+n*3+1,none⟩=some (.int .i64 T[n].i)∧w.cell? ⟨g,off+n*3+2,none⟩=some (.int .i64 T[n].j):=
 ⟨h _ _ (flat_at tk T n hn 0 (by decide)),h _ _ (flat_at tk T n hn 1 (by decide)),h _ _ (flat_at tk T n hn 2 (by decide))⟩
theorem cells_nd {w:World} {g off:Nat} {T:List Rn} (h:Cells nd w g off T) (n:Nat) (hn:n<T.length):w.cell? ⟨g,off+n*4,none⟩=some (.int .i64 T[n].k)∧w.cell? ⟨g,off+n*4+1,none⟩=some (.int .i64 T[n].i)∧w.cell? ⟨g,off+n*4+2,none⟩=some (.int .i64 T[n].j)∧w.cell? ⟨g,off+n*4+3,none⟩=some (.slice T[n].o T[n].n T[n].c):=
 ⟨h _ _ (flat_at nd T n hn 0 (by decide)),h _ _ (flat_at nd T n hn 1 (by decide)),h _ _ (flat_at nd T n hn 2 (by decide)),h _ _ (flat_at nd T n hn 3 (by decide))⟩
theorem cells_it {w:World} {g off:Nat} {T:List Int} (h:Cells it w g off T) (n:Nat) (hn:n<T.length):w.cell? ⟨g,off+n,none⟩=some (.int .i64 T[n]):=by
 have:=h _ _ (flat_at it T n hn 0 (by decide))
 simpa [it] using this
section
variable {α:Type} {F:Kd α}
theorem Row.from {w:World} {v:Value} {T:List α} (h:Row F w v T) (i:Nat) (hi:i≤T.length):∃ v',(∀ u,(Instr.slice F.t v (some (.int .i64 (i:Int))) none none).run Tryz.prog u=.ok v' u)∧Row F w v' (T.drop i):=by
 obtain⟨g,off,o,cap,hc,rfl,ho,hcell⟩:=h
 have hl:(T.drop i).length=T.length - i:=by rw[List.length_drop]
 refine⟨.slice (if cap=i then o else o.map (·.add (i*F.k))) (T.length - i) (cap - i),fun u=>?_,g,off+i*F.k,_,cap - i,by rw[hl];omega,by rw[hl],fun hne=>?_,hcell.drop i⟩
 ·rw[run_slice_l (P:=Tryz.prog) (w:=u) (t:=F.t) (a:=o) (len:=T.length) (cap:=cap) (ht:=F.ht') .i64 (i:Int) (by omega) (by omega)]
  rw[F.hs]
  rfl
 ·have h1:i<T.length:=by
   rcases Nat.lt_or_ge i T.length with h|h
   ·exact h
   ·exact absurd (List.drop_of_length_le h) hne
  rw[if_neg (by omega),ho (fun e=>by rw[e] at h1;simp at h1)]
  simp [Addr.add]
theorem Row.upto {w:World} {v:Value} {T:List α} (h:Row F w v T) (j:Nat) (hj:j≤T.length):∃ v',(∀ u,(Instr.slice F.t v none (some (.int .i64 (j:Int))) none).run Tryz.prog u=.ok v' u)∧Row F w v' (T.take j):=by
 obtain⟨g,off,o,cap,hc,rfl,ho,hcell⟩:=h
 have hl:(T.take j).length=j:=by rw[List.length_take];omega
 refine⟨.slice (if cap=0 then o else o.map (·.add (0*F.k))) j cap,fun u=>?_,g,off,_,cap,by rw[hl];omega,by rw[hl],fun hne=>?_,hcell.take j⟩
 ·rw[run_slice_h (P:=Tryz.prog) (w:=u) (t:=F.t) (a:=o) (len:=T.length) (cap:=cap) (ht:=F.ht') .i64 (j:Int) (by omega) (by omega)]
  rw[F.hs]
  rfl
 ·rw[ho (fun e=>by subst e;simp at hne)]
  split <;> simp [Addr.add]
end
open Go.RowKit
structure Rd where
 L:List Tk
 at':Nat
 R:List Rn
 H:List Int
 op:Nat
 (d0 d1 d2:Int)
 failed:Bool
structure RdAt (W:World) (b:Nat) (vL vR vH:Value) (σ:Rd):Prop where
 cells:W.heap[b]? = some (.cells #[vL,.int .i64 (σ.at':Int),vR,vH,.int .i64 (σ.op:Int),.int .i64 σ.d0,.int .i64 σ.d1,.int .i64 σ.d2,.bool σ.failed] 64 (0,0))
 toks:Mine tk W 0 vL σ.L
 row:Mine nd W 0 vR σ.R
 high:Mine it W 0 vH σ.H
 read:σ.at'≤σ.L.length
 few:σ.L.length≤1099511627776
theorem Mine.shape {α:Type} {F:Kd α} {w:World} {B:Nat} {v:Value} {T:List α} (h:Mine F w B v T):∃ g o cap,v=.slice o T.length cap∧(T≠[]→o=some ⟨g,0,none⟩)∧B≤g∧(g<w.heap.size∨(T=[]∧g=B)):=by
 rcases h.2 with⟨rfl,h0⟩|⟨q,cap,cur,rfl,hq,hh,rest⟩
 ·have h0:=List.eq_nil_of_length_eq_zero h0
  subst h0
  exact⟨B,none,0,rfl,fun e=>absurd rfl e,Nat.le_refl _,.inr ⟨rfl,rfl⟩⟩
 ·exact⟨q,_,cap,rfl,fun _=>rfl,hq,.inl (Array.getElem?_eq_some_iff.1 hh).1⟩
theorem Mine.cells {α:Type} {F:Kd α} {w:World} {B g cap n:Nat} {T:List α} (h:Mine F w B (.slice (some ⟨g,0,none⟩) n cap) T):Cells F w g 0 T:=by
 intro j u hu
 have:=World.ownsRow.cells h (g:=g) rfl j u hu
 rw[Addr.add_lit] at this
 exact this
theorem nine_at {w:World} {b:Nat} {x0 x1 x2 x3 x4 x5 x6 x7 x8:Value} {e:TypeId} (h:w.heap[b]? = some (.cells #[x0,x1,x2,x3,x4,x5,x6,x7,x8] e (0,0))) :
  (w.cell? ⟨b,0,none⟩=some x0∧w.cell? ⟨b,1,none⟩=some x1∧w.cell? ⟨b,2,none⟩=some x2∧w.cell? ⟨b,3,none⟩=some x3∧w.cell? ⟨b,4,none⟩=some x4∧w.cell? ⟨b,5,none⟩=some x5∧w.cell? ⟨b,6,none⟩=some x6∧w.cell? ⟨b,7,none⟩=some x7∧w.cell? ⟨b,8,none⟩=some x8)∧∀ j,w.frozen? ⟨b,j,none⟩=false:=
 ⟨⟨by rw[cell_of_row w b 0 _ _ _ h];rfl,by rw[cell_of_row w b 1 _ _ _ h];rfl,by rw[cell_of_row w b 2 _ _ _ h];rfl,by rw[cell_of_row w b 3 _ _ _ h];rfl,by rw[cell_of_row w b 4 _ _ _ h];rfl,by rw[cell_of_row w b 5 _ _ _ h];rfl,by rw[cell_of_row w b 6 _ _ _ h];rfl,by rw[cell_of_row w b 7 _ _ _ h];rfl,by rw[cell_of_row w b 8 _ _ _ h];rfl⟩,fun j=>frozen_of_row w b j _ _ h⟩
def sig (z:Int):Bool:=decide (10≤z)
def nxt (n:Nat):List Tk→Nat
 |[]=>0
 |t::r=>if sig t.k then(if n=0 then 0 else 1+nxt (n - 1) r) else 1+nxt n r
def Rd.next (σ:Rd) (n:Nat):Nat:=σ.at'+nxt n (σ.L.drop σ.at')
def Rd.ahead (σ:Rd) (n:Nat):Int:=if σ.failed then 0 else match σ.L[σ.next n]? with|some t=>t.k|none=>0
open Go.RowKit
theorem Rd.ahead_none {σ:Rd} (h:σ.failed=false) {n:Nat} (hn:σ.L.length≤σ.next n):σ.ahead n=0:=by
 unfold Rd.ahead
 rw[h,if_neg (by simp),List.getElem?_eq_none hn]
theorem Rd.ahead_some {σ:Rd} (h:σ.failed=false) {n:Nat} (hn:σ.next n<σ.L.length):σ.ahead n=(σ.L[σ.next n]).k:=by
 unfold Rd.ahead
 rw[h,if_neg (by simp),List.getElem?_eq_getElem hn]
open Go.RowKit
def lastTo (L:List Tk):Nat→Option Int
 |0=>none
 |n+1=>match L[n]? with
  |some t=>if sig t.k then some t.j else lastTo L n
  |none=>lastTo L n
def Rd.here (σ:Rd):Int:=match lastTo σ.L σ.at' with
 |some x=>x
 |none=>match σ.L[σ.next 0]? with
  |some t=>t.i
  |none=>match σ.L[0]? with
   |some t=>t.i
   |none=>0
structure Nx (W:World) (b:Nat) (vR vH:Value) (W':World) (vR' vH':Value):Prop where
 os:W'.os=W.os
 tape:W'.tape=W.tape
 output:W'.output=W.output
 size:W.heap.size≤W'.heap.size
 block:∀ k,k<W.heap.size→k≠b→vR.ownBlock≠some k→vH.ownBlock≠some k→W'.heap[k]? = W.heap[k]?
 newR:∀ k,vR'.ownBlock=some k→vR.ownBlock=some k∨W.heap.size≤k
 newH:∀ k,vH'.ownBlock=some k→vH.ownBlock=some k∨W.heap.size≤k
theorem Nx.refl (W:World) (b:Nat) (vR vH:Value):Nx W b vR vH W vR vH:=⟨rfl,rfl,rfl,Nat.le_refl _,fun _ _ _ _ _=>rfl,fun _ h=>.inl h,fun _ h=>.inl h⟩
theorem Nx.trans {W W1 W2:World} {b:Nat} {vR vH vR1 vH1 vR2 vH2:Value} (h:Nx W b vR vH W1 vR1 vH1) (k:Nx W1 b vR1 vH1 W2 vR2 vH2):Nx W b vR vH W2 vR2 vH2 where
 os:=k.os.trans h.os
 tape:=k.tape.trans h.tape
 output:=k.output.trans h.output
 size:=Nat.le_trans h.size k.size
 block q h1 h2 h3 h4:=(k.block q (Nat.lt_of_lt_of_le h1 h.size) h2 (fun e=>by rcases h.newR q e with e|e;exact h3 e;omega) (fun e=>by rcases h.newH q e with e|e;exact h4 e;omega)).trans (h.block q h1 h2 h3 h4)
 newR q hq:=by
  rcases k.newR q hq with e|e
  ·exact h.newR q e
  ·exact .inr (Nat.le_trans h.size e)
 newH q hq:=by
  rcases k.newH q hq with e|e
  ·exact h.newH q e
  ·exact .inr (Nat.le_trans h.size e)
theorem Mine.off {α:Type} {F:Kd α} {w w':World} {B b:Nat} {v:Value} {T:List α} {cs:Array Value} {e:TypeId} (h:Mine F w B v T) (hb:w.heap[b]? = some (.cells cs e (0,0))) (hne:e≠F.e) (hs:∀ k,k<w.heap.size→k≠b→w'.heap[k]? = w.heap[k]?):Mine F w' B v T:=by
 refine⟨h.1,?_⟩
 rcases h.2 with hn|⟨q,cap,cur,rfl,hq,hh,rest⟩
 ·exact .inl hn
 ·refine .inr ⟨q,cap,cur,rfl,hq,(hs q (Array.getElem?_eq_some_iff.1 hh).1 ?_).trans hh,rest⟩
  rintro rfl
  rw[hh] at hb
  simp only[Option.some.injEq,Obj.cells.injEq] at hb
  exact hne hb.2.1.symm
theorem RdAt.put {W W':World} {b:Nat} {vL vR vH:Value} {σ σ':Rd} (h:RdAt W b vL vR vH σ) (hs:∀ k,k<W.heap.size→k≠b→W'.heap[k]? = W.heap[k]?)
  (hc:W'.heap[b]? = some (.cells #[vL,.int .i64 (σ'.at':Int),vR,vH,.int .i64 (σ'.op:Int),.int .i64 σ'.d0,.int .i64 σ'.d1,.int .i64 σ'.d2,.bool σ'.failed] 64 (0,0))) (hL:σ'.L=σ.L) (hR:σ'.R=σ.R) (hH:σ'.H=σ.H) (ha:σ'.at'≤σ.L.length):RdAt W' b vL vR vH σ':=
 ⟨hc,by rw[hL];exact h.toks.off h.cells (by decide) hs,by rw[hR];exact h.row.off h.cells (by decide) hs,by rw[hH];exact h.high.off h.cells (by decide) hs,by rw[hL];exact ha,by rw[hL];exact h.few⟩
open Go.RowKit
def Rd.piece (σ:Rd):Int × Int:=match σ.L[σ.next 0]? with
 |some t=>(t.i,t.j)
 |none=>(σ.here,σ.here)
def Rd.fail (σ:Rd) (code:Int):Rd:=if σ.failed then σ else{ σ with d0:=code,d1:=σ.piece.1,d2:=σ.piece.2,failed:=true }
theorem Rd.fail_failed {σ:Rd} (h:σ.failed=true) (c:Int):σ.fail c=σ:=by unfold Rd.fail;rw[h,if_pos rfl]
theorem Rd.fail_not {σ:Rd} (h:σ.failed=false) (c:Int):σ.fail c = { σ with d0:=c,d1:=σ.piece.1,d2:=σ.piece.2,failed:=true }:=by unfold Rd.fail;rw[h,if_neg (by simp)]
def Steps (W:World) (b:Nat) (vL vR vH:Value) (σ':Rd) (e:Ending) (W':World):Prop:=∃ v vR' vH',e=.returned v∧RdAt W' b vL vR' vH' σ'∧Nx W b vR vH W' vR' vH'
def StepsB (t:Bool) (W:World) (b:Nat) (vL vR vH:Value) (σ':Rd) (e:Ending) (W':World):Prop:=∃ vR' vH',e=.returned (.bool t)∧RdAt W' b vL vR' vH' σ'∧Nx W b vR vH W' vR' vH'
theorem Nx.own {W W':World} {b:Nat} {vR vH:Value} (h1:W'.os=W.os) (h2:W'.tape=W.tape) (h3:W'.output=W.output) (h4:W'.heap.size=W.heap.size) (hs:∀ k,k<W.heap.size→k≠b→W'.heap[k]? = W.heap[k]?):Nx W b vR vH W' vR vH:=
 ⟨h1,h2,h3,by omega,fun q hq hb _ _=>hs q hq hb,fun _ h=>.inl h,fun _ h=>.inl h⟩
theorem set_one (W:World) (b o:Nat) (u:Value) (k:Nat):k≠b→(W.setCell ⟨b,o,none⟩ u).heap[k]? = W.heap[k]?:=fun hk=>Below.heap_setCell _ _ _ _ hk
theorem size_set (W:World) (b o:Nat) (u:Value):(W.setCell ⟨b,o,none⟩ u).heap.size=W.heap.size:=by simp [World.setCell]
def Rd.down (σ:Rd):Rd × Bool:=if σ.failed then(σ,false) else if 100≤σ.op then(σ.fail 202,false) else({ σ with op:=σ.op+1 },true)
def Rd.up (σ:Rd):Rd:={ σ with op:=σ.op - 1 }
open Go.RowKit
def Rd.last (σ:Rd):Int:=if σ.failed then 0 else match σ.R.getLast? with|some n=>n.k|none=>0
open Go.RowKit
def Rn.v (N:Rn):Value:=.agg #[.int .i64 N.k,.int .i64 N.i,.int .i64 N.j,.slice N.o N.n N.c]
section
variable {α β:Type} {F:Kd α} {G:Kd β}
theorem Mine.keep {w w':World} {B:Nat} {v:Value} {T:List α} (h:Mine F w B v T) (hs:∀ k,v.ownBlock=some k→k<w.heap.size→w'.heap[k]? = w.heap[k]?):Mine F w' B v T:=by
 refine⟨h.1,?_⟩
 rcases h.2 with hn|⟨q,cap,cur,rfl,hq,hh,rest⟩
 ·exact .inl hn
 ·exact .inr ⟨q,cap,cur,rfl,hq,(hs q rfl (Array.getElem?_eq_some_iff.1 hh).1).trans hh,rest⟩
theorem Mine.differs {w:World} {B B2:Nat} {v v2:Value} {T:List α} {T2:List β} (h:Mine F w B v T) (h2:Mine G w B2 v2 T2) (hne:F.e≠G.e) (k:Nat) (hk:v.ownBlock=some k):v2.ownBlock≠some k:=by
 intro hk2
 rcases h.2 with⟨rfl,_⟩|⟨q,cap,cur,rfl,hq,hh,_⟩
 ·simp [Value.ownBlock] at hk
 ·rcases h2.2 with⟨rfl,_⟩|⟨q2,cap2,cur2,rfl,hq2,hh2,_⟩
  ·simp [Value.ownBlock] at hk2
  ·simp only[Value.ownBlock,Option.some.injEq] at hk hk2
   subst hk hk2
   rw[hh] at hh2
   simp only[Option.some.injEq,Obj.cells.injEq] at hh2
   exact hne hh2.2.1
theorem Mine.ne {w:World} {B b:Nat} {v:Value} {T:List α} {cs:Array Value} {e:TypeId} (h:Mine F w B v T) (hb:w.heap[b]? = some (.cells cs e (0,0))) (hne:e≠F.e):v.ownBlock≠some b:=by
 intro hk
 rcases h.2 with⟨rfl,_⟩|⟨q,cap,cur,rfl,hq,hh,_⟩
 ·simp [Value.ownBlock] at hk
 ·simp only[Value.ownBlock,Option.some.injEq] at hk
  subst hk
  rw[hh] at hb
  simp only[Option.some.injEq,Obj.cells.injEq] at hb
  exact hne hb.2.1.symm
theorem Mine.lt {w:World} {B:Nat} {v:Value} {T:List α} (h:Mine F w B v T) (k:Nat) (hk:v.ownBlock=some k):k<w.heap.size:=(World.ownsRow.lt h k hk).2
theorem Mine.free {w:World} {B g cap m:Nat} {T:List α} (h:Mine F w B (.slice (some ⟨g,0,none⟩) m cap) T) (j:Nat):w.frozen? ⟨g,j,none⟩=false:=by
 have hm:m=T.length:=by
  rcases h.2 with⟨h',_⟩|⟨g',cap',cur,h',_⟩
  ·simp at h'
  ·simp only[Value.slice.injEq] at h'
   exact h'.2.1
 subst hm
 exact World.ownsRow.frozenAt h j
theorem app_lies {w:World} {base:Nat} {v:Value} {T0:List α} {x:α} {ad:Nat} (hown:Mine F w base v T0) (hh:w.heap[ad]? = some (.cells (F.c x).toArray F.e (0,0))) (hb:base≤w.heap.size) (hm:T0.length+1≤maxLen) (hby:(T0.length+1)*F.bytes≤140737488355328) :
  ∃ g cap w',(∀ ty,(Builtin.append_ #[F.t,F.t] ty #[v,.slice (some ⟨ad,0,none⟩) 1 1]).run Tryz.prog w=.ok (.slice (some ⟨g,0,none⟩) (T0.length+1) cap) w')∧Mine F w' base (.slice (some ⟨g,0,none⟩) (T0.length+1) cap) (T0 ++ [x])∧w.grownBy w' v.ownBlock∧(v.ownBlock=some g∨g=w.heap.size):=by
 obtain⟨i0,hi,hz0,hz1,hz2⟩:=info_parts F.hi
 obtain⟨g,cap,w',h1,h2,h3,h4,_⟩:=run_append_lies (P:=Tryz.prog) w F.t 0 base F.e i0 F.z F.k F.bytes F.ht hi hz0 hz1 hz2 F.hz F.hk v T0.length (flat F T0) hown ⟨ad,0,none⟩ 1 1 (flat F [x]) (flat_length F [x]) (fun j u hu=>by
  rw[Addr.add_lit,cell_of_row w ad (0+j) _ _ (0,0) hh,Nat.zero_add]
  simpa [flat] using hu) (flat_one F [x]) (by omega) hm hby hb w.heap.size rfl
 refine⟨g,cap,w',fun ty=>h1,?_,h3,h4⟩
 unfold Mine
 rw[List.length_append,flat_append]
 exact h2
end
theorem flat_set_nd (T:List Rn) (t:Rn):∀ n,n<T.length→flat nd (T.set n t)=((((flat nd T).set (n*4) (.int .i64 t.k)).set (n*4+1) (.int .i64 t.i)).set (n*4+2) (.int .i64 t.j)).set (n*4+3) (.slice t.o t.n t.c):=by
 induction T with
 |nil=>intro n h;simp at h
 |cons d T ih=>
  intro n h
  have e:∀ (d:Rn) (T:List Rn),flat nd (d::T)=.int .i64 d.k :: .int .i64 d.i :: .int .i64 d.j :: .slice d.o d.n d.c::flat nd T:=fun _ _=>rfl
  cases n with
  |zero=>rw[List.set_cons_zero,e,e];rfl
  |succ n=>
   rw[List.set_cons_succ,e,e,ih n (by simpa using h),show(n+1)*4=n*4+1+1+1+1 by omega,show n*4+1+1+1+1+2=n*4+2+1+1+1+1 by omega,show n*4+1+1+1+1+3=n*4+3+1+1+1+1 by omega]
   rfl
theorem Mine.put_nd {w:World} {B g cap m:Nat} {T:List Rn} (h:Mine nd w B (.slice (some ⟨g,0,none⟩) m cap) T) (hm:T.length=m) (n:Nat) (hn:n<T.length) (t:Rn) :
  Mine nd ((((w.setCell ⟨g,n*4,none⟩ (.int .i64 t.k)).setCell ⟨g,n*4+1,none⟩ (.int .i64 t.i)).setCell ⟨g,n*4+2,none⟩ (.int .i64 t.j)).setCell ⟨g,n*4+3,none⟩ (.slice t.o t.n t.c)) B (.slice (some ⟨g,0,none⟩) m cap) (T.set n t):=by
 unfold Mine at *
 rw[List.length_set,flat_set_nd T t n hn,hm]
 rw[hm] at h
 exact((((h.stored _ _).1.stored _ _).1.stored _ _).1.stored _ _).1
theorem RdAt.below {W W':World} {b:Nat} {vL vR vH:Value} {σ:Rd} (h:RdAt W b vL vR vH σ) (hb:Below W.heap.size W W'):RdAt W' b vL vR vH σ:=
 ⟨(hb.block b (Array.getElem?_eq_some_iff.1 h.cells).1).trans h.cells,h.toks.below hb,h.row.below hb,h.high.below hb,h.read,h.few⟩
theorem Nx.below {W W':World} {b:Nat} {vR vH:Value} (hb:Below W.heap.size W W'):Nx W b vR vH W' vR vH:=
 ⟨hb.os,hb.tape,hb.output,hb.size,fun k hk _ _ _=>hb.block k hk,fun _ h=>.inl h,fun _ h=>.inl h⟩
open Go.RowKit
theorem step_append_ex {P:Program} {w:World} {ops:Array Oper} {o:Oper} {a:Act} {K:Act→World→Prop} {Q:Exit→Act→World→Prop} {E:Prop} (hgd:o.guard=none) (s x:Operand) (t tn:TypeId)
  (ho:o.op=.call { callee:=.builtin .append,args:=#[s,x],argTypes:=#[t,tn] }) (vs vx:Value) (hs:a.eval s=vs) (hx:a.eval x=vx)
  {R:Value→World→Prop} (hr:∃ v' w',(∀ ty,(Builtin.append_ #[t,tn] ty #[vs,vx]).run P w=.ok v' w')∧R v' w') (h:∀ v' w',R v' w'→K (a.put o.dst v') w') :
  if Region.wanted o (yielded ops a.tmps)=true then Oper.wp P o a w K Q else E:=by
 have hw:Region.wanted o (yielded ops a.tmps)=true:=by simp [Region.wanted,hgd]
 rw[if_pos hw]
 obtain⟨v',w',h1,h2⟩:=hr
 exact Lib.wp_append_run w s x t tn ho vs vx hs hx v' w' (h1 _) (h v' w' h2)
open Go.RowKit
def leaf (t:Tk):Rn:=⟨t.k,t.i,t.j,none,0,0⟩
def Rd.run (σ:Rd) (n:Nat):Rd:={ σ with at':=σ.at'+n,R:=σ.R ++ ((σ.L.drop σ.at').take n).map leaf,H:=σ.H ++ List.replicate n 0 }
theorem Rd.run_zero (σ:Rd):σ.run 0=σ:=by simp [Rd.run]
def Rd.take (σ:Rd):Rd:=if σ.ahead 0=0 then σ else σ.run (σ.next 0+1 - σ.at')
open Go.RowKit
def Rd.none (σ:Rd):Rd:=if σ.failed then σ else{ σ with R:=σ.R ++ [⟨200,σ.here,σ.here,Option.none,0,0⟩],H:=σ.H ++ [0] }
def Rd.expect (σ:Rd) (k:Int):Rd × Bool:=if k≠0∧σ.ahead 0=k then(σ.take,true) else(σ.fail 201,false)
open Go.RowKit
open Go.RowKit
def Rn.zero:Rn:=⟨0,0,0,Option.none,0,0⟩
open Go.RowKit
inductive Tree where
 |mk (k i j:Int) (l:List Tree)
def Tree.k:Tree→Int|.mk k _ _ _=>k
def Tree.i:Tree→Int|.mk _ i _ _=>i
def Tree.j:Tree→Int|.mk _ _ j _=>j
def Tree.l:Tree→List Tree|.mk _ _ _ l=>l
def Tk.tree (t:Tk):Tree:=.mk t.k t.i t.j []
structure St where
 L:List Tk
 at':Nat
 R:List Tree
 H:List Int
 op:Nat
inductive Res where
 |ok (s:St)
 |fail (d0 d1 d2:Int)
def St.next (s:St) (n:Nat):Nat:=s.at'+nxt n (s.L.drop s.at')
def St.ahead (s:St) (n:Nat):Int:=match s.L[s.next n]? with|some t=>t.k|none=>0
def St.here (s:St):Int:=match lastTo s.L s.at' with
 |some x=>x
 |none=>match s.L[s.next 0]? with
  |some t=>t.i
  |none=>match s.L[0]? with
   |some t=>t.i
   |none=>0
def St.piece (s:St):Int × Int:=match s.L[s.next 0]? with
 |some t=>(t.i,t.j)
 |none=>(s.here,s.here)
def St.fail (s:St) (c:Int):Res:=.fail c s.piece.1 s.piece.2
def St.run (s:St) (n:Nat):St:={ s with at':=s.at'+n,R:=s.R ++ ((s.L.drop s.at').take n).map Tk.tree,H:=s.H ++ List.replicate n 0 }
def St.take (s:St):St:=if s.ahead 0=0 then s else s.run (s.next 0+1 - s.at')
def St.none (s:St):St:={ s with R:=s.R ++ [.mk 200 s.here s.here []],H:=s.H ++ [0] }
def St.expect (s:St) (k:Int):Res:=if k≠0∧s.ahead 0=k then .ok s.take else s.fail 201
def St.down (s:St):Res:=if 100≤s.op then s.fail 202 else .ok { s with op:=s.op+1 }
def St.up (s:St):St:={ s with op:=s.op - 1 }
def clamp (m:Int) (n:Nat):Nat:=(max 0 (min m (n:Int))).toNat
def leadT:List Tree→Nat
 |[]=>0
 |t::r=>if sig t.k then 0 else leadT r+1
def highOf (a:Int) (l:List Int):Int:=l.foldl (fun a x=>max a (x+1)) a
def fromOf (h:Int):List Tree→Int
 |[]=>h
 |t::_=>t.i
def toOf (h:Int) (l:List Tree):Int:=match l.getLast? with|some t=>t.j|none=>h
def St.closed (s:St) (m:Nat) (k:Int):St:=
 { s with R:=s.R.take m ++ [.mk k (fromOf s.here (s.R.drop m)) (toOf s.here (s.R.drop m)) (s.R.drop m)],H:=s.H.take m ++ [highOf 1 (s.H.drop m)] }
def St.mark (s:St) (m:Int):Nat:=clamp m s.R.length+leadT (s.R.drop (clamp m s.R.length))
def St.close (s:St) (m:Int) (k:Int):Res:=
 if 100<highOf 1 (s.H.drop (s.mark m)) then s.fail 202 else .ok (s.closed (s.mark m) k)
def St.last (s:St):Int:=match s.R.getLast? with|some t=>t.k|.none=>0
def chk:Res→Option Res
 |.ok s=>if s.R.length+s.L.length≤549755813888 then some (.ok s) else none
 |.fail a b c=>some (.fail a b c)
def lift (f:St→Res):Res→Option Res
 |.ok s=>chk (f s)
 |.fail a b c=>some (.fail a b c)
def rTake:Res→Option Res:=lift fun s=>.ok s.take
def rNone:Res→Option Res:=lift fun s=>.ok s.none
def rExpect (k:Int):Res→Option Res:=lift fun s=>s.expect k
def rDown:Res→Option Res:=lift fun s=>s.down
def rUp:Res→Option Res:=lift fun s=>.ok s.up
def rFail (c:Int):Res→Option Res:=lift fun s=>s.fail c
def rClose (m k:Int):Res→Option Res:=lift fun s=>s.close m k
def Res.ahead (x:Res) (n:Nat):Int:=match x with|.ok s=>s.ahead n|.fail _ _ _=>0
def Res.kind (x:Res):Int:=x.ahead 0
def Res.len (x:Res):Nat:=match x with|.ok s=>s.R.length|.fail _ _ _=>0
def Res.bad (x:Res):Bool:=match x with|.ok _=>false|.fail _ _ _=>true
def headT:List Tree→Tree
 |[]=>.mk 0 0 0 []
 |t::r=>if sig t.k then t else headT r
def partT:List Tree→Tree
 |[]=>.mk 0 0 0 []
 |t::r=>if decide (200≤t.k) then t else partT r
def namedT (t:Tree):Bool:=t.k == 201 || (t.k == 207 && (partT t.l).k == 201)
def literalT (t:Tree) (h:Bool):Bool:=t.k == 220 || t.k == 221 || t.k == 222 || t.k == 224 || (!h && (namedT t || (t.k == 208 && namedT (partT t.l))))
def Res.lit (x:Res) (m:Nat) (h:Bool):Bool:=match x with|.ok s=>literalT (headT (s.R.drop m)) h|.fail _ _ _=>false
def precOf (z:Int):Int:=
 if [22,23,24,25,28,29,30].contains z then 5 else if [20,21,26,27].contains z then 4 else if [46,47,48,52,53,54].contains z then 3 else if z=42 then 2 else if z=43 then 1 else 0
inductive Pc where
 |X (h:Bool)
 |binary (p:Int) (h:Bool)
 |binL (p:Int) (h:Bool) (m:Nat)
 |unary (h:Bool)
 |primary (h:Bool)
 |primL (h:Bool) (m:Nat)
 |period (m:Nat)
 |index (m:Nat)
 |idxL
 |cut (m:Nat)
 |call (m:Nat)
 |callL
 |value
 |values
 |valL
 |operand
 |flat
 |flatL (c:Nat)
 |type
 |tyL
 |array (m:Nat)
 |items (f:Bool)
 |itL (f:Bool)
 |field
 |element
 |union
 |unionL
 |term
 |sig
 |params
 |entry
 |list (h:Bool)
 |listL (h:Bool)
 |tparams
 |tpL
 |group
 |names
def rName (x:Res):Option Res:=do rClose x.len 201 (← rExpect 10 x)
def rQualified (x:Res):Option Res:=do
 let y ← rName x
 if y.kind=61 then do rClose x.len 207 (← rName (← rTake y)) else some y
def Res.sigs:Res→List Int
 |.ok s=>((s.L.drop s.at').filter fun t=>rd.sig t.k).map Tk.k
 |.fail _ _ _=>[]
def behindOf:Nat→List Int→Int
 |_,[]=>0
 |c,k::r=>if k=58 then behindOf (c+1) r else if k=63 then(if c≤1 then r.headD 0 else behindOf (c - 1) r) else behindOf c r
def Res.named (x:Res):Bool:=
 if x.kind=10 then
  if x.ahead 1=60∨x.ahead 1=62∨x.ahead 1=61 then false
  else if x.ahead 1=58 then
   x.ahead 2 == 63 || (behindOf 0 (x.sigs.drop 1) != 0 && behindOf 0 (x.sigs.drop 1) != 60 && behindOf 0 (x.sigs.drop 1) != 62)
  else true
 else false
structure Ent where
 (a b:Nat) (is:Bool)
def rEnts (one:Res→Option Res):Nat→List Ent→Res→Option (Res × List Ent)
 |0,_,_=>none
 |n+1,l,x=>if x.bad=true∨x.kind=62 then some (x,l) else do
  let y ← one x
  if y.kind=60 then do rEnts one n (l ++ [⟨x.len,y.len,x.named⟩]) (← rTake y) else some (y,l ++ [⟨x.len,y.len,x.named⟩])
def unfit (R:List Tree):List Ent→Bool
 |[]=>false
 |e::r=>(!e.is && (r.isEmpty || (headT (R.drop e.a)).k != 201)) || unfit R r
def St.back (s:St) (R:List Tree) (H:List Int) (a b:Nat):St:={ s with R:=s.R ++ (R.drop a).take (b - a),H:=s.H ++ (H.drop a).take (b - a) }
def rGroups (R:List Tree) (H:List Int) (any:Bool):List Ent→Nat→Nat→Res→Option Res
 |[],_,_,x=>some x
 |e::r,m,a,x=>match x with
  |.fail d0 d1 d2=>some (.fail d0 d1 d2)
  |.ok s=>
   if !any || e.is then do
    let y ← rClose m 233 (.ok (s.back R H a e.b))
    match y with
    |.fail d0 d1 d2=>some (.fail d0 d1 d2)
    |.ok t=>
     let b:=match r with|[]=>R.length|f::_=>f.a
     let u:=t.back R H e.b b
     rGroups R H any r u.R.length b (.ok u)
   else rGroups R H any r m e.b (.ok (s.back R H a e.b))
def rGroup (l:List Ent) (any:Bool):Res→Option Res
 |.fail d0 d1 d2=>some (.fail d0 d1 d2)
 |.ok s=>match l with
  |[]=>some (.ok s)
  |e::_=>rGroups s.R s.H any l e.a e.a (.ok { s with R:=s.R.take e.a,H:=s.H.take e.a })
def wfE:Nat→List Ent→Nat→Bool
 |lo,[],n=>decide (lo≤n)
 |lo,e::r,n=>decide (lo≤e.a) && decide (e.a≤e.b) && wfE e.b r n
def rFinish (m:Nat) (l:List Ent):Res→Option Res
 |.fail d0 d1 d2=>some (.fail d0 d1 d2)
 |.ok s=>
  if (wfE 0 l s.R.length && decide (s.R.length+l.length+s.L.length≤549755813888))=true then
   if (l.any (·.is) && unfit s.R l)=true then rFail 201 (.ok s)
   else do rClose m 232 (← rExpect 62 (← rGroup l (l.any (·.is)) (.ok s)))
  else none
def run:Nat→Pc→Res→Option Res
 |_,_,.fail a b c=>some (.fail a b c)
 |0,_,.ok _=>none
 |n+1,p,.ok s=>
  let x:=Res.ok s
  let m:=s.R.length
  match p with
  |.X h=>do rUp (← run n (.binary 1 h) (← rDown x))
  |.binary p h=>do run n (.binL p h m) (← run n (.unary h) x)
  |.binL p h m=>
   let q:=precOf x.kind
   if q=0∨q<p then some x else do
    run n (.binL p h m) (← rClose m 206 (← run n (.binary (q+1) h) (← rTake x)))
  |.unary h=>
   if x.kind=22 then do rClose m 205 (← rUp (← run n (.unary h) (← rDown (← rTake x))))
   else if x.kind=20∨x.kind=21∨x.kind=50∨x.kind=27∨x.kind=25 then do rClose m 204 (← rUp (← run n (.unary h) (← rDown (← rTake x))))
   else run n (.primary h) x
  |.primary h=>do run n (.primL h m) (← run n .operand x)
  |.primL h m=>
   if x.kind=61 then do run n (.primL h m) (← run n (.period m) x)
   else if x.kind=58 then do run n (.primL h m) (← run n (.index m) x)
   else if x.kind=57 then do run n (.primL h m) (← run n (.call m) x)
   else if x.kind=59∧x.lit m h=true then do run n (.primL h m) (← rClose m 213 (← run n .values x))
   else some x
  |.period m=>do
   let y ← rTake x
   if y.kind=10 then do rClose m 207 (← rName y)
   else if y.kind=57 then do
    let z ← rTake y
    if z.kind=89 then do rClose m 212 (← rExpect 62 (← rTake z))
    else do rClose m 211 (← rExpect 62 (← run n .type z))
   else rFail 201 y
  |.index m=>do
   let y ← rTake x
   let z ← if y.kind=65 then rNone y else run n (.X false) y
   if z.kind=65 then run n (.cut m) z
   else do rClose m 208 (← rExpect 63 (← run n .idxL z))
  |.idxL=>
   if x.kind=60 then do
    let y ← rTake x
    if y.kind=63 then run n .idxL y else do run n .idxL (← run n (.X false) y)
   else some x
  |.cut m=>do
   let y ← rTake x
   if y.kind=65∨y.kind=63 then do
    let z ← rNone y
    if z.kind=65 then rFail 201 z else do rClose m 209 (← rExpect 63 z)
   else do
    let z ← run n (.X false) y
    if z.kind=65 then do rClose m 209 (← rExpect 63 (← run n (.X false) (← rTake z)))
    else do rClose m 209 (← rExpect 63 z)
  |.call m=>do rClose m 210 (← rExpect 62 (← run n .callL (← rTake x)))
  |.callL=>
   if x.kind=62 then some x else do
    let y ← run n (.X false) x
    if y.kind=56 then do
     let z ← rTake y
     if z.kind=60 then rTake z else some z
    else if y.kind=60 then do run n .callL (← rTake y)
    else some y
  |.value=>
   if x.kind=59 then do
    let y ← rDown x
    rUp (← rClose y.len 214 (← run n .values y))
   else run n (.X false) x
  |.values=>do rExpect 64 (← run n .valL (← rExpect 59 x))
  |.valL=>
   if x.kind=64 then some x else do
    let y ← run n .value x
    let z ← if y.kind=65 then do rClose m 215 (← run n .value (← rTake y)) else some y
    if z.kind=60 then do run n .valL (← rTake z) else some z
  |.operand=>
   if x.kind=10 then rName x
   else if x.kind=11∨x.kind=12∨x.kind=13∨x.kind=14 then do rClose m 202 (← rTake x)
   else if x.kind=57 then do rClose m 203 (← rExpect 62 (← run n (.X false) (← rTake x)))
   else if x.kind=79 then do
    let y ← run n .sig (← rTake x)
    if y.kind=59 then do rClose m 216 (← run n .flat y) else rClose m 223 y
   else if x.kind=58∨x.kind=83∨x.kind=87∨x.kind=82 then run n .type x
   else rFail 201 x
  |.flat=>do rClose m 217 (← run n (.flatL 1) (← rExpect 59 x))
  |.flatL c=>
   if c=0 then some x
   else if x.kind=0 then rFail 201 x
   else if x.kind=59 then do run n (.flatL (c+1)) (← rTake x)
   else if x.kind=64 then do run n (.flatL (c - 1)) (← rTake x)
   else do run n (.flatL c) (← rTake x)
  |.type=>do
   let y ← rDown x
   if y.bad=true then some y else do
    let u ← if y.kind=10 then do
      let z ← rQualified y
      if z.kind=58 then do rClose y.len 208 (← rExpect 63 (← run n .tyL (← run n .type (← rTake z)))) else some z
     else if y.kind=57 then do rClose y.len 203 (← rExpect 62 (← run n .type (← rTake y)))
     else if y.kind=22 then do rClose y.len 205 (← run n .type (← rTake y))
     else if y.kind=79 then do rClose y.len 223 (← run n .sig (← rTake y))
     else if y.kind=58 then run n (.array y.len) y
     else if y.kind=83 then do rClose y.len 222 (← run n .type (← rExpect 63 (← run n .type (← rExpect 58 (← rTake y)))))
     else if y.kind=87 then do rClose y.len 224 (← run n (.items true) (← rTake y))
     else if y.kind=82 then do rClose y.len 227 (← run n (.items false) (← rTake y))
     else rFail 201 y
    rUp u
  |.tyL=>
   if x.kind=60 then do
    let y ← rTake x
    if y.kind=63 then run n .tyL y else do run n .tyL (← run n .type y)
   else some x
  |.array m=>do
   let y ← rTake x
   if y.kind=63 then do rClose m 220 (← run n .type (← rTake y))
   else do
    let z ← if y.kind=56 then do rClose y.len 218 (← rTake y) else run n (.X false) y
    rClose m 221 (← run n .type (← rExpect 63 z))
  |.items f=>do rExpect 64 (← run n (.itL f) (← rExpect 59 x))
  |.itL f=>
   if x.kind=64 then some x else do
    let y ← match f with|true=>run n .field x|false=>run n .element x
    if y.kind=15∨y.kind=16 then do run n (.itL f) (← rTake y) else some y
  |.field=>
   if x.kind=22 then do rClose m 226 (← rClose m 205 (← rQualified (← rTake x)))
   else if x.kind=10∧(x.ahead 1=15∨x.ahead 1=16∨x.ahead 1=64∨x.ahead 1=61) then do rClose m 226 (← rQualified x)
   else do rClose m 225 (← run n .type (← run n .names (← rName x)))
  |.element=>
   if x.kind=10∧x.ahead 1=57 then do rClose m 228 (← run n .sig (← rName x))
   else do rClose m 229 (← run n .union x)
  |.union=>do run n .unionL (← run n .term x)
  |.unionL=>if x.kind=26 then do run n .unionL (← run n .term (← rTake x)) else some x
  |.term=>
   if x.kind=51 then do rClose m 230 (← run n .type (← rTake x)) else run n .type x
  |.sig=>do
   let y ← run n .params x
   let z ← if y.kind=57 then run n .params y
    else if y.kind=10∨y.kind=22∨y.kind=58∨y.kind=83∨y.kind=87∨y.kind=82∨y.kind=79 then run n .type y
    else rNone y
   rClose m 231 z
  |.params=>do
   let (y,l) ← rEnts (run n .entry) n [] (← rExpect 57 x)
   rFinish m l y
  |.entry=>do
   let y ← if x.named=true then rName x else some x
   if y.kind=56 then do rClose y.len 234 (← run n .type (← rTake y)) else run n .type y
  |.list h=>do rClose m 246 (← run n (.listL h) (← run n (.X h) x))
  |.listL h=>if x.kind=60 then do run n (.listL h) (← run n (.X h) (← rTake x)) else some x
  |.tparams=>do rClose m 264 (← rExpect 63 (← run n .tpL (← rExpect 58 x)))
  |.tpL=>do
   let y ← run n .group x
   if y.kind=60 then do
    let z ← rTake y
    if z.kind=63 then some z else run n .tpL z
   else some y
  |.names=>if x.kind=60 then do run n .names (← rName (← rTake x)) else some x
  |.group=>do
   let y ← run n .names (← rName x)
   let z ← run n .term y
   let u ← if z.kind=26 then do rClose y.len 229 (← run n .unionL z)
    else if y.kind=51 then rClose y.len 229 z
    else some z
   rClose m 233 u
open Go.RowKit
mutual
def Tie (w:World) (D:Nat→Prop):Tree→Rn→Prop
 |.mk k i j l,n=>n.k=k∧n.i=i∧n.j=j∧n.n=l.length∧∃ (g off:Nat) (R:List Rn),(n.n≤n.c∧l.length≤1099511627776)∧(l≠[]→n.o=some ⟨g,off,none⟩∧D g)∧Cells nd w g off R∧Ties w D l R
def Ties (w:World) (D:Nat→Prop):List Tree→List Rn→Prop
 |[],R=>R=[]
 |t::l,R=>∃ n R',R=n::R'∧Tie w D t n∧Ties w D l R'
end
theorem cell_same {w w':World} {g:Nat} (h:w'.heap[g]? = w.heap[g]?) (o:Nat):w'.cell? ⟨g,o,none⟩=w.cell? ⟨g,o,none⟩:=by
 simp only[World.cell?,h]
mutual
theorem Tie.keep {w w':World} {D D':Nat→Prop} (hs:∀ g,D g→w'.heap[g]? = w.heap[g]?) (hD:∀ g,D g→D' g):∀ (t:Tree) (n:Rn),Tie w D t n→Tie w' D' t n
 |.mk k i j l,n,h=>by
  rw[Tie] at h ⊢
  obtain⟨h1,h2,h3,h4,g,off,R,h5,h6,h7,h8⟩:=h
  refine⟨h1,h2,h3,h4,g,off,R,h5,fun e=>⟨(h6 e).1,hD _ (h6 e).2⟩,?_,Ties.keep hs hD l R h8⟩
  cases l with
  |nil=>
   rw[Ties] at h8
   subst h8
   intro j u hu
   simp [flat] at hu
  |cons t l=>exact fun j u hu=>(cell_same (hs g (h6 (by simp)).2) _).trans (h7 j u hu)
theorem Ties.keep {w w':World} {D D':Nat→Prop} (hs:∀ g,D g→w'.heap[g]? = w.heap[g]?) (hD:∀ g,D g→D' g):∀ (l:List Tree) (R:List Rn),Ties w D l R→Ties w' D' l R
 |[],R,h=>by rw[Ties] at h ⊢;exact h
 |t::l,R,h=>by
  rw[Ties] at h ⊢
  obtain⟨n,R',h1,h2,h3⟩:=h
  exact⟨n,R',h1,Tie.keep hs hD t n h2,Ties.keep hs hD l R' h3⟩
end
theorem Ties.nil {w:World} {D:Nat→Prop}:Ties w D [] []:=by rw[Ties]
theorem Ties.cons {w:World} {D:Nat→Prop} {t:Tree} {n:Rn} {l:List Tree} {R:List Rn} (h:Tie w D t n) (h2:Ties w D l R):Ties w D (t::l) (n::R):=by rw[Ties];exact⟨n,R,rfl,h,h2⟩
theorem Ties.append {w:World} {D:Nat→Prop}:∀ {l:List Tree} {R:List Rn} {l2:List Tree} {R2:List Rn},Ties w D l R→Ties w D l2 R2→Ties w D (l ++ l2) (R ++ R2)
 |[],R,l2,R2,h,h2=>by rw[Ties] at h;subst h;exact h2
 |t::l,R,l2,R2,h,h2=>by
  rw[Ties] at h
  obtain⟨n,R',rfl,h3,h4⟩:=h
  exact Ties.cons h3 (h4.append h2)
theorem Ties.length {w:World} {D:Nat→Prop}:∀ {l:List Tree} {R:List Rn},Ties w D l R→R.length=l.length
 |[],R,h=>by rw[Ties] at h;subst h;rfl
 |t::l,R,h=>by
  rw[Ties] at h
  obtain⟨n,R',rfl,_,h4⟩:=h
  rw[List.length_cons,List.length_cons,h4.length]
theorem Ties.drop {w:World} {D:Nat→Prop}:∀ {l:List Tree} {R:List Rn} (m:Nat),Ties w D l R→Ties w D (l.drop m) (R.drop m)
 |_,_,0,h=>h
 |[],R,m+1,h=>by rw[Ties] at h;subst h;exact Ties.nil
 |t::l,R,m+1,h=>by
  rw[Ties] at h
  obtain⟨n,R',rfl,_,h4⟩:=h
  exact h4.drop m
theorem Ties.take {w:World} {D:Nat→Prop}:∀ {l:List Tree} {R:List Rn} (m:Nat),Ties w D l R→Ties w D (l.take m) (R.take m)
 |_,_,0,_=>Ties.nil
 |[],R,m+1,h=>by rw[Ties] at h;subst h;exact Ties.nil
 |t::l,R,m+1,h=>by
  rw[Ties] at h
  obtain⟨n,R',rfl,h3,h4⟩:=h
  exact Ties.cons h3 (h4.take m)
theorem Tie.k {w:World} {D:Nat→Prop} {t:Tree} {n:Rn} (h:Tie w D t n):n.k=t.k:=by cases t;rw[Tie] at h;exact h.1
theorem Tie.i {w:World} {D:Nat→Prop} {t:Tree} {n:Rn} (h:Tie w D t n):n.i=t.i:=by cases t;rw[Tie] at h;exact h.2.1
theorem Tie.j {w:World} {D:Nat→Prop} {t:Tree} {n:Rn} (h:Tie w D t n):n.j=t.j:=by cases t;rw[Tie] at h;exact h.2.2.1
theorem tie_leaf (w:World) (D:Nat→Prop) (t:Tk):Tie w D t.tree (leaf t):=by
 rw[Tk.tree,Tie]
 exact⟨rfl,rfl,rfl,rfl,0,0,[],⟨Nat.le_refl _,by simp⟩,fun e=>absurd rfl e,fun j u h=>by simp [flat] at h,Ties.nil⟩
theorem tie_none (w:World) (D:Nat→Prop) (k i j:Int):Tie w D (.mk k i j []) ⟨k,i,j,none,0,0⟩:=by
 rw[Tie]
 exact⟨rfl,rfl,rfl,rfl,0,0,[],⟨Nat.le_refl _,by simp⟩,fun e=>absurd rfl e,fun j u h=>by simp [flat] at h,Ties.nil⟩
theorem ties_leaves (w:World) (D:Nat→Prop):∀ l:List Tk,Ties w D (l.map Tk.tree) (l.map leaf)
 |[]=>Ties.nil
 |t::l=>Ties.cons (tie_leaf w D t) (ties_leaves w D l)
structure Keep where
 W:World
 K:Nat→Prop
structure Own (C:Keep) (w:World) (b:Nat) (vR vH:Value) (D:Nat→Prop):Prop where
 os:w.os=C.W.os
 tape:w.tape=C.W.tape
 output:w.output=C.W.output
 size:C.W.heap.size≤w.heap.size
 kept:∀ k,C.K k→k<C.W.heap.size∧k≠b∧vR.ownBlock≠some k∧vH.ownBlock≠some k∧w.heap[k]? = C.W.heap[k]?
 dead:∀ k,D k→k<w.heap.size∧k≠b∧vR.ownBlock≠some k∧vH.ownBlock≠some k∧∃ cur fz,w.heap[k]? = some (.cells cur nd.e fz)
theorem Own.step {C:Keep} {w w':World} {b:Nat} {vR vH vR' vH':Value} {D:Nat→Prop} (h:Own C w b vR vH D) (hn:Nx w b vR vH w' vR' vH'):Own C w' b vR' vH' D where
 os:=hn.os.trans h.os
 tape:=hn.tape.trans h.tape
 output:=hn.output.trans h.output
 size:=Nat.le_trans h.size hn.size
 kept k hk:=by
  obtain⟨h1,h2,h3,h4,h5⟩:=h.kept k hk
  have hz:=h.size
  refine⟨h1,h2,fun e=>?_,fun e=>?_,(hn.block k (by omega) h2 h3 h4).trans h5⟩
  ·rcases hn.newR k e with e|e
   ·exact h3 e
   ·omega
  ·rcases hn.newH k e with e|e
   ·exact h4 e
   ·omega
 dead k hk:=by
  obtain⟨h1,h2,h3,h4,h5⟩:=h.dead k hk
  have hz:=hn.size
  refine⟨by omega,h2,fun e=>?_,fun e=>?_,by rw[hn.block k h1 h2 h3 h4];exact h5⟩
  ·rcases hn.newR k e with e|e
   ·exact h3 e
   ·omega
  ·rcases hn.newH k e with e|e
   ·exact h4 e
   ·omega
theorem Own.ties {C:Keep} {w w':World} {b:Nat} {vR vH vR' vH':Value} {D:Nat→Prop} (h:Own C w b vR vH D) (hn:Nx w b vR vH w' vR' vH') {l:List Tree} {R:List Rn} (ht:Ties w D l R):Ties w' D l R:=
 Ties.keep (fun g hg=>by obtain⟨h1,h2,h3,h4,_⟩:=h.dead g hg;exact hn.block g h1 h2 h3 h4) (fun _ h=>h) l R ht
def Is (w:World) (D:Nat→Prop) (σ:Rd):Res→Prop
 |.ok s=>σ.failed=false∧σ.L=s.L∧σ.at'=s.at'∧Ties w D s.R σ.R∧σ.H=s.H∧σ.op=s.op∧s.H.length=s.R.length∧(∀ x∈s.H,0≤x∧x≤100)∧s.op≤100∧s.R.length+s.L.length≤549755813888
 |.fail a b c=>σ.failed=true∧σ.d0=a∧σ.d1=b∧σ.d2=c∧σ.H.length=σ.R.length∧σ.op≤100∧σ.R.length+σ.L.length≤549755813889
def At (C:Keep) (w:World) (b:Nat) (x:Res):Prop:=∃ vL vR vH σ D,RdAt w b vL vR vH σ∧Own C w b vR vH D∧Is w D σ x
def Post (C:Keep) (b:Nat) (y:Res) (e:Ending) (w':World):Prop:=∃ v,e=.returned v∧Hid (At C w' b y)
def PostB (C:Keep) (b:Nat) (y:Res) (t:Bool) (e:Ending) (w':World):Prop:=e=.returned (.bool t)∧Hid (At C w' b y)
section
variable {C:Keep} {w:World} {b:Nat} {x y:Res}
theorem chk_ok {s:St} {y:Res} (h:chk (.ok s)=some y):y=.ok s∧s.R.length+s.L.length≤549755813888:=by
 unfold chk at h
 simp only[] at h
 split at h
 ·exact⟨(Option.some.inj h).symm,by assumption⟩
 ·cases h
theorem chk_fail {a b c:Int} {y:Res} (h:chk (.fail a b c)=some y):y=.fail a b c:=(Option.some.inj h).symm
theorem At.alloc (h:Hid (At C w b x)) (o:Obj):Hid (At C (w.alloc o) b x):=by
 obtain⟨vL,vR,vH,σ,D,hr,ho,hi⟩:=h.out
 have hb:Below w.heap.size w (w.alloc o):=(Below.refl _ _).alloc (Nat.le_refl _) _
 have hn:Nx w b vR vH (w.alloc o) vR vH:=Nx.below hb
 refine Lib.hid ⟨vL,vR,vH,σ,D,hr.below hb,ho.step hn,?_⟩
 cases x with
 |fail=>exact hi
 |ok s=>
  obtain⟨h1,h2,h3,h4,h5⟩:=hi
  exact⟨h1,h2,h3,ho.ties hn h4,h5⟩
end
open Go.RowKit
section
variable {C:Keep} {w:World} {b:Nat} {x y:Res}
theorem Post.of {vL vR vH:Value} {σ':Rd} {D:Nat→Prop} {e:Ending} {w':World} (ho:Own C w b vR vH D) (hs:Steps w b vL vR vH σ' e w') (hi:∀ vR' vH',Nx w b vR vH w' vR' vH'→Is w' D σ' y):Post C b y e w':=by
 obtain⟨v,vR',vH',rfl,hr,hn⟩:=hs
 exact⟨v,rfl,Lib.hid ⟨vL,vR',vH',σ',D,hr,ho.step hn,hi vR' vH' hn⟩⟩
theorem PostB.of {vL vR vH:Value} {σ':Rd} {D:Nat→Prop} {e:Ending} {w':World} {t:Bool} (ho:Own C w b vR vH D) (hs:StepsB t w b vL vR vH σ' e w') (hi:∀ vR' vH',Nx w b vR vH w' vR' vH'→Is w' D σ' y):PostB C b y t e w':=by
 obtain⟨vR',vH',rfl,hr,hn⟩:=hs
 exact⟨rfl,Lib.hid ⟨vL,vR',vH',σ',D,hr,ho.step hn,hi vR' vH' hn⟩⟩
end
open Go.RowKit
theorem bind_some {α β:Type} {o:Option α} {f:α→Option β} {y:β} (h:(o >>= f)=some y):∃ z,Hid (o=some z)∧f z=some y:=by
 cases o with
 |none=>cases h
 |some z=>exact⟨z,Lib.hid rfl,h⟩
theorem bind_iff {α β:Type} {o:Option α} {f:α→Option β} {y:β}:((o >>= f)=some y)↔∃ z,Hid (o=some z)∧f z=some y:=
 ⟨bind_some,fun⟨z,h1,h2⟩=>by rw[h1.out];exact h2⟩
theorem some_hid {α:Type} {a b:α}:Hid (some a=some b)↔b=a:=
 ⟨fun h=>(Option.some.inj h.out).symm,fun h=>Lib.hid (by rw[h])⟩
theorem run_fail (n:Nat) (p:Pc) (a b c:Int):run n p (.fail a b c)=some (.fail a b c):=by cases n <;> rfl
theorem run_hid (n:Nat) (p:Pc) (a b c:Int):Hid (run n p (.fail a b c)=some (.fail a b c)):=Lib.hid (run_fail n p a b c)
def C0 (f n:Nat) (p:Pc):Prop:=∀ (C:Keep) (w:World) (b:Nat) (x y:Res),Hid (At C w b x)→Hid (run n p x=some y)→Calls Tryz.prog f #[.pointer (some ⟨b,0,none⟩)] w (Post C b y)
open Go.RowKit
open Go.RowKit
end Go.Proofs.YtcekbbkidipbnaaGreat.rd
