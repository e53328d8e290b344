/-
  Texts put together: Ea, Eb, Ec, Ed, Ee, Ef, Eg, Eh.
-/
import Derived.Test.YtcekbbkidipbnaaGreatP0
import Derived.Test.YtcekbbkidipbnaaGreatRows
import Derived.Handy
import Derived.Deep.DeepFit
import Derived.Deep.WholeRow
import Derived.Lib.Hide
import Derived.Lib.AppendZeros
import Derived.Lib.SliceRun
import Derived.WalkKit
import Derived.WalkSpells
import Derived.BigQuiet
import Derived.Deep.QuietTactic
import Derived.Laws.Rows
import Derived.Laws.OwnMore
import Derived.Laws.CopyRow
import Derived.Maps.AppendAt
import Derived.Deep.RegionLaw
import Derived.Deep.AppendLies
import Derived.Deep.DeepCutAuto
set_option maxRecDepth 100000
set_option maxHeartbeats 8000000
namespace Go.Proofs.YtcekbbkidipbnaaGreat.rd
open Go.RowKit
structure Tk where
 (k i j:Int)
structure Rn where
 (k i j:Int) (o:Option Addr) (n c:Nat)
structure Kd (α:Type) where
 c:α→List Value
 k:Nat
 e:TypeId
 t:TypeId
 z:Value
 bytes:Nat
 len:∀ x,(c x).length=k
 one:∀ x,∀ u∈c x,u.oneCell'=true
 ht:Tryz.prog.underlying t=some (.slice e)
 hi:(Tryz.prog.info? e).map (fun i=>(i.zero,i.size,i.bytes))=some (some z,k,bytes)
 hz:z.cells.size=k
 hk:0<k
 ht':Tryz.prog.underlying t=some (.slice (Tryz.prog.elem t))
 hs:∀ u,(sizeOf (Tryz.prog.elem t)).run Tryz.prog u=.ok k u
def tk:Kd Tk where
 c t:=[.int .i64 t.k,.int .i64 t.i,.int .i64 t.j]
 k:=3
 e:=55
 t:=22
 z:=.agg #[.int .i64 0,.int .i64 0,.int .i64 0]
 bytes:=24
 len _:=rfl
 one x u hu:=by simp only[List.mem_cons,List.not_mem_nil,or_false] at hu;rcases hu with rfl|rfl|rfl <;> rfl
 ht:=Tryz.underlying22
 hi:=by kernel_rfl
 hz:=rfl
 hk:=by decide
 ht':=by kernel_rfl
 hs _:=by kernel_rfl
def nd:Kd Rn where
 c t:=[.int .i64 t.k,.int .i64 t.i,.int .i64 t.j,.slice t.o t.n t.c]
 k:=4
 e:=43
 t:=35
 z:=.agg #[.int .i64 0,.int .i64 0,.int .i64 0,.slice none 0 0]
 bytes:=48
 len _:=rfl
 one x u hu:=by simp only[List.mem_cons,List.not_mem_nil,or_false] at hu;rcases hu with rfl|rfl|rfl|rfl <;> rfl
 ht:=Tryz.underlying35
 hi:=by kernel_rfl
 hz:=rfl
 hk:=by decide
 ht':=by kernel_rfl
 hs _:=by kernel_rfl
def it:Kd Int where
 c t:=[.int .i64 t]
 k:=1
 e:=3
 t:=58
 z:=.int .i64 0
 bytes:=8
 len _:=rfl
 one x u hu:=by simp only[List.mem_cons,List.not_mem_nil,or_false] at hu;subst hu;rfl
 ht:=Tryz.underlying58
 hi:=by kernel_rfl
 hz:=rfl
 hk:=by decide
 ht':=by kernel_rfl
 hs _:=by kernel_rfl
section
variable {α:Type} (F:Kd α)
def flat (T:List α):List Value:=T.flatMap F.c
theorem ziD (a b:List α):flat F (a ++ b)=flat F a ++ flat F b:=by simp [flat]
theorem zkN (x:α) (T:List α):flat F (x::T)=F.c x ++ flat F T:=rfl
theorem zhx (T:List α):(flat F T).length=T.length*F.k:=by
 induction T with
 |nil=>simp [flat]
 |cons d T ih=>rw[zkN,List.length_append,ih,F.len,List.length_cons,Nat.add_mul,Nat.one_mul,Nat.add_comm]
theorem zlC (T:List α):∀ u∈flat F T,u.oneCell'=true:=by
 intro u hu
 unfold flat at hu
 rw[List.mem_flatMap] at hu
 obtain⟨x,_,hx⟩:=hu
 exact F.one x u hx
theorem zgn (T:List α):∀ (j:Nat) (hj:j<T.length) (m:Nat),m<F.k→(flat F T)[j*F.k+m]? = (F.c T[j])[m]?:=by
 induction T with
 |nil=>intro j hj;simp at hj
 |cons d T ih=>
  intro j hj m hm
  rw[zkN]
  cases j with
  |zero=>rw[Nat.zero_mul,Nat.zero_add,List.getElem?_append_left (by rw[F.len];exact hm)];rfl
  |succ j=>
   rw[List.getElem?_append_right (by rw[F.len,Nat.add_mul];omega),F.len,show(j+1)*F.k+m - F.k=j*F.k+m by rw[Nat.add_mul];omega,ih j (by simpa using hj) m hm]
   rfl
def Cells (w:World) (g off:Nat) (T:List α):Prop:=∀ j u,(flat F T)[j]? = some u→w.cell? ⟨g,off+j,none⟩=some u
def Row (w:World) (v:Value) (T:List α):Prop:=∃ (g off:Nat) (o:Option Addr) (cap:Nat),T.length≤cap∧v=.slice o T.length cap∧(T≠[]→o=some ⟨g,off,none⟩)∧Cells F w g off T
def Mine (w:World) (base:Nat) (v:Value) (T:List α):Prop:=w.ownsRow base F.e F.k v T.length (flat F T)
end
section
variable {α:Type} {F:Kd α}
theorem Cells.below {w w':World} {g off:Nat} {T:List α} (h:Cells F w g off T) (hb:Below w.heap.size w w'):Cells F w' g off T:=fun j u hu=>
 (hb.cell (p:=⟨g,off+j,none⟩) (World.block_lt_of_cell? _ _ (h j u hu))).trans (h j u hu)
theorem Row.below {w w':World} {v:Value} {T:List α} (h:Row F w v T) (hb:Below w.heap.size w w'):Row F w' v T:=by
 exact zdz
theorem Cells.drop {w:World} {g off:Nat} {T:List α} (h:Cells F w g off T) (n:Nat):Cells F w g (off+n*F.k) (T.drop n):=by
 intro j u hu
 rw[Nat.add_assoc]
 refine h _ u ?_
 by_cases hn:n≤T.length
 ·have e:flat F T=flat F (T.take n) ++ flat F (T.drop n):=by rw[← ziD,List.take_append_drop]
  have hl:(flat F (T.take n)).length=n*F.k:=by rw[zhx,List.length_take,Nat.min_eq_left hn]
  rw[e,List.getElem?_append_right zdC,hl,Nat.add_sub_cancel_left]
  exact hu
 ·rw[List.drop_of_length_le zdC] at hu
  simp [flat] at hu
theorem Cells.take {w:World} {g off:Nat} {T:List α} (h:Cells F w g off T) (n:Nat):Cells F w g off (T.take n):=by
 intro j u hu
 refine h j u ?_
 have e:flat F T=flat F (T.take n) ++ flat F (T.drop n):=by rw[← ziD,List.take_append_drop]
 rw[e,List.getElem?_append_left (List.getElem?_eq_some_iff.1 hu).1]
 exact hu
theorem Row.nil (w:World) (o:Option Addr) (cap:Nat):Row F w (.slice o 0 cap) []:=⟨0,0,o,cap,Nat.zero_le _,rfl,fun h=>absurd rfl h,fun j u h=>by simp [flat] at h⟩
theorem Mine.row {w:World} {base:Nat} {v:Value} {T:List α} (h:Mine F w base v T):Row F w v T:=by
 have h0:=h
 rcases h.2 with⟨rfl,b⟩|⟨g,cap,cur,rfl,_,_,hcap,_⟩
 ·have:T=[]:=List.eq_nil_of_length_eq_zero b
  subst this
  exact Row.nil w none 0
 ·refine⟨g,0,_,cap,hcap,rfl,fun _=>rfl,fun j u hu=>?_⟩
  have:=World.ownsRow.cells h0 (g:=g) rfl j u hu
  rw[Addr.add_lit] at this
  exact this
theorem Mine.nil (w:World) (base:Nat):Mine F w base (.slice none 0 0) []:=World.ownsRow_nil _ _ _ _
theorem Mine.below {w w':World} {base:Nat} {v:Value} {T:List α} (h:Mine F w base v T) (hb:Below w.heap.size w w'):Mine F w' base v T:=by
 refine⟨h.1,?_⟩
 rcases h.2 with hn|⟨g,cap,cur,rfl,hg,hc,rest⟩
 ·exact .inl hn
 ·exact .inr ⟨g,cap,cur,rfl,hg,(hb.block g (Array.getElem?_eq_some_iff.1 hc).1).trans hc,rest⟩
theorem Mine.mono {w:World} {B0 B1:Nat} {v:Value} {T:List α} (h:Mine F w B0 v T) (hB:B1≤B0):Mine F w B1 v T:=by
 exact zcR
theorem Row.new (w:World) (T:List α):Row F (w.alloc (.cells (flat F T).toArray F.e)) (.slice (some ⟨w.heap.size,0,none⟩) T.length T.length) T:=by
 refine⟨w.heap.size,0,_,_,Nat.le_refl _,rfl,fun _=>rfl,fun j u hu=>?_⟩
 have:=cell_of_row (w.alloc (.cells (flat F T).toArray F.e)) w.heap.size (0+j) _ F.e (0,0) (heap_alloc_last w _)
 rw[this]
 simpa using hu
theorem zgO {w:World} {base:Nat} {v sv:Value} {T0 T:List α} (hown:Mine F w base v T0) (hr:Row F w sv T) (hb:base≤w.heap.size) (hm:T0.length+T.length≤maxLen) (hby:(T0.length+T.length)*F.bytes≤140737488355328) :
  ∃ v' w',(∀ ty,(Builtin.append_ #[F.t,F.t] ty #[v,sv]).run Tryz.prog w=.ok v' w')∧Mine F w' base v' (T0 ++ T)∧w.grownBy w' v.ownBlock:=by
 obtain⟨i0,hi,hz0,hz1,hz2⟩:=info_parts F.hi
 obtain⟨g,off,o,cap,hc,rfl,ho,hcell⟩:=hr
 have main:∀ ad:Addr,(∀ j u,(flat F T)[j]? = some u→w.cell? (ad.add j)=some u)→∃ v' w',(∀ ty,(Builtin.append_ #[F.t,F.t] ty #[v,.slice (some ad) T.length cap]).run Tryz.prog w=.ok v' w')∧Mine F w' base v' (T0 ++ T)∧w.grownBy w' v.ownBlock:=by
  intro ad hcc
  obtain⟨v',w',h1,h2,h3,_⟩:=run_append_own (P:=Tryz.prog) w base F.t 0 F.e i0 F.z F.k F.bytes F.ht hi hz0 hz1 hz2 F.hz F.hk v T0.length (flat F T0) hown ad T.length cap (flat F T) (zhx F T) hcc (zlC F T) hm hby hb
  refine⟨v',w',fun ty=>h1,?_,h3⟩
  exact zdg
 by_cases hT:T=[]
 ·subst hT
  cases o with
  |some ad=>exact main ad (fun j u hu=>by simp [flat] at hu)
  |none=>
   refine⟨v,w,fun ty=>?_,by rw[List.append_nil];exact hown,World.grownBy.refl _ _⟩
   exact zbP
 ·rw[ho hT]
  exact main _ (fun j u hu=>by rw[Addr.add_lit];exact hcell j u hu)
theorem Mine.more {w W w2:World} {base:Nat} {v:Value} {T0:List α} {K:Nat} (hown:Mine F W base v T0) (hb:Below K w W) (hK:K≤base) (hKW:K≤W.heap.size) (hg:W.grownBy w2 v.ownBlock):Below K w w2:=
 hb.grown hg hKW (fun k hk=>Nat.le_trans hK ((World.ownsRow.lt hown k hk).1))
theorem Row.len {w:World} {v:Value} {T:List α} (h:Row F w v T):∃ o cap,v=.slice o T.length cap:=by
 obtain⟨_,_,o,cap,_,hv,_⟩:=h
 exact⟨o,cap,hv⟩
theorem Row.lt {w:World} {v:Value} {T:List α} (h:Row F w v T):∃ (g off:Nat) (o:Option Addr) (cap:Nat),T.length≤cap∧v=.slice o T.length cap∧(T≠[]→o=some ⟨g,off,none⟩∧g<w.heap.size)∧Cells F w g off T:=by
 obtain⟨g,off,o,cap,hc,hv,ho,hcell⟩:=h
 refine⟨g,off,o,cap,hc,hv,fun hne=>⟨ho hne,?_⟩,hcell⟩
 have hl:0<T.length:=List.length_pos_iff.2 hne
 have:=zgn F T 0 hl 0 F.hk
 rw[Nat.zero_mul,Nat.zero_add] at this
 obtain⟨u,hu⟩:∃ u,(F.c (T[0]'hl))[0]? = some u:=⟨_,List.getElem?_eq_getElem (by rw[F.len];exact F.hk)⟩
 rw[hu] at this
 exact World.block_lt_of_cell? _ _ (hcell 0 u this)
end
theorem zgl {w:World} {g off:Nat} {T:List Tk} (h:Cells tk w g off T) (n:Nat) (hn:n<T.length):w.cell? ⟨g,off+n*3,none⟩=some (.int .i64 T[n].k)∧w.cell? ⟨g,off+n*3+1,none⟩=some (.int .i64 T[n].i)∧w.cell? ⟨g,off+n*3+2,none⟩=some (.int .i64 T[n].j):=
 ⟨h _ _ (zgn tk T n hn 0 zdD),h _ _ (zgn tk T n hn 1 zdD),h _ _ (zgn tk T n hn 2 zdD)⟩
theorem zgi {w:World} {g off:Nat} {T:List Rn} (h:Cells nd w g off T) (n:Nat) (hn:n<T.length):w.cell? ⟨g,off+n*4,none⟩=some (.int .i64 T[n].k)∧w.cell? ⟨g,off+n*4+1,none⟩=some (.int .i64 T[n].i)∧w.cell? ⟨g,off+n*4+2,none⟩=some (.int .i64 T[n].j)∧w.cell? ⟨g,off+n*4+3,none⟩=some (.slice T[n].o T[n].n T[n].c):=
 ⟨h _ _ (zgn nd T n hn 0 zdD),h _ _ (zgn nd T n hn 1 zdD),h _ _ (zgn nd T n hn 2 zdD),h _ _ (zgn nd T n hn 3 zdD)⟩
theorem zgh {w:World} {g off:Nat} {T:List Int} (h:Cells it w g off T) (n:Nat) (hn:n<T.length):w.cell? ⟨g,off+n,none⟩=some (.int .i64 T[n]):=by
 have:=h _ _ (zgn it T n hn 0 zdD)
 simpa [it] using this
section
variable {α:Type} {F:Kd α}
theorem Row.from {w:World} {v:Value} {T:List α} (h:Row F w v T) (i:Nat) (hi:i≤T.length):∃ v',(∀ u,(Instr.slice F.t v (some (.int .i64 (i:Int))) none none).run Tryz.prog u=.ok v' u)∧Row F w v' (T.drop i):=by
 obtain⟨g,off,o,cap,hc,rfl,ho,hcell⟩:=h
 have hl:(T.drop i).length=T.length - i:=by rw[List.length_drop]
 refine⟨.slice (if cap=i then o else o.map (·.add (i*F.k))) (T.length - i) (cap - i),fun u=>?_,g,off+i*F.k,_,cap - i,by rw[hl];omega,by rw[hl],fun hne=>?_,hcell.drop i⟩
 ·rw[run_slice_l (P:=Tryz.prog) (w:=u) (t:=F.t) (a:=o) (len:=T.length) (cap:=cap) (ht:=F.ht') .i64 (i:Int) zdC zdC]
  rw[F.hs]
  rfl
 ·have h1:i<T.length:=by
   exact zcn
  exact zcD
theorem Row.upto {w:World} {v:Value} {T:List α} (h:Row F w v T) (j:Nat) (hj:j≤T.length):∃ v',(∀ u,(Instr.slice F.t v none (some (.int .i64 (j:Int))) none).run Tryz.prog u=.ok v' u)∧Row F w v' (T.take j):=by
 obtain⟨g,off,o,cap,hc,rfl,ho,hcell⟩:=h
 have hl:(T.take j).length=j:=by rw[List.length_take];omega
 refine⟨.slice (if cap=0 then o else o.map (·.add (0*F.k))) j cap,fun u=>?_,g,off,_,cap,by rw[hl];omega,by rw[hl],fun hne=>?_,hcell.take j⟩
 ·rw[run_slice_h (P:=Tryz.prog) (w:=u) (t:=F.t) (a:=o) (len:=T.length) (cap:=cap) (ht:=F.ht') .i64 (j:Int) zdC zdC]
  rw[F.hs]
  rfl
 ·rw[ho (fun e=>by subst e;simp at hne)]
  split <;> simp [Addr.add]
end
open Go.RowKit
structure Rd where
 L:List Tk
 at':Nat
 R:List Rn
 H:List Int
 op:Nat
 (d0 d1 d2:Int)
 failed:Bool
structure RdAt (W:World) (b:Nat) (vL vR vH:Value) (σ:Rd):Prop where
 cells:W.heap[b]? = some (.cells #[vL,.int .i64 (σ.at':Int),vR,vH,.int .i64 (σ.op:Int),.int .i64 σ.d0,.int .i64 σ.d1,.int .i64 σ.d2,.bool σ.failed] 64 (0,0))
 toks:Mine tk W 0 vL σ.L
 row:Mine nd W 0 vR σ.R
 high:Mine it W 0 vH σ.H
 read:σ.at'≤σ.L.length
 few:σ.L.length≤1099511627776
theorem Mine.shape {α:Type} {F:Kd α} {w:World} {B:Nat} {v:Value} {T:List α} (h:Mine F w B v T):∃ g o cap,v=.slice o T.length cap∧(T≠[]→o=some ⟨g,0,none⟩)∧B≤g∧(g<w.heap.size∨(T=[]∧g=B)):=by
 rcases h.2 with⟨rfl,h0⟩|⟨q,cap,cur,rfl,hq,hh,rest⟩
 ·have h0:=List.eq_nil_of_length_eq_zero h0
  subst h0
  exact⟨B,none,0,rfl,fun e=>absurd rfl e,Nat.le_refl _,.inr ⟨rfl,rfl⟩⟩
 ·exact⟨q,_,cap,rfl,fun _=>rfl,hq,.inl (Array.getElem?_eq_some_iff.1 hh).1⟩
theorem Mine.cells {α:Type} {F:Kd α} {w:World} {B g cap n:Nat} {T:List α} (h:Mine F w B (.slice (some ⟨g,0,none⟩) n cap) T):Cells F w g 0 T:=by
 intro j u hu
 have:=World.ownsRow.cells h (g:=g) rfl j u hu
 rw[Addr.add_lit] at this
 exact this
theorem zgd {w:World} {b:Nat} {x0 x1 x2 x3 x4 x5 x6 x7 x8:Value} {e:TypeId} (h:w.heap[b]? = some (.cells #[x0,x1,x2,x3,x4,x5,x6,x7,x8] e (0,0))) :
  (w.cell? ⟨b,0,none⟩=some x0∧w.cell? ⟨b,1,none⟩=some x1∧w.cell? ⟨b,2,none⟩=some x2∧w.cell? ⟨b,3,none⟩=some x3∧w.cell? ⟨b,4,none⟩=some x4∧w.cell? ⟨b,5,none⟩=some x5∧w.cell? ⟨b,6,none⟩=some x6∧w.cell? ⟨b,7,none⟩=some x7∧w.cell? ⟨b,8,none⟩=some x8)∧∀ j,w.frozen? ⟨b,j,none⟩=false:=
 ⟨⟨by rw[cell_of_row w b 0 _ _ _ h];rfl,by rw[cell_of_row w b 1 _ _ _ h];rfl,by rw[cell_of_row w b 2 _ _ _ h];rfl,by rw[cell_of_row w b 3 _ _ _ h];rfl,by rw[cell_of_row w b 4 _ _ _ h];rfl,by rw[cell_of_row w b 5 _ _ _ h];rfl,by rw[cell_of_row w b 6 _ _ _ h];rfl,by rw[cell_of_row w b 7 _ _ _ h];rfl,by rw[cell_of_row w b 8 _ _ _ h];rfl⟩,fun j=>frozen_of_row w b j _ _ h⟩
def sig (z:Int):Bool:=decide (10≤z)
def nxt (n:Nat):List Tk→Nat
 |[]=>0
 |t::r=>if sig t.k then(if n=0 then 0 else 1+nxt (n - 1) r) else 1+nxt n r
theorem zua (L:List Tk):∀ n,nxt n L≤L.length:=by
 induction L with
 |nil=>intro n;simp [nxt]
 |cons t r ih=>
  intro n
  rw[nxt,List.length_cons]
  split
  ·split
   ·omega
   ·have:=ih (n - 1);omega
  ·have:=ih n;omega
def Rd.next (σ:Rd) (n:Nat):Nat:=σ.at'+nxt n (σ.L.drop σ.at')
theorem Rd.next_le {σ:Rd} (h:σ.at'≤σ.L.length) (n:Nat):σ.next n≤σ.L.length:=by
 unfold Rd.next
 have:=zua (σ.L.drop σ.at') n
 rw[List.length_drop] at this
 omega
def Rd.ahead (σ:Rd) (n:Nat):Int:=if σ.failed then 0 else match σ.L[σ.next n]? with|some t=>t.k|none=>0
theorem ziU {W:World} {b:Nat} {vL vR vH:Value} {σ:Rd} (h:RdAt W b vL vR vH σ) (n:Nat) (hn:n≤4611686018427387904) :
  Calls Tryz.prog 86 #[.pointer (some ⟨b,0,none⟩),.int .i64 (n:Int)] W fun e w'=>e=.returned (.int .i64 (σ.next n:Int))∧W=w':=by
 obtain⟨⟨b0,b1,_⟩,_⟩:=zgd h.cells
 have HN:Hid (σ.next n=σ.at'+nxt n (σ.L.drop σ.at')):=Lib.hid rfl
 have HR:=Lib.hid h.read
 have hf:=h.few
 obtain⟨g,o,cap,hv,ho,_⟩:=h.toks.shape
 subst hv
 have HO:=Lib.hid ho
 have HM:=Lib.hid h.toks
 generalize σ.next n=res at *
 generalize σ.at'=a at *
 obtain⟨len,hlen⟩:∃ len,σ.L.length=len:=⟨_,rfl⟩
 rw[hlen] at HM hf HR b0
 have HLN:=Lib.hid hlen
 generalize σ.L=L at *
 clear h ho hlen
 go_enter Tryz.func86,Tryz.ntmps86
 go_wp2
 go_loopw [1,5] (fun x p wr=>∃ k i:Nat,i≤len∧k≤n∧x=.int .i64 k∧p=.int .i64 i∧i+nxt k (L.drop i)=res∧wr=W) (fun _ p _=>len - (intOf p).toNat)
 case atStart=>exact⟨n,a,HR.out,Nat.le_refl _,rfl,rfl,HN.out.symm,rfl⟩
 case round=>
  obtain⟨k,i,hil,hkn,rfl,rfl,hle,hw⟩:=hrel
  have hw2:=hw.symm
  subst hw2
  have HL:=Lib.hid hle
  clear hle hw
  by_cases hlt:i<len
  ·have hltT:i<L.length:=by rw[HLN.out];exact hlt
   have hd:decide ((i:Int)<(len:Int))=true:=decide_eq_true zdC
   have ho:=HO.out zdE
   subst ho
   obtain⟨c0,_,_⟩:=zgl HM.out.cells i hltT
   rw[Nat.zero_add] at c0
   rw[List.drop_eq_getElem_cons hltT,nxt] at HL
   generalize L[i]=t at *
   obtain⟨z,x1,x2⟩:=t
   simp only[] at c0 HL
   cases hs:sig z with
   |true=>
    rw[hs,if_pos rfl] at HL
    have hd2:decide (10≤z)=true:=hs
    clear hs hltT
    by_cases hk:k=0
    ·rw[if_pos hk,Nat.add_zero] at HL
     subst hk
     exact zcs
    ·rw[if_neg hk] at HL
     have hk0:((k:Int) == 0)=false:=beq_eq_false_iff_ne.2 zdC
     have hk1:1≤k:=by omega
     clear hk
     go_wp2_with fail
     go_roundw
     case rel=>exact⟨k - 1,i+1,by omega,by omega,by go_num,by go_num,by rw[← HL.out];omega,by trivial⟩
     case measure=>simp [intOf];omega
   |false=>
    rw[hs,if_neg zdF] at HL
    have hd2:decide (10≤z)=false:=hs
    clear hs hltT
    go_wp2_with fail
    go_roundw
    case rel=>exact⟨k,i+1,by omega,by omega,rfl,by go_num,by rw[← HL.out];omega,by trivial⟩
    case measure=>simp [intOf];omega
  ·have hd:decide ((i:Int)<(len:Int))=false:=decide_eq_false zdC
   have hD:L.drop i=[]:=List.drop_of_length_le zdG
   rw[hD,nxt,Nat.add_zero] at HL
   clear hD
   exact zcs
open Go.RowKit
theorem Rd.ahead_failed {σ:Rd} (h:σ.failed=true) (n:Nat):σ.ahead n=0:=by unfold Rd.ahead;rw[h,if_pos rfl]
theorem Rd.ahead_none {σ:Rd} (h:σ.failed=false) {n:Nat} (hn:σ.L.length≤σ.next n):σ.ahead n=0:=by
 unfold Rd.ahead
 rw[h,if_neg zdF,List.getElem?_eq_none hn]
theorem Rd.ahead_some {σ:Rd} (h:σ.failed=false) {n:Nat} (hn:σ.next n<σ.L.length):σ.ahead n=(σ.L[σ.next n]).k:=by
 unfold Rd.ahead
 rw[h,if_neg zdF,List.getElem?_eq_getElem hn]
theorem zng {W:World} {b:Nat} {vL vR vH:Value} {σ:Rd} (h:RdAt W b vL vR vH σ) (n:Nat) (hn:n≤4611686018427387904) :
  Calls Tryz.prog 60 #[.pointer (some ⟨b,0,none⟩),.int .i64 (n:Int)] W fun e w'=>e=.returned (.int .i64 (σ.ahead n))∧W=w':=by
 have HX:=Lib.hid (ziU h n hn)
 obtain⟨⟨b0,_,_,_,_,_,_,_,b8⟩,_⟩:=zgd h.cells
 have hle:=Rd.next_le h.read n
 have HA:=Lib.hid (fun hf:σ.failed=true=>Rd.ahead_failed hf n)
 have HB:=Lib.hid (fun(hf:σ.failed=false) (hh:σ.L.length≤σ.next n)=>Rd.ahead_none hf hh)
 have HC:=Lib.hid (fun(hf:σ.failed=false) (hh:σ.next n<σ.L.length)=>Rd.ahead_some hf hh)
 obtain⟨g,o,cap,hv,ho,_⟩:=h.toks.shape
 subst hv
 have HO:=Lib.hid ho
 have HM:=Lib.hid h.toks
 have hfew:=h.few
 clear ho h
 have hd:decide ((n:Int)<0)=false:=decide_eq_false zdC
 generalize σ.ahead n=res at *
 generalize σ.next n=i at *
 generalize σ.failed=f at *
 generalize σ.L=L at *
 obtain⟨len,hlen⟩:∃ len,L.length=len:=⟨_,rfl⟩
 rw[hlen] at HM hle b0 hfew
 have HLN:=Lib.hid hlen
 clear hlen
 cases f with
 |true=>
  have HRES:=Lib.hid (HA.out rfl)
  clear HA HB HC
  go_enter Tryz.func60,Tryz.ntmps60
  go_wp2_with fail
  go_ret
  exact⟨by rw[HRES.out];rfl,rfl⟩
 |false=>
  by_cases hlt:i<len
  ·have hltT:i<L.length:=by rw[HLN.out];exact hlt
   have HRES:=Lib.hid (HC.out rfl hltT)
   have ho:=HO.out zdE
   subst ho
   obtain⟨c0,_,_⟩:=zgl HM.out.cells i hltT
   rw[Nat.zero_add] at c0
   have hd2:decide ((len:Int)≤(i:Int))=false:=decide_eq_false zdC
   have hd3:decide (len≤i)=false:=decide_eq_false zdC
   generalize L[i]=t at *
   obtain⟨z,x1,x2⟩:=t
   simp only[] at c0 HRES
   clear HA HB HC hltT
   exact zcC
  ·have HRES:=Lib.hid (HB.out rfl zdG)
   have hd2:decide ((len:Int)≤(i:Int))=true:=decide_eq_true zdC
   have hd3:decide (len≤i)=true:=decide_eq_true zdC
   clear HA HB HC
   exact zcC
theorem zhS {W:World} {b:Nat} {vL vR vH:Value} {σ:Rd} (h:RdAt W b vL vR vH σ) :
  Calls Tryz.prog 58 #[.pointer (some ⟨b,0,none⟩)] W fun e w'=>e=.returned (.int .i64 (σ.ahead 0))∧W=w':=by
 have HX:=Lib.hid (zng h 0 zdD)
 clear h
 go_enter Tryz.func58,Tryz.ntmps58
 go_wp2_with (go_at_call 60;refine HX.out.mono ?_;rintro e w' ⟨rfl,rfl⟩)
 go_ret
 exact⟨rfl,rfl⟩
theorem zpn {W:World} {b:Nat} {vL vR vH:Value} {σ:Rd} (h:RdAt W b vL vR vH σ) :
  Calls Tryz.prog 62 #[.pointer (some ⟨b,0,none⟩)] W fun e w'=>e=.returned (.int .i64 (σ.R.length:Int))∧W=w':=by
 obtain⟨⟨_,_,b2,_⟩,_⟩:=zgd h.cells
 obtain⟨g,o,cap,hv,ho,_⟩:=h.row.shape
 subst hv
 clear ho h
 go_enter Tryz.func62,Tryz.ntmps62
 exact zcj
def Rd.comes (σ:Rd) (K:List Int):Bool:=K.any fun k=>σ.ahead 0 == k && σ.ahead 0 != 0
theorem zsw {W:World} {b:Nat} {vL vR vH:Value} {σ:Rd} (h:RdAt W b vL vR vH σ) (v:Value) (K:List Int) (hr:Row it W v K) (hK:K.length≤1024) :
  Calls Tryz.prog 95 #[.pointer (some ⟨b,0,none⟩),v] W fun e w'=>e=.returned (.bool (σ.comes K))∧W=w':=by
 have HX:=Lib.hid (zhS h)
 have HC:Hid (σ.comes K=K.any fun k=>σ.ahead 0 == k && σ.ahead 0 != 0):=Lib.hid rfl
 generalize σ.comes K=res at *
 generalize σ.ahead 0=z at *
 obtain⟨g,off,o,cap,hc,rfl,ho,hcell⟩:=hr
 have HCE:=Lib.hid hcell
 have HO:=Lib.hid ho
 obtain⟨len,hlen⟩:∃ len,K.length=len:=⟨_,rfl⟩
 rw[hlen] at hc hK
 have HN:=Lib.hid hlen
 rw[HN.out]
 clear hlen hcell ho h
 go_enter Tryz.func95,Tryz.ntmps95
 go_wp2_with (go_at_call 58;refine HX.out.mono ?_;rintro e w' ⟨rfl,rfl⟩)
 go_loopw [6] (fun p wr=>∃ n:Nat,n≤len∧p=.int .i64 n∧((K.drop n).any fun k=>z == k && z != 0)=res∧wr=W) (fun p _=>len - (intOf p).toNat)
 case atStart=>exact⟨0,Nat.zero_le _,rfl,HC.out.symm,rfl⟩
 case round=>
  obtain⟨n,hnl,rfl,hle,hw⟩:=hrel
  have hw2:=hw.symm
  subst hw2
  have HL:=Lib.hid hle
  clear hle hw
  by_cases hlt:n<len
  ·have hltT:n<K.length:=by rw[HN.out];exact hlt
   have hd:decide ((n:Int)<(len:Int))=true:=decide_eq_true zdC
   have ho:=HO.out zdE
   subst ho
   have c0:=zgh HCE.out n hltT
   rw[List.drop_eq_getElem_cons hltT,List.any_cons] at HL
   generalize K[n]=y at *
   clear hltT
   by_cases hzy:z=y
   ·have e1:(z == y)=true:=beq_iff_eq.2 hzy
    by_cases hz0:z=0
    ·have e2:(z != 0)=false:=by rw[hz0];rfl
     have hh:(z == y && z != 0)=false:=by rw[e1,e2];rfl
     rw[hh,Bool.false_or] at HL
     clear hh
     clear hzy hz0
     exact zcW
    ·have e2:(z != 0)=true:=bne_iff_ne.2 hz0
     have hh:(z == y && z != 0)=true:=by rw[e1,e2];rfl
     rw[hh,Bool.true_or] at HL
     clear hh
     clear hzy hz0
     exact zcs
   ·have e1:(z == y)=false:=beq_eq_false_iff_ne.2 hzy
    rw[e1,Bool.false_and,Bool.false_or] at HL
    clear hzy
    exact zcW
  ·have hd:decide ((n:Int)<(len:Int))=false:=decide_eq_false zdC
   have hD:K.drop n=[]:=List.drop_of_length_le (by rw[HN.out];omega)
   rw[hD,List.any_nil] at HL
   clear hD
   exact zcs
open Go.RowKit
def lastTo (L:List Tk):Nat→Option Int
 |0=>none
 |n+1=>match L[n]? with
  |some t=>if sig t.k then some t.j else lastTo L n
  |none=>lastTo L n
def Rd.here (σ:Rd):Int:=match lastTo σ.L σ.at' with
 |some x=>x
 |none=>match σ.L[σ.next 0]? with
  |some t=>t.i
  |none=>match σ.L[0]? with
   |some t=>t.i
   |none=>0
structure Nx (W:World) (b:Nat) (vR vH:Value) (W':World) (vR' vH':Value):Prop where
 os:W'.os=W.os
 tape:W'.tape=W.tape
 output:W'.output=W.output
 size:W.heap.size≤W'.heap.size
 block:∀ k,k<W.heap.size→k≠b→vR.ownBlock≠some k→vH.ownBlock≠some k→W'.heap[k]? = W.heap[k]?
 newR:∀ k,vR'.ownBlock=some k→vR.ownBlock=some k∨W.heap.size≤k
 newH:∀ k,vH'.ownBlock=some k→vH.ownBlock=some k∨W.heap.size≤k
theorem Nx.refl (W:World) (b:Nat) (vR vH:Value):Nx W b vR vH W vR vH:=⟨rfl,rfl,rfl,Nat.le_refl _,fun _ _ _ _ _=>rfl,fun _ h=>.inl h,fun _ h=>.inl h⟩
theorem Nx.trans {W W1 W2:World} {b:Nat} {vR vH vR1 vH1 vR2 vH2:Value} (h:Nx W b vR vH W1 vR1 vH1) (k:Nx W1 b vR1 vH1 W2 vR2 vH2):Nx W b vR vH W2 vR2 vH2 where
 os:=k.os.trans h.os
 tape:=k.tape.trans h.tape
 output:=k.output.trans h.output
 size:=Nat.le_trans h.size k.size
 block q h1 h2 h3 h4:=(k.block q (Nat.lt_of_lt_of_le h1 h.size) h2 (fun e=>by rcases h.newR q e with e|e;exact h3 e;omega) (fun e=>by rcases h.newH q e with e|e;exact h4 e;omega)).trans (h.block q h1 h2 h3 h4)
 newR q hq:=by
  rcases k.newR q hq with e|e
  ·exact h.newR q e
  ·exact .inr (Nat.le_trans h.size e)
 newH q hq:=by
  rcases k.newH q hq with e|e
  ·exact h.newH q e
  ·exact .inr (Nat.le_trans h.size e)
theorem Mine.off {α:Type} {F:Kd α} {w w':World} {B b:Nat} {v:Value} {T:List α} {cs:Array Value} {e:TypeId} (h:Mine F w B v T) (hb:w.heap[b]? = some (.cells cs e (0,0))) (hne:e≠F.e) (hs:∀ k,k<w.heap.size→k≠b→w'.heap[k]? = w.heap[k]?):Mine F w' B v T:=by
 refine⟨h.1,?_⟩
 rcases h.2 with hn|⟨q,cap,cur,rfl,hq,hh,rest⟩
 ·exact .inl hn
 ·refine .inr ⟨q,cap,cur,rfl,hq,(hs q (Array.getElem?_eq_some_iff.1 hh).1 ?_).trans hh,rest⟩
  rintro rfl
  exact zdB
theorem RdAt.put {W W':World} {b:Nat} {vL vR vH:Value} {σ σ':Rd} (h:RdAt W b vL vR vH σ) (hs:∀ k,k<W.heap.size→k≠b→W'.heap[k]? = W.heap[k]?)
  (hc:W'.heap[b]? = some (.cells #[vL,.int .i64 (σ'.at':Int),vR,vH,.int .i64 (σ'.op:Int),.int .i64 σ'.d0,.int .i64 σ'.d1,.int .i64 σ'.d2,.bool σ'.failed] 64 (0,0))) (hL:σ'.L=σ.L) (hR:σ'.R=σ.R) (hH:σ'.H=σ.H) (ha:σ'.at'≤σ.L.length):RdAt W' b vL vR vH σ':=
 ⟨hc,by rw[hL];exact h.toks.off h.cells zdD hs,by rw[hR];exact h.row.off h.cells zdD hs,by rw[hH];exact h.high.off h.cells zdD hs,by rw[hL];exact ha,by rw[hL];exact h.few⟩
theorem zkq {W:World} {b:Nat} {vL vR vH:Value} {σ:Rd} (h:RdAt W b vL vR vH σ) :
  Calls Tryz.prog 89 #[.pointer (some ⟨b,0,none⟩)] W fun e w'=>e=.returned (.int .i64 σ.here)∧W=w':=by
 have HX:=Lib.hid (ziU h 0 zdD)
 obtain⟨⟨b0,b1,_,_,_,_,_,_,b8⟩,_⟩:=zgd h.cells
 have hle:=Rd.next_le h.read 0
 have HH:Hid (σ.here=match lastTo σ.L σ.at' with|some x=>x|none=>match σ.L[σ.next 0]? with|some t=>t.i|none=>match σ.L[0]? with|some t=>t.i|none=>0):=Lib.hid rfl
 obtain⟨g,o,cap,hv,ho,_⟩:=h.toks.shape
 subst hv
 have HO:=Lib.hid ho
 have HM:=Lib.hid h.toks
 have hfew:=h.few
 have hread:=h.read
 clear ho h
 generalize σ.here=res at *
 generalize σ.next 0=i0 at *
 generalize σ.at'=a at *
 generalize σ.L=L at *
 obtain⟨len,hlen⟩:∃ len,L.length=len:=⟨_,rfl⟩
 rw[hlen] at HM hle b0 hfew hread
 have HLN:=Lib.hid hlen
 clear hlen
 go_enter Tryz.func89,Tryz.ntmps89
 go_wp2
 go_loopw [3] (fun p wr=>∃ n:Nat,n≤a∧p=.int .i64 ((n:Int) - 1)∧lastTo L n=lastTo L a∧wr=W) (fun p _=>(intOf p+1).toNat)
 case atStart=>exact⟨a,Nat.le_refl _,rfl,rfl,rfl⟩
 case round=>
  obtain⟨n,hna,rfl,hle2,hw⟩:=hrel
  have hw2:=hw.symm
  subst hw2
  have HL:=Lib.hid hle2
  clear hle2 hw
  cases n with
  |succ n=>
   have hltT:n<L.length:=by rw[HLN.out];omega
   have hnl:n<len:=by omega
   have ho:=HO.out zdE
   subst ho
   obtain⟨c0,_,c2⟩:=zgl HM.out.cells n hltT
   rw[Nat.zero_add] at c0 c2
   rw[lastTo,List.getElem?_eq_getElem hltT] at HL
   simp only[] at HL
   generalize L[n]=t at *
   obtain⟨z,x1,x2⟩:=t
   simp only[] at c0 c2 HL
   have e1:(((n+1:Nat):Int) - 1)=(n:Int):=by omega
   rw[e1]
   clear e1 hltT
   cases hs:sig z with
   |true=>
    rw[hs,if_pos rfl] at HL
    have hd2:decide (10≤z)=true:=hs
    clear hs
    rw[← HL.out] at HH
    go_wp2_with fail
    go_ret
    exact⟨by rw[HH.out];rfl,rfl⟩
   |false=>
    rw[hs,if_neg zdF] at HL
    have hd2:decide (10≤z)=false:=hs
    clear hs
    go_wp2_with fail
    go_roundw
    case rel=>exact⟨n,by omega,rfl,HL.out,by trivial⟩
    case measure=>simp [intOf]
  |zero=>
   rw[lastTo] at HL
   rw[← HL.out] at HH
   rw[show(((0:Nat):Int) - 1) = -1 from rfl]
   clear HL
   by_cases hlt:i0<len
   ·have hltT:i0<L.length:=by rw[HLN.out];exact hlt
    have ho:=HO.out zdE
    subst ho
    obtain⟨_,c1,_⟩:=zgl HM.out.cells i0 hltT
    rw[Nat.zero_add] at c1
    simp only[List.getElem?_eq_getElem hltT] at HH
    generalize L[i0]=t at *
    obtain⟨z,x1,x2⟩:=t
    simp only[] at c1 HH
    have hd:decide ((i0:Int)<(len:Int))=true:=decide_eq_true zdC
    have hd':decide (i0<len)=true:=decide_eq_true hlt
    clear hltT
    exact zcc
   ·have hd:decide ((i0:Int)<(len:Int))=false:=decide_eq_false zdC
    have hd':decide (i0<len)=false:=decide_eq_false hlt
    simp only[List.getElem?_eq_none (show L.length≤i0 by rw[HLN.out];omega)] at HH
    by_cases hl0:0<len
    ·have hltT:0<L.length:=by rw[HLN.out];exact hl0
     have ho:=HO.out zdE
     subst ho
     obtain⟨_,c1,_⟩:=zgl HM.out.cells 0 hltT
     simp only[List.getElem?_eq_getElem hltT] at HH
     generalize L[0]=t at *
     obtain⟨z,x1,x2⟩:=t
     simp only[] at c1 HH
     have c1':W.cell? ⟨g,1,none⟩=some (.int .i64 x1):=c1
     have hd2:decide (0<(len:Int))=true:=decide_eq_true zdC
     have hd2':decide (0<len)=true:=decide_eq_true hl0
     clear hltT c1
     exact zcc
    ·obtain rfl:len=0:=by omega
     simp only[List.getElem?_eq_none (show L.length≤0 by rw[HLN.out];omega)] at HH
     clear hl0
     exact zcc
open Go.RowKit
def Rd.piece (σ:Rd):Int × Int:=match σ.L[σ.next 0]? with
 |some t=>(t.i,t.j)
 |none=>(σ.here,σ.here)
def Rd.fail (σ:Rd) (code:Int):Rd:=if σ.failed then σ else{ σ with d0:=code,d1:=σ.piece.1,d2:=σ.piece.2,failed:=true }
theorem Rd.fail_failed {σ:Rd} (h:σ.failed=true) (c:Int):σ.fail c=σ:=by unfold Rd.fail;rw[h,if_pos rfl]
theorem Rd.fail_not {σ:Rd} (h:σ.failed=false) (c:Int):σ.fail c = { σ with d0:=c,d1:=σ.piece.1,d2:=σ.piece.2,failed:=true }:=by unfold Rd.fail;rw[h,if_neg zdF]
def Steps (W:World) (b:Nat) (vL vR vH:Value) (σ':Rd) (e:Ending) (W':World):Prop:=∃ v vR' vH',e=.returned v∧RdAt W' b vL vR' vH' σ'∧Nx W b vR vH W' vR' vH'
def StepsB (t:Bool) (W:World) (b:Nat) (vL vR vH:Value) (σ':Rd) (e:Ending) (W':World):Prop:=∃ vR' vH',e=.returned (.bool t)∧RdAt W' b vL vR' vH' σ'∧Nx W b vR vH W' vR' vH'
theorem Nx.own {W W':World} {b:Nat} {vR vH:Value} (h1:W'.os=W.os) (h2:W'.tape=W.tape) (h3:W'.output=W.output) (h4:W'.heap.size=W.heap.size) (hs:∀ k,k<W.heap.size→k≠b→W'.heap[k]? = W.heap[k]?):Nx W b vR vH W' vR vH:=
 ⟨h1,h2,h3,by omega,fun q hq hb _ _=>hs q hq hb,fun _ h=>.inl h,fun _ h=>.inl h⟩
theorem zfy (W:World) (b o:Nat) (u:Value) (k:Nat):k≠b→(W.setCell ⟨b,o,none⟩ u).heap[k]? = W.heap[k]?:=fun hk=>Below.heap_setCell _ _ _ _ hk
theorem zfA (W:World) (b o:Nat) (u:Value):(W.setCell ⟨b,o,none⟩ u).heap.size=W.heap.size:=by simp [World.setCell]
theorem zja {W:World} {b:Nat} {vL vR vH:Value} {σ:Rd} (h:RdAt W b vL vR vH σ) (code:Int) :
  Calls Tryz.prog 46 #[.pointer (some ⟨b,0,none⟩),.int .i64 code] W (Steps W b vL vR vH (σ.fail code)):=by
 have HRD:=Lib.hid h
 have HE:=Lib.hid (zkq h)
 have HX:=Lib.hid (ziU h 0 zdD)
 have hcb:=h.cells
 obtain⟨⟨b0,b1,b2,b3,b4,b5,b6,b7,b8⟩,hfr⟩:=zgd hcb
 cases hf:σ.failed with
 |true=>
  rw[hf] at b8
  have HF:=Lib.hid (Rd.fail_failed hf code)
  clear hcb hf h b0 b1 b2 b3 b4 b5 b6 b7 hfr
  go_enter Tryz.func46,Tryz.ntmps46
  go_wp2_with fail
  go_end0
  exact⟨_,vR,vH,rfl,by rw[HF.out];exact HRD.out,Nx.refl _ _ _ _⟩
 |false=>
  rw[hf] at b8
  have HF:=Lib.hid (Rd.fail_not hf code)
  have HCB:=Lib.hid hcb
  have hle:=Rd.next_le h.read 0
  have hfew:=h.few
  have f5:=hfr 5
  have f6:=hfr 6
  have f7:=hfr 7
  have f8:=hfr 8
  have HCODE:Hid (∀ W3,W3=((W.setCell ⟨b,5,none⟩ (.int .i64 code)).setCell ⟨b,6,none⟩ (.int .i64 σ.here)).setCell ⟨b,7,none⟩ (.int .i64 σ.here)→RdAt W3 b vL vR vH { σ with d0:=code,d1:=σ.here,d2:=σ.here }∧Nx W b vR vH W3 vR vH):=Lib.hid (fun W3 e=>by
   have hs:∀ k,k<W.heap.size→k≠b→W3.heap[k]? = W.heap[k]?:=fun k _ hk=>by rw[e,zfy _ _ _ _ _ hk,zfy _ _ _ _ _ hk,zfy _ _ _ _ _ hk]
   refine⟨h.put hs ?_ rfl rfl rfl h.read,Nx.own (by rw[e];rfl) (by rw[e];rfl) (by rw[e];rfl) (by rw[e,zfA,zfA,zfA]) hs⟩
   rw[e]
   exact heap_setCell_same _ b 7 _ _ _ (heap_setCell_same _ b 6 _ _ _ (heap_setCell_same _ b 5 _ _ _ hcb)))
  have HPI:Hid (σ.piece=match σ.L[σ.next 0]? with|some t=>(t.i,t.j)|none=>(σ.here,σ.here)):=Lib.hid rfl
  have HFF:=Lib.hid hf
  clear hcb hf h hfr
  rw[HF.out]
  go_enter Tryz.func46,Tryz.ntmps46
  go_wp2_with (go_at_call 89;refine HE.out.mono ?_;rintro e w' ⟨rfl,rfl⟩)
  obtain⟨W3,hW3⟩:∃ W3,((W.setCell ⟨b,5,none⟩ (.int .i64 code)).setCell ⟨b,6,none⟩ (.int .i64 σ.here)).setCell ⟨b,7,none⟩ (.int .i64 σ.here)=W3:=⟨_,rfl⟩
  rw[hW3]
  obtain⟨hr3,hn3⟩:=HCODE.out W3 hW3.symm
  have HN3:=Lib.hid hn3
  have HX3:=ziU hr3 0 zdD
  rw[show Rd.next { σ with d0:=code,d1:=σ.here,d2:=σ.here } 0=σ.next 0 from rfl] at HX3
  have HX3:=Lib.hid HX3
  clear hW3 hn3 HCODE b0 b1 b2 b3 b4 b5 b6 b7 b8 f5 f6 f7 f8
  have hcb3:=hr3.cells
  obtain⟨⟨b0,b1,b2,b3,b4,b5,b6,b7,b8⟩,hfr3⟩:=zgd hcb3
  have f6:=hfr3 6
  have f7:=hfr3 7
  have f8:=hfr3 8
  have HCB3:=Lib.hid hcb3
  have HR3:=Lib.hid hr3
  obtain⟨g,o,cap,hv,ho,_⟩:=hr3.toks.shape
  have HO:=Lib.hid ho
  have HM:=Lib.hid hr3.toks
  clear hcb3 hfr3 ho hr3
  simp only[] at b0 b1 b2 b3 b4 b5 b6 b7 b8 hv HO HM
  subst hv
  obtain⟨len,hlen⟩:∃ len,σ.L.length=len:=⟨_,rfl⟩
  have HLN:=Lib.hid hlen
  rw[hlen] at HM hle b0 hfew
  obtain⟨i0,hi0⟩:∃ i0,σ.next 0=i0:=⟨_,rfl⟩
  rw[hi0] at HX3 hle HPI
  clear hlen hi0
  by_cases hlt:i0<len
  ·have hltT:i0<σ.L.length:=by rw[HLN.out];exact hlt
   have ho:=HO.out zdH
   subst ho
   obtain⟨_,c1,c2⟩:=zgl HM.out.cells i0 hltT
   rw[Nat.zero_add] at c1 c2
   simp only[List.getElem?_eq_getElem hltT] at HPI
   have hd:decide ((i0:Int)<(len:Int))=true:=decide_eq_true zdC
   have hd':decide (i0<len)=true:=decide_eq_true hlt
   generalize σ.L[i0]=t at *
   obtain⟨z,x1,x2⟩:=t
   simp only[] at c1 c2 HPI
   clear hltT
   refine HX3.out.mono ?_
   rintro e w' ⟨rfl,rfl⟩
   go_wp2_with fail
   go_end0
   have hs:∀ k,k<W3.heap.size→k≠b→(((W3.setCell ⟨b,6,none⟩ (.int .i64 x1)).setCell ⟨b,7,none⟩ (.int .i64 x2)).setCell ⟨b,8,none⟩ (.bool true)).heap[k]? = W3.heap[k]?:=fun k _ hk=>by rw[zfy _ _ _ _ _ hk,zfy _ _ _ _ _ hk,zfy _ _ _ _ _ hk]
   refine⟨_,vR,vH,rfl,HR3.out.put hs ?_ rfl rfl rfl HRD.out.read,HN3.out.trans (Nx.own rfl rfl rfl (by rw[zfA,zfA,zfA]) hs)⟩
   rw[show σ.piece=(x1,x2) from HPI.out]
   exact heap_setCell_same _ b 8 _ _ _ (heap_setCell_same _ b 7 _ _ _ (heap_setCell_same _ b 6 _ _ _ HCB3.out))
  ·have hd:decide ((i0:Int)<(len:Int))=false:=decide_eq_false zdC
   have hd':decide (i0<len)=false:=decide_eq_false hlt
   simp only[List.getElem?_eq_none (show σ.L.length≤i0 by rw[HLN.out];omega)] at HPI
   refine HX3.out.mono ?_
   rintro e w' ⟨rfl,rfl⟩
   go_wp2_with fail
   go_end0
   have hs:∀ k,k<W3.heap.size→k≠b→(W3.setCell ⟨b,8,none⟩ (.bool true)).heap[k]? = W3.heap[k]?:=fun k _ hk=>zfy _ _ _ _ _ hk
   refine⟨_,vR,vH,rfl,HR3.out.put hs ?_ rfl rfl rfl HRD.out.read,HN3.out.trans (Nx.own rfl rfl rfl zdI hs)⟩
   rw[show σ.piece=(σ.here,σ.here) from HPI.out]
   exact heap_setCell_same _ b 8 _ _ _ HCB3.out
def Rd.down (σ:Rd):Rd × Bool:=if σ.failed then(σ,false) else if 100≤σ.op then(σ.fail 202,false) else({ σ with op:=σ.op+1 },true)
def Rd.up (σ:Rd):Rd:={ σ with op:=σ.op - 1 }
theorem ztO {W:World} {b:Nat} {vL vR vH:Value} {σ:Rd} (h:RdAt W b vL vR vH σ) (hop:σ.op≤1000) :
  Calls Tryz.prog 44 #[.pointer (some ⟨b,0,none⟩)] W (Steps W b vL vR vH σ.up):=by
 have HRD:=Lib.hid h
 have hcb:=h.cells
 have HCB:=Lib.hid hcb
 obtain⟨⟨_,_,_,_,b4,_⟩,hfr⟩:=zgd hcb
 have f4:=hfr 4
 have HU:Hid (σ.up = { σ with op:=σ.op - 1 }):=Lib.hid rfl
 clear h hcb hfr
 by_cases h0:0<σ.op
 ·have HO:Hid (((σ.op - 1:Nat):Int)=(σ.op:Int) - 1):=Lib.hid zdC
  have hd:decide (0<(σ.op:Int))=true:=decide_eq_true zdC
  have hd':decide (0<σ.op)=true:=decide_eq_true h0
  go_enter Tryz.func44,Tryz.ntmps44
  go_wp2_with fail
  go_end0
  have hs:∀ k,k<W.heap.size→k≠b→(W.setCell ⟨b,4,none⟩ (.int .i64 ((σ.op:Int) - 1))).heap[k]? = W.heap[k]?:=fun k _ hk=>zfy _ _ _ _ _ hk
  refine⟨_,vR,vH,rfl,?_,Nx.own rfl rfl rfl zdI hs⟩
  rw[HU.out]
  refine HRD.out.put hs ?_ rfl rfl rfl HRD.out.read
  show _=some (Obj.cells #[vL,_,vR,vH,.int .i64 ((σ.op - 1:Nat):Int),_,_,_,_] _ _)
  rw[HO.out]
  exact heap_setCell_same _ b 4 _ _ _ HCB.out
 ·have HZ:Hid (σ.op=0):=Lib.hid zdC
  rw[show((σ.op:Nat):Int)=0 by omega] at b4
  clear h0
  go_enter Tryz.func44,Tryz.ntmps44
  go_wp2_with fail
  go_end0
  refine⟨_,vR,vH,rfl,?_,Nx.refl _ _ _ _⟩
  rw[HU.out]
  exact HRD.out.put (fun _ _ _=>rfl) (by have h1:=HCB.out;show _=some (Obj.cells #[vL,_,vR,vH,.int .i64 ((σ.op - 1:Nat):Int),_,_,_,_] _ _);rw[show σ.op - 1=σ.op by have:=HZ.out;omega];exact h1) rfl rfl rfl HRD.out.read
open Go.RowKit
theorem zos {W:World} {b:Nat} {vL vR vH:Value} {σ:Rd} (h:RdAt W b vL vR vH σ) (hop:σ.op≤1000) :
  Calls Tryz.prog 42 #[.pointer (some ⟨b,0,none⟩)] W (StepsB σ.down.2 W b vL vR vH σ.down.1):=by
 have HRD:=Lib.hid h
 have HF:=Lib.hid (zja h 202)
 have hcb:=h.cells
 have HCB:=Lib.hid hcb
 obtain⟨⟨_,_,_,_,b4,_,_,_,b8⟩,hfr⟩:=zgd hcb
 have f4:=hfr 4
 have HU:Hid (σ.down=if σ.failed then(σ,false) else if 100≤σ.op then(σ.fail 202,false) else({ σ with op:=σ.op+1 },true)):=Lib.hid rfl
 clear h hcb hfr
 cases hf:σ.failed with
 |true=>
  rw[hf,if_pos rfl] at HU
  rw[hf] at b8
  rw[HU.out]
  clear hf
  go_enter Tryz.func42,Tryz.ntmps42
  go_wp2_with fail
  go_ret
  exact⟨vR,vH,rfl,HRD.out,Nx.refl _ _ _ _⟩
 |false=>
  rw[hf,if_neg zdF] at HU
  rw[hf] at b8
  by_cases h1:100≤σ.op
  ·rw[if_pos h1] at HU
   rw[HU.out]
   have hd:decide (100≤(σ.op:Int))=true:=decide_eq_true zdC
   have hd':decide (100≤σ.op)=true:=decide_eq_true h1
   clear hf h1
   go_enter Tryz.func42,Tryz.ntmps42
   exact zcm
  ·rw[if_neg h1] at HU
   rw[HU.out]
   have hd:decide (100≤(σ.op:Int))=false:=decide_eq_false zdC
   have hd':decide (100≤σ.op)=false:=decide_eq_false h1
   rw[hf] at HCB
   clear hf h1
   go_enter Tryz.func42,Tryz.ntmps42
   go_wp2_with fail
   go_ret
   have hs:∀ k,k<W.heap.size→k≠b→(W.setCell ⟨b,4,none⟩ (.int .i64 ((σ.op:Int)+1))).heap[k]? = W.heap[k]?:=fun k _ hk=>zfy _ _ _ _ _ hk
   refine⟨vR,vH,rfl,HRD.out.put hs ?_ rfl rfl rfl HRD.out.read,Nx.own rfl rfl rfl zdI hs⟩
   show _=some (Obj.cells #[vL,_,vR,vH,.int .i64 ((σ.op+1:Nat):Int),_,_,_,_] _ _)
   rw[Int.natCast_add]
   exact heap_setCell_same _ b 4 _ _ _ HCB.out
def Rd.last (σ:Rd):Int:=if σ.failed then 0 else match σ.R.getLast? with|some n=>n.k|none=>0
open Go.RowKit
def Rn.v (N:Rn):Value:=.agg #[.int .i64 N.k,.int .i64 N.i,.int .i64 N.j,.slice N.o N.n N.c]
section
variable {α β:Type} {F:Kd α} {G:Kd β}
theorem Mine.keep {w w':World} {B:Nat} {v:Value} {T:List α} (h:Mine F w B v T) (hs:∀ k,v.ownBlock=some k→k<w.heap.size→w'.heap[k]? = w.heap[k]?):Mine F w' B v T:=by
 refine⟨h.1,?_⟩
 rcases h.2 with hn|⟨q,cap,cur,rfl,hq,hh,rest⟩
 ·exact .inl hn
 ·exact .inr ⟨q,cap,cur,rfl,hq,(hs q rfl (Array.getElem?_eq_some_iff.1 hh).1).trans hh,rest⟩
theorem Mine.differs {w:World} {B B2:Nat} {v v2:Value} {T:List α} {T2:List β} (h:Mine F w B v T) (h2:Mine G w B2 v2 T2) (hne:F.e≠G.e) (k:Nat) (hk:v.ownBlock=some k):v2.ownBlock≠some k:=by
 intro hk2
 rcases h.2 with⟨rfl,_⟩|⟨q,cap,cur,rfl,hq,hh,_⟩
 ·simp [Value.ownBlock] at hk
 ·rcases h2.2 with⟨rfl,_⟩|⟨q2,cap2,cur2,rfl,hq2,hh2,_⟩
  ·simp [Value.ownBlock] at hk2
  ·simp only[Value.ownBlock,Option.some.injEq] at hk hk2
   subst hk hk2
   rw[hh] at hh2
   simp only[Option.some.injEq,Obj.cells.injEq] at hh2
   exact hne hh2.2.1
theorem Mine.ne {w:World} {B b:Nat} {v:Value} {T:List α} {cs:Array Value} {e:TypeId} (h:Mine F w B v T) (hb:w.heap[b]? = some (.cells cs e (0,0))) (hne:e≠F.e):v.ownBlock≠some b:=by
 intro hk
 rcases h.2 with⟨rfl,_⟩|⟨q,cap,cur,rfl,hq,hh,_⟩
 ·simp [Value.ownBlock] at hk
 ·simp only[Value.ownBlock,Option.some.injEq] at hk
  subst hk
  exact zdB
theorem Mine.lt {w:World} {B:Nat} {v:Value} {T:List α} (h:Mine F w B v T) (k:Nat) (hk:v.ownBlock=some k):k<w.heap.size:=(World.ownsRow.lt h k hk).2
theorem Mine.free {w:World} {B g cap m:Nat} {T:List α} (h:Mine F w B (.slice (some ⟨g,0,none⟩) m cap) T) (j:Nat):w.frozen? ⟨g,j,none⟩=false:=by
 have hm:m=T.length:=by
  rcases h.2 with⟨h',_⟩|⟨g',cap',cur,h',_⟩
  ·simp at h'
  ·simp only[Value.slice.injEq] at h'
   exact h'.2.1
 subst hm
 exact World.ownsRow.frozenAt h j
theorem zgS {w:World} {base:Nat} {v:Value} {T0:List α} {x:α} {ad:Nat} (hown:Mine F w base v T0) (hh:w.heap[ad]? = some (.cells (F.c x).toArray F.e (0,0))) (hb:base≤w.heap.size) (hm:T0.length+1≤maxLen) (hby:(T0.length+1)*F.bytes≤140737488355328) :
  ∃ g cap w',(∀ ty,(Builtin.append_ #[F.t,F.t] ty #[v,.slice (some ⟨ad,0,none⟩) 1 1]).run Tryz.prog w=.ok (.slice (some ⟨g,0,none⟩) (T0.length+1) cap) w')∧Mine F w' base (.slice (some ⟨g,0,none⟩) (T0.length+1) cap) (T0 ++ [x])∧w.grownBy w' v.ownBlock∧(v.ownBlock=some g∨g=w.heap.size):=by
 obtain⟨i0,hi,hz0,hz1,hz2⟩:=info_parts F.hi
 obtain⟨g,cap,w',h1,h2,h3,h4,_⟩:=run_append_lies (P:=Tryz.prog) w F.t 0 base F.e i0 F.z F.k F.bytes F.ht hi hz0 hz1 hz2 F.hz F.hk v T0.length (flat F T0) hown ⟨ad,0,none⟩ 1 1 (flat F [x]) (zhx F [x]) (fun j u hu=>by
  rw[Addr.add_lit,cell_of_row w ad (0+j) _ _ (0,0) hh,Nat.zero_add]
  simpa [flat] using hu) (zlC F [x]) zdC hm hby hb w.heap.size rfl
 refine⟨g,cap,w',fun ty=>h1,?_,h3,h4⟩
 exact zdg
end
theorem zqb (T:List Rn) (t:Rn):∀ n,n<T.length→flat nd (T.set n t)=((((flat nd T).set (n*4) (.int .i64 t.k)).set (n*4+1) (.int .i64 t.i)).set (n*4+2) (.int .i64 t.j)).set (n*4+3) (.slice t.o t.n t.c):=by
 induction T with
 |nil=>intro n h;simp at h
 |cons d T ih=>
  intro n h
  have e:∀ (d:Rn) (T:List Rn),flat nd (d::T)=.int .i64 d.k :: .int .i64 d.i :: .int .i64 d.j :: .slice d.o d.n d.c::flat nd T:=fun _ _=>rfl
  cases n with
  |zero=>rw[List.set_cons_zero,e,e];rfl
  |succ n=>
   rw[List.set_cons_succ,e,e,ih n zdJ,show(n+1)*4=n*4+1+1+1+1 by omega,show n*4+1+1+1+1+2=n*4+2+1+1+1+1 by omega,show n*4+1+1+1+1+3=n*4+3+1+1+1+1 by omega]
   rfl
theorem Mine.put_nd {w:World} {B g cap m:Nat} {T:List Rn} (h:Mine nd w B (.slice (some ⟨g,0,none⟩) m cap) T) (hm:T.length=m) (n:Nat) (hn:n<T.length) (t:Rn) :
  Mine nd ((((w.setCell ⟨g,n*4,none⟩ (.int .i64 t.k)).setCell ⟨g,n*4+1,none⟩ (.int .i64 t.i)).setCell ⟨g,n*4+2,none⟩ (.int .i64 t.j)).setCell ⟨g,n*4+3,none⟩ (.slice t.o t.n t.c)) B (.slice (some ⟨g,0,none⟩) m cap) (T.set n t):=by
 unfold Mine at *
 rw[List.length_set,zqb T t n hn,hm]
 rw[hm] at h
 exact((((h.stored _ _).1.stored _ _).1.stored _ _).1.stored _ _).1
theorem RdAt.below {W W':World} {b:Nat} {vL vR vH:Value} {σ:Rd} (h:RdAt W b vL vR vH σ) (hb:Below W.heap.size W W'):RdAt W' b vL vR vH σ:=
 ⟨(hb.block b (Array.getElem?_eq_some_iff.1 h.cells).1).trans h.cells,h.toks.below hb,h.row.below hb,h.high.below hb,h.read,h.few⟩
theorem Nx.below {W W':World} {b:Nat} {vR vH:Value} (hb:Below W.heap.size W W'):Nx W b vR vH W' vR vH:=
 ⟨hb.os,hb.tape,hb.output,hb.size,fun k hk _ _ _=>hb.block k hk,fun _ h=>.inl h,fun _ h=>.inl h⟩
theorem RdAt.pushed {W w' W':World} {b g cap:Nat} {vL vR vH:Value} {σ:Rd} {R':List Rn} {m:Nat} (h:RdAt W b vL vR vH σ) (hg:W.grownBy w' vR.ownBlock) (hat:vR.ownBlock=some g∨W.heap.size≤g) (hgz:g<w'.heap.size)
  (hm:Mine nd W' 0 (.slice (some ⟨g,0,none⟩) m cap) R')
  (hsz:W'.heap.size=w'.heap.size) (ho:W'.os=w'.os) (ht:W'.tape=w'.tape) (hou:W'.output=w'.output)
  (hs:∀ k,k≠b→k≠g→W'.heap[k]? = w'.heap[k]?)
  (hc:∀ cs,w'.heap[b]? = some (.cells cs 64 (0,0))→W'.heap[b]? = some (.cells (cs.setIfInBounds 2 (.slice (some ⟨g,0,none⟩) m cap)) 64 (0,0))) :
  RdAt W' b vL (.slice (some ⟨g,0,none⟩) m cap) vH { σ with R:=R' }∧Nx W b vR vH W' (.slice (some ⟨g,0,none⟩) m cap) vH:=by
 have hbz:=(Array.getElem?_eq_some_iff.1 h.cells).1
 have hRb:vR.ownBlock≠some b:=h.row.ne h.cells zdD
 have hLb:vL.ownBlock≠some b:=h.toks.ne h.cells zdD
 have hHb:vH.ownBlock≠some b:=h.high.ne h.cells zdD
 have far:∀ {γ:Type} {K:Kd γ} {v:Value} {T:List γ},Mine K W 0 v T→K.e≠nd.e→v.ownBlock≠some b→Mine K W' 0 v T:=fun hK hne hvb=>hK.keep (fun k hk hkz=>by
  have hR:vR.ownBlock≠some k:=hK.differs h.row hne k hk
  exact zcw)
 refine⟨⟨?_,far h.toks zdD hLb,hm,far h.high zdD hHb,h.read,h.few⟩,?_⟩
 ·exact hc _ ((hg.block b hbz (fun e=>hRb e.symm)).trans h.cells)
 ·refine⟨ho.trans hg.os,ht.trans hg.tape,hou.trans hg.output,by rw[hsz];exact hg.size,fun k hk hkb hkR hkH=>?_,fun k hk=>?_,fun k hk=>.inl hk⟩
  ·have h2:k≠g:=by
    rintro rfl
    rcases hat with hat|hat
    ·exact hkR hat
    ·omega
   rw[hs k hkb h2,hg.block k hk (fun e=>hkR e.symm)]
  ·simp only[Value.ownBlock,Option.some.injEq] at hk
   subst hk
   exact hat
theorem RdAt.pushedH {W w' W':World} {b g cap:Nat} {vL vR vH:Value} {σ:Rd} {H':List Int} {m:Nat} (h:RdAt W b vL vR vH σ) (hg:W.grownBy w' vH.ownBlock) (hat:vH.ownBlock=some g∨W.heap.size≤g)
  (hm:Mine it W' 0 (.slice (some ⟨g,0,none⟩) m cap) H')
  (hsz:W'.heap.size=w'.heap.size) (ho:W'.os=w'.os) (ht:W'.tape=w'.tape) (hou:W'.output=w'.output)
  (hs:∀ k,k≠b→k≠g→W'.heap[k]? = w'.heap[k]?)
  (hc:∀ cs,w'.heap[b]? = some (.cells cs 64 (0,0))→W'.heap[b]? = some (.cells (cs.setIfInBounds 3 (.slice (some ⟨g,0,none⟩) m cap)) 64 (0,0))) :
  RdAt W' b vL vR (.slice (some ⟨g,0,none⟩) m cap) { σ with H:=H' }∧Nx W b vR vH W' vR (.slice (some ⟨g,0,none⟩) m cap):=by
 have hbz:=(Array.getElem?_eq_some_iff.1 h.cells).1
 have hRb:vR.ownBlock≠some b:=h.row.ne h.cells zdD
 have hLb:vL.ownBlock≠some b:=h.toks.ne h.cells zdD
 have hHb:vH.ownBlock≠some b:=h.high.ne h.cells zdD
 have far:∀ {γ:Type} {K:Kd γ} {v:Value} {T:List γ},Mine K W 0 v T→K.e≠it.e→v.ownBlock≠some b→Mine K W' 0 v T:=fun hK hne hvb=>hK.keep (fun k hk hkz=>by
  have hR:vH.ownBlock≠some k:=hK.differs h.high hne k hk
  exact zcw)
 refine⟨⟨?_,far h.toks zdD hLb,far h.row zdD hRb,hm,h.read,h.few⟩,?_⟩
 ·exact hc _ ((hg.block b hbz (fun e=>hHb e.symm)).trans h.cells)
 ·refine⟨ho.trans hg.os,ht.trans hg.tape,hou.trans hg.output,by rw[hsz];exact hg.size,fun k hk hkb hkR hkH=>?_,fun k hk=>.inl hk,fun k hk=>?_⟩
  ·have h2:k≠g:=by
    rintro rfl
    rcases hat with hat|hat
    ·exact hkH hat
    ·omega
   rw[hs k hkb h2,hg.block k hk (fun e=>hkH e.symm)]
  ·simp only[Value.ownBlock,Option.some.injEq] at hk
   subst hk
   exact hat
open Go.RowKit
theorem zgy {P:Program} {w:World} {ops:Array Oper} {o:Oper} {a:Act} {K:Act→World→Prop} {Q:Exit→Act→World→Prop} {E:Prop} (hgd:o.guard=none) (s x:Operand) (t tn:TypeId)
  (ho:o.op=.call { callee:=.builtin .append,args:=#[s,x],argTypes:=#[t,tn] }) (vs vx:Value) (hs:a.eval s=vs) (hx:a.eval x=vx)
  {R:Value→World→Prop} (hr:∃ v' w',(∀ ty,(Builtin.append_ #[t,tn] ty #[vs,vx]).run P w=.ok v' w')∧R v' w') (h:∀ v' w',R v' w'→K (a.put o.dst v') w') :
  if Region.wanted o (yielded ops a.tmps)=true then Oper.wp P o a w K Q else E:=by
 have hw:Region.wanted o (yielded ops a.tmps)=true:=by simp [Region.wanted,hgd]
 rw[if_pos hw]
 exact zdp
theorem zkg {W:World} {b:Nat} {vL vR vH:Value} {σ:Rd} (h:RdAt W b vL vR vH σ) (N:Rn) (hi:Int) (hfr:σ.R.length≤1099511627776) (hfh:σ.H.length≤1099511627776) :
  Calls Tryz.prog 67 #[.pointer (some ⟨b,0,none⟩),N.v,.int .i64 hi] W (Steps W b vL vR vH { σ with R:=σ.R ++ [N],H:=σ.H ++ [hi] }):=by
 obtain⟨z,x1,x2,xo,xn,xc⟩:=N
 rw[show(Rn.mk z x1 x2 xo xn xc).v=.agg #[.int .i64 z,.int .i64 x1,.int .i64 x2,.slice xo xn xc] from rfl]
 have hbz:b<W.heap.size:=(Array.getElem?_eq_some_iff.1 h.cells).1
 have HFH:=Lib.hid hfh
 have HW:Hid (∀ W',W'.heap[W.heap.size]? = some (.cells #[.int .i64 z,.int .i64 x1,.int .i64 x2,.slice xo xn xc] 43 (0,0))→Below W.heap.size W W'→RdAt W' b vL vR vH σ∧Nx W b vR vH W' vR vH):=Lib.hid (fun W' _ hb=>⟨h.below hb,Nx.below hb⟩)
 clear h hfh
 go_enter Tryz.func67,Tryz.ntmps67
 go_wp2_with fail
 obtain⟨B0,hB0⟩:∃ B0,W.heap.size=B0:=⟨_,rfl⟩
 have hN1:=heap_alloc_last W (.cells #[.int .i64 z,.int .i64 x1,.int .i64 x2,.slice xo xn xc] 43)
 have hz1:(W.alloc (.cells #[.int .i64 z,.int .i64 x1,.int .i64 x2,.slice xo xn xc] 43)).heap.size=W.heap.size+1:=World.size_alloc _ _
 obtain⟨h1,hn1⟩:=HW.out _ hN1 ((Below.refl _ _).alloc (Nat.le_refl _) _)
 generalize W.alloc (.cells #[.int .i64 z,.int .i64 x1,.int .i64 x2,.slice xo xn xc] 43)=W1 at *
 rw[hB0] at hN1 hz1 hbz ⊢
 have n0:W1.cell? ⟨B0,0,none⟩=some (.int .i64 z):=by rw[cell_of_row W1 B0 0 _ _ _ hN1];rfl
 have n1:W1.cell? ⟨B0,1,none⟩=some (.int .i64 x1):=by rw[cell_of_row W1 B0 1 _ _ _ hN1];rfl
 have n2:W1.cell? ⟨B0,2,none⟩=some (.int .i64 x2):=by rw[cell_of_row W1 B0 2 _ _ _ hN1];rfl
 have n3:W1.cell? ⟨B0,3,none⟩=some (.slice xo xn xc):=by rw[cell_of_row W1 B0 3 _ _ _ hN1];rfl
 have hbz1:b<W1.heap.size:=by omega
 have hB1:B0<W1.heap.size:=by omega
 have HZ1:=Lib.hid hz1
 have HN1:=Lib.hid hn1
 have HR1:=Lib.hid h1
 have hcb:=h1.cells
 have HCB:=Lib.hid hcb
 have HRb:=Lib.hid (h1.row.ne hcb zdD)
 obtain⟨⟨_,_,b2,_,_,_,_,_,_⟩,hfz⟩:=zgd hcb
 have f2:=hfz 2
 obtain⟨g0,o,cap,hv,_,_⟩:=h1.row.shape
 have HM:=Lib.hid h1.row
 subst hv
 obtain⟨len,hlen⟩:∃ len,σ.R.length=len:=⟨_,rfl⟩
 rw[hlen] at b2 hfr HM HRb HR1 HN1 HCB ⊢
 have HLN:=Lib.hid hlen
 clear hN1 h1 hn1 hcb hfz hlen HW hB0 hz1
 have HA:Hid (∀ u,Below W1.heap.size W1 u→∀ ad,u.heap[ad]? = some (.cells #[.int .i64 0,.int .i64 0,.int .i64 0,.slice none 0 0] 43 (0,0))→∃ v' w',(∀ ty,(Builtin.append_ #[35,35] ty #[.slice o len cap,.slice (some ⟨ad,0,none⟩) 1 1]).run Tryz.prog u=.ok v' w') ∧
   ∃ g cap',v'=.slice (some ⟨g,0,none⟩) (len+1) cap'∧Mine nd w' 0 (.slice (some ⟨g,0,none⟩) (len+1) cap') (σ.R ++ [⟨0,0,0,none,0,0⟩])∧W1.grownBy w' (Value.slice o len cap).ownBlock∧((Value.slice o len cap).ownBlock=some g∨W1.heap.size≤g)∧g≠b∧g<w'.heap.size):=Lib.hid (fun u hu ad had=>by
  have hL:=HLN.out
  obtain⟨g,cap',w',h1,h2,h3,h4⟩:=zgS (F:=nd) (x:=⟨0,0,0,none,0,0⟩) (HM.out.below hu) had (Nat.zero_le _) (by simp [maxLen,hL];omega) (by show(σ.R.length+1)*48≤_;rw[hL];omega)
  rw[hL] at h1 h2
  have hat:(Value.slice o len cap).ownBlock=some g∨W1.heap.size≤g:=by
   exact zcE
  refine⟨_,w',h1,g,cap',rfl,h2,⟨h3.os.trans hu.os,h3.tape.trans hu.tape,h3.output.trans hu.output,Nat.le_trans hu.size h3.size,fun k hk hne=>(h3.block k (Nat.lt_of_lt_of_le hk hu.size) hne).trans (hu.block k hk)⟩,hat,?_,h2.lt g rfl⟩
  rintro rfl
  rcases hat with hat|hat
  ·exact HRb.out hat
  ·omega)
 have HCC:Hid (∀ w' g cap',Mine nd w' 0 (.slice (some ⟨g,0,none⟩) (len+1) cap') (σ.R ++ [⟨0,0,0,none,0,0⟩])→W1.grownBy w' (Value.slice o len cap).ownBlock→(w'.cell? ⟨g,len*4,none⟩=some (.int .i64 0)∧w'.cell? ⟨g,len*4+1,none⟩=some (.int .i64 0)∧w'.cell? ⟨g,len*4+2,none⟩=some (.int .i64 0)∧w'.cell? ⟨g,len*4+3,none⟩=some (.slice none 0 0))∧(∀ j,w'.frozen? ⟨g,j,none⟩=false)∧w'.cell? ⟨b,2,none⟩=some (.slice o len cap)∧w'.frozen? ⟨b,2,none⟩=false):=Lib.hid (fun w' g cap' hm hg=>by
  have hlt:len<(σ.R ++ [(⟨0,0,0,none,0,0⟩:Rn)]).length:=by rw[List.length_append,HLN.out];simp
  obtain⟨y0,y1,y2,y3⟩:=zgi hm.cells len hlt
  rw[show(σ.R ++ [(⟨0,0,0,none,0,0⟩:Rn)])[len]=⟨0,0,0,none,0,0⟩ by rw[List.getElem_append_right zdK];simp,Nat.zero_add] at y0 y1 y2 y3
  exact⟨⟨y0,y1,y2,y3⟩,hm.free,hg.cell b2 (fun e=>HRb.out e.symm),(World.frozen?_of_block (hg.block b zdC (fun e=>HRb.out e.symm))).trans f2⟩)
 have hl0:(0:Int)≤(len:Int):=by omega
 have hl1:(len:Int)<(len:Int)+1:=by omega
 have HE:Hid (∀ w' g cap',Mine nd w' 0 (.slice (some ⟨g,0,none⟩) (len+1) cap') (σ.R ++ [⟨0,0,0,none,0,0⟩])→W1.grownBy w' (Value.slice o len cap).ownBlock→((Value.slice o len cap).ownBlock=some g∨W1.heap.size≤g)→g≠b→g<w'.heap.size→∀ W',(W'=((((w'.setCell ⟨g,len*4,none⟩ (.int .i64 z)).setCell ⟨g,len*4+1,none⟩ (.int .i64 x1)).setCell ⟨g,len*4+2,none⟩ (.int .i64 x2)).setCell ⟨g,len*4+3,none⟩ (.slice xo xn xc)).setCell ⟨b,2,none⟩ (.slice (some ⟨g,0,none⟩) (len+1) cap') ∨
   W'=((((w'.setCell ⟨b,2,none⟩ (.slice (some ⟨g,0,none⟩) (len+1) cap')).setCell ⟨g,len*4,none⟩ (.int .i64 z)).setCell ⟨g,len*4+1,none⟩ (.int .i64 x1)).setCell ⟨g,len*4+2,none⟩ (.int .i64 x2)).setCell ⟨g,len*4+3,none⟩ (.slice xo xn xc)) →
   RdAt W' b vL (.slice (some ⟨g,0,none⟩) (len+1) cap') vH { σ with R:=σ.R ++ [⟨z,x1,x2,xo,xn,xc⟩] }∧Nx W b (.slice o len cap) vH W' (.slice (some ⟨g,0,none⟩) (len+1) cap') vH):=Lib.hid (fun w' g cap' hm hg hat hgb hgz W' hW=>by
  have hll:(σ.R ++ [(⟨0,0,0,none,0,0⟩:Rn)]).length=len+1:=by rw[List.length_append,HLN.out];rfl
  have hset:(σ.R ++ [(⟨0,0,0,none,0,0⟩:Rn)]).set len ⟨z,x1,x2,xo,xn,xc⟩=σ.R ++ [⟨z,x1,x2,xo,xn,xc⟩]:=by rw[List.set_append_right _ _ zdK,HLN.out,Nat.sub_self,List.set_cons_zero]
  have main:=RdAt.pushed (W':=W') (g:=g) (cap:=cap') (m:=len+1) (R':=σ.R ++ [⟨z,x1,x2,xo,xn,xc⟩]) HR1.out hg hat hgz ?_ ?_ ?_ ?_ ?_ ?_ ?_
  ·exact⟨main.1,HN1.out.trans main.2⟩
  ·rcases hW with rfl|rfl
   ·have h1:=hm.put_nd hll len zdC ⟨z,x1,x2,xo,xn,xc⟩
    rw[hset] at h1
    exact h1.keep (fun k hk _=>zfy _ _ _ _ _ zdL)
   ·have h1:=(hm.keep (w':=w'.setCell ⟨b,2,none⟩ (.slice (some ⟨g,0,none⟩) (len+1) cap')) (fun k hk _=>zfy _ _ _ _ _ zdL)).put_nd hll len zdC ⟨z,x1,x2,xo,xn,xc⟩
    rw[hset] at h1
    exact h1
  ·rcases hW with rfl|rfl <;> simp only[zfA]
  ·rcases hW with rfl|rfl <;> rfl
  ·rcases hW with rfl|rfl <;> rfl
  ·rcases hW with rfl|rfl <;> rfl
  ·intro k hk1 hk2
   rcases hW with rfl|rfl
   ·rw[zfy _ _ _ _ _ hk1,zfy _ _ _ _ _ hk2,zfy _ _ _ _ _ hk2,zfy _ _ _ _ _ hk2,zfy _ _ _ _ _ hk2]
   ·rw[zfy _ _ _ _ _ hk2,zfy _ _ _ _ _ hk2,zfy _ _ _ _ _ hk2,zfy _ _ _ _ _ hk2,zfy _ _ _ _ _ hk1]
  ·intro cs hcs
   have hbg:b≠g:=fun e=>hgb e.symm
   rcases hW with rfl|rfl
   ·exact heap_setCell_same _ b 2 _ _ _ (by rw[zfy _ _ _ _ _ hbg,zfy _ _ _ _ _ hbg,zfy _ _ _ _ _ hbg,zfy _ _ _ _ _ hbg];exact hcs)
   ·rw[zfy _ _ _ _ _ hbg,zfy _ _ _ _ _ hbg,zfy _ _ _ _ _ hbg,zfy _ _ _ _ _ hbg]
    exact heap_setCell_same _ b 2 _ _ _ hcs)
 go_cut [13] (fun v' wx=>RdAt wx b vL v' vH { σ with R:=σ.R ++ [⟨z,x1,x2,xo,xn,xc⟩] }∧Nx W b (.slice o len cap) vH wx v' vH)
 case first=>
  go_region_law (refine zgy rfl _ _ _ _ rfl _ _ rfl rfl (HA.out _ ?_ _ ?_) ?_;(first|exact(Below.refl _ _).drew.alloc (Nat.le_refl _) _);(first|exact heap_alloc_last _ _);rintro v' w' ⟨g,cap',rfl,hm',hg',hat',hgb',hgz'⟩;have HM':=Lib.hid hm';have HG':=Lib.hid hg';obtain⟨⟨y0,y1,y2,y3⟩,hfg,hb2,hf2⟩:=HCC.out _ _ _ hm' hg';have fg0:=hfg (len*4);have fg1:=hfg (len*4+1);have fg2:=hfg (len*4+2);have fg3:=hfg (len*4+3);clear hm' hg' hfg)
  all_goals(try go_wp2_with fail)
  all_goals go_meet
  all_goals(first|exact HE.out _ _ _ HM'.out HG'.out hat' hgb' hgz' _ (Or.inl (by with_reducible rfl))|exact HE.out _ _ _ HM'.out HG'.out hat' hgb' hgz' _ (Or.inr (by with_reducible rfl)))
 case rest=>
  obtain⟨hr2,hn2⟩:=hcut
  have HN2:=Lib.hid hn2
  clear hn2 HE HA HCC HN1 HR1 HRb HM HCB b2 f2 n0 n1 n2 n3 hbz hbz1 hB1
  have hcb:=hr2.cells
  have hHb:=hr2.high.ne hcb zdD
  have hzc:b<wc.heap.size:=(Array.getElem?_eq_some_iff.1 hcb).1
  obtain⟨⟨_,_,_,b3,_,_,_,_,_⟩,hfz⟩:=zgd hcb
  have f3:=hfz 3
  obtain⟨g1,o1,cap1,hv1,_,_⟩:=hr2.high.shape
  subst hv1
  have hu:Below wc.heap.size wc (wc.alloc (.cells #[.int .i64 hi] 3)):=(Below.refl _ _).alloc (Nat.le_refl _) _
  obtain⟨g,cap',w',h1,h2,h3,h4⟩:=zgS (F:=it) (x:=hi) (hr2.high.below hu) (heap_alloc_last wc (.cells #[.int .i64 hi] 3)) (Nat.zero_le _) (by have:=HFH.out;simp [maxLen];omega) (by have:=HFH.out;show(σ.H.length+1)*8≤_;omega)
  have hat:(Value.slice o1 σ.H.length cap1).ownBlock=some g∨wc.heap.size≤g:=by
   exact zcE
  have hg:wc.grownBy w' (Value.slice o1 σ.H.length cap1).ownBlock:=⟨h3.os.trans hu.os,h3.tape.trans hu.tape,h3.output.trans hu.output,Nat.le_trans hu.size h3.size,fun k hk hne=>(h3.block k (Nat.lt_of_lt_of_le hk hu.size) hne).trans (hu.block k hk)⟩
  have hgb:g≠b:=by
   rintro rfl
   rcases hat with hat|hat
   ·exact hHb hat
   ·omega
  have hb3:w'.cell? ⟨b,3,none⟩=some (.slice o1 σ.H.length cap1):=hg.cell b3 (fun e=>hHb e.symm)
  have hf3:w'.frozen? ⟨b,3,none⟩=false:=(World.frozen?_of_block (hg.block b hzc (fun e=>hHb e.symm))).trans f3
  have HRUN:=Lib.hid h1
  have main:=RdAt.pushedH (W':=w'.setCell ⟨b,3,none⟩ (.slice (some ⟨g,0,none⟩) (σ.H.length+1) cap')) (g:=g) (cap:=cap') (m:=σ.H.length+1) (H':=σ.H ++ [hi]) hr2 hg hat (h2.keep (fun k hk _=>zfy _ _ _ _ _ zdL)) zdI rfl rfl rfl (fun k hk1 _=>zfy _ _ _ _ _ hk1) (fun cs hcs=>heap_setCell_same _ b 3 _ _ _ hcs)
  have HMAIN:=Lib.hid main
  clear hr2 hcb hHb hfz f3 hu h1 h2 h3 h4 hat hg main
  go_wp2_with (at_builtin;refine Lib.wpList_append_run _ rfl _ _ _ _ rfl _ _ rfl rfl _ _ (HRUN.out _) ?_)
  go_end0
  exact⟨_,_,_,rfl,HMAIN.out.1,by rw[HLN.out];exact HN2.out.trans HMAIN.out.2⟩
end Go.Proofs.YtcekbbkidipbnaaGreat.rd
