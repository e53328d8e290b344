/-
  Texts put together: Lf, Lg, Lh, Li, Lj, Lk, Ll, Lm, Rba, Rbb.
-/
import Derived.Test.YtcekbbkidipbnaaGreatL27
import Derived.Test.YtcekbbkidipbnaaGreatL28
import Derived.WalkMore
set_option maxRecDepth 100000
set_option maxHeartbeats 8000000
namespace Go.Proofs.YtcekbbkidipbnaaGreat.lx
open Go.RowKit Go.Proofs.YtcekbbkidipbnaaGreat.tok
theorem lit_end (q:UInt8):lit q []=(0,false):=rfl
theorem lit_quote {q c:UInt8} {r:List UInt8} (h:c=q):lit q (c::r)=(1,true):=by
 cases r with
 |nil=>rw[lit,if_pos h]
 |cons d r=>rw[lit,if_pos h]
theorem lit_feed1 {q c:UInt8} {r:List UInt8} (h:c≠q) (h2:c=10):lit q (c::r)=(0,false):=by
 cases r with
 |nil=>rw[lit,if_neg h,if_pos h2]
 |cons d r=>rw[lit,if_neg h,if_pos h2]
theorem lit_esc_end {q c:UInt8} (h:c≠q) (h2:c≠10):lit q [c]=(1,false):=by rw[lit,if_neg h,if_neg h2]
theorem lit_esc_feed {q c d:UInt8} {r:List UInt8} (h:c≠q) (h2:c≠10) (h3:c=92) (h4:d=10):lit q (c::d::r)=(1,false):=by rw[lit,if_neg h,if_neg h2,if_pos h3,if_pos h4]
theorem lit_esc {q c d:UInt8} {r:List UInt8} (h:c≠q) (h2:c≠10) (h3:c=92) (h4:d≠10):lit q (c::d::r)=((lit q r).1+2,(lit q r).2):=by rw[lit,if_neg h,if_neg h2,if_pos h3,if_neg h4]
theorem lit_other {q c:UInt8} {r:List UInt8} (h:c≠q) (h2:c≠10) (h3:c≠92):lit q (c::r)=((lit q r).1+1,(lit q r).2):=by
 cases r with
 |nil=>rw[lit_esc_end h h2];rfl
 |cons d r=>rw[lit,if_neg h,if_neg h2,if_neg h3]
def LitPost (n:Nat) (b:Bool) (w:World) (e:Ending) (w':World):Prop:=e=.returned (.tuple #[.int .i64 n,.bool b])∧w=w'
open Go.RowKit Go.Proofs.YtcekbbkidipbnaaGreat.tok
theorem cat_eq {x y:List UInt8} (h:x.length+y.length≤9223372036854775807):Op.stringOp .add (B x) (B y)=pure (.string (B (x ++ y))):=by
 unfold Op.stringOp
 simp only[]
 rw[if_neg (by rw[bsize,bsize];show ¬ ((_:Nat):Int)>9223372036854775807;omega),b_append]
open Go.RowKit Go.Proofs.YtcekbbkidipbnaaGreat.tok
theorem boxes_then {w1 w3:World} {x0 x1 x2 y0 y1 y2:Value} {t u:TypeId} (hb:Below ((w1.alloc (.cells #[x0,x1,x2] t)).alloc (.cells #[y0,y1,y2] u)).heap.size ((w1.alloc (.cells #[x0,x1,x2] t)).alloc (.cells #[y0,y1,y2] u)) w3) :
  (w3.cell? ⟨w1.heap.size,0,none⟩=some x0∧w3.cell? ⟨w1.heap.size,1,none⟩=some x1∧w3.cell? ⟨w1.heap.size,2,none⟩=some x2∧w3.cell? ⟨w1.heap.size+1,0,none⟩=some y0∧w3.cell? ⟨w1.heap.size+1,1,none⟩=some y1∧w3.cell? ⟨w1.heap.size+1,2,none⟩=some y2) ∧
  w3.frozen? ⟨w1.heap.size+1,0,none⟩=false∧w3.frozen? ⟨w1.heap.size+1,1,none⟩=false∧w3.frozen? ⟨w1.heap.size+1,2,none⟩=false:=by
 obtain⟨hc,hf⟩:=bcell hb
 refine⟨⟨?_,?_,?_,?_,?_,?_⟩,?_,?_,?_⟩
 all_goals first|(rw[hc _ _ (by simp;try omega)];simp)|(rw[hf _ _ (by simp;try omega)];simp)
theorem six_past {w:World} {b q o:Nat} (h:Six w b) (hq:b+1<q) (v:Value):Six (w.setCell ⟨q,o,none⟩ v) b:=by
 obtain⟨⟨u0,u1,u2,u3,u4,u5,k0,k1,k2,k3,k4,k5⟩,f0,f1,f2,f3,f4,f5⟩:=h
 have c:∀ (p i:Nat) (u:Value),p<q→w.cell? ⟨p,i,none⟩=some u→(w.setCell ⟨q,o,none⟩ v).cell? ⟨p,i,none⟩=some u:=fun p i u hp hv=>by
  rw[World.cell?_setCell_other _ _ _ _ (fun e=>by have:=congrArg Addr.block e;simp at this;omega)];exact hv
 have f:∀ (p i:Nat),w.frozen? ⟨p,i,none⟩=false→(w.setCell ⟨q,o,none⟩ v).frozen? ⟨p,i,none⟩=false:=fun p i hv=>by
  simpa using hv
 exact⟨⟨u0,u1,u2,u3,u4,u5,c _ _ _ (by omega) k0,c _ _ _ (by omega) k1,c _ _ _ (by omega) k2,c _ _ _ (by omega) k3,c _ _ _ (by omega) k4,c _ _ _ (by omega) k5⟩,f _ _ f0,f _ _ f1,f _ _ f2,f _ _ f3,f _ _ f4,f _ _ f5⟩
theorem Told.mk' {m:Nx} {at_:Nat} {w w':World} {v:Value} {x y:Int} (hv:v=.tuple #[.agg #[.int .i64 m.kind,.int .i64 (at_:Int),.int .i64 ((at_:Int)+(m.width:Int))],.agg #[.int .i64 m.code,.int .i64 x,.int .i64 y]])
  (hxy:m.code≠0→x=(at_:Int)+(m.off:Int)∧y=(at_:Int)+(m.off:Int)+(m.dw:Int)) (hb:Below w.heap.size w w'):Told m at_ w (.returned v) w':=by
 subst hv
 exact⟨x,y,rfl,hxy,hb⟩
theorem results_drew {fn:Func} {i j:Tmp} (h:fn.results=#[.cell i 55,.cell j 37]) (tmps:Array Value) {w:World} {b:Nat} (hs:Six w b) (a0 a1 a2 a3 a4 a5:Value)
  (hi:tmps.getD i undef=.pointer (some ⟨b,0,none⟩)) (hj:tmps.getD j undef=.pointer (some ⟨b+1,0,none⟩)) :
  (results fn tmps).run Tryz.prog (put6 w b a0 a1 a2 a3 a4 a5).drew=.ok (.tuple #[.agg #[a0,a1,a2],.agg #[a3,a4,a5]]) (put6 w b a0 a1 a2 a3 a4 a5).drew:=by
 obtain⟨r0,r1,r2,r3,r4,r5⟩:=put6_reads hs a0 a1 a2 a3 a4 a5
 have hi':tmps[i]?.getD undef=.pointer (some ⟨b,0,none⟩):=by simpa using hi
 have hj':tmps[j]?.getD undef=.pointer (some ⟨b+1,0,none⟩):=by simpa using hj
 generalize put6 w b a0 a1 a2 a3 a4 a5=W at *
 simp [results,h,hi',hj',r0,r1,r2,r3,r4,r5,go_sem]
open Go.RowKit Go.Proofs.YtcekbbkidipbnaaGreat.tok
def Bools (b:Bool) (w:World) (e:Ending) (w':World):Prop:=e=.returned (.bool b)∧w=w'
open Go.RowKit Go.Proofs.YtcekbbkidipbnaaGreat.tok
open Go.RowKit Go.Proofs.YtcekbbkidipbnaaGreat.tok
def cellsT (T:List Tr):List Value:=T.flatMap fun t=>[.int .i64 t.k,.int .i64 (t.i:Int),.int .i64 (t.j:Int)]
theorem cellsT_append (a b:List Tr):cellsT (a ++ b)=cellsT a ++ cellsT b:=by simp [cellsT]
theorem cellsT_at (T:List Tr):∀ (j:Nat) (hj:j<T.length),(cellsT T)[j*3]? = some (.int .i64 T[j].k)∧(cellsT T)[j*3+1]? = some (.int .i64 (T[j].i:Int))∧(cellsT T)[j*3+2]? = some (.int .i64 (T[j].j:Int)):=by
 induction T with
 |nil=>intro j hj;simp at hj
 |cons d T ih=>
  intro j hj
  have e:cellsT (d::T)=.int .i64 d.k :: .int .i64 d.i :: .int .i64 d.j::cellsT T:=rfl
  rw[e]
  cases j with
  |zero=>exact⟨rfl,rfl,rfl⟩
  |succ j=>
   obtain⟨a,b,c⟩:=ih j (by simpa using hj)
   rw[show(j+1)*3=j*3+1+1+1 by omega,show j*3+1+1+1+2=j*3+2+1+1+1 by omega]
   simp only[List.getElem?_cons_succ,List.getElem_cons_succ]
   exact⟨a,b,c⟩
def Cells (w:World) (g off:Nat) (T:List Tr):Prop:=∀ j (h:j<T.length),w.cell? ⟨g,off+j*3,none⟩=some (.int .i64 T[j].k)∧w.cell? ⟨g,off+j*3+1,none⟩=some (.int .i64 (T[j].i:Int))∧w.cell? ⟨g,off+j*3+2,none⟩=some (.int .i64 (T[j].j:Int))
def Row (w:World) (v:Value) (T:List Tr):Prop:=∃ (g off:Nat) (o:Option Addr) (cap:Nat),T.length≤cap∧v=.slice o T.length cap∧(T≠[]→o=some ⟨g,off,none⟩)∧Cells w g off T
theorem Cells.drop {w:World} {g off:Nat} {T:List Tr} (h:Cells w g off T) (n:Nat):Cells w g (off+n*3) (T.drop n):=by
 intro j hj
 rw[List.length_drop] at hj
 have:=h (n+j) (by omega)
 rw[List.getElem_drop]
 rw[show off+n*3+j*3=off+(n+j)*3 by omega]
 exact this
theorem Cells.below {w w':World} {g off:Nat} {T:List Tr} (h:Cells w g off T) (hb:Below w.heap.size w w'):Cells w' g off T:=by
 intro j hj
 obtain⟨a,b,c⟩:=h j hj
 have l:=World.block_lt_of_cell? _ _ a
 exact⟨(hb.cell (p:=⟨g,off+j*3,none⟩) l).trans a,(hb.cell (p:=⟨g,off+j*3+1,none⟩) l).trans b,(hb.cell (p:=⟨g,off+j*3+2,none⟩) l).trans c⟩
theorem Row.below {w w':World} {v:Value} {T:List Tr} (h:Row w v T) (hb:Below w.heap.size w w'):Row w' v T:=by
 obtain⟨g,off,o,cap,hc,hv,ho,hcell⟩:=h
 exact⟨g,off,o,cap,hc,hv,ho,hcell.below hb⟩
theorem Row.nil (w:World) (o:Option Addr) (cap:Nat):Row w (.slice o 0 cap) []:=⟨0,0,o,cap,Nat.zero_le _,rfl,fun h=>absurd rfl h,fun j h=>by simp at h⟩
theorem row_of_own {w:World} {B0 e:Nat} {v:Value} {T:List Tr} (h:w.ownsRow B0 e 3 v T.length (cellsT T)):Row w v T:=by
 rcases h.2 with⟨rfl,b⟩|⟨g,cap,cur,rfl,_,_,hcap,_⟩
 ·have:T=[]:=List.eq_nil_of_length_eq_zero b
  subst this
  exact Row.nil w none 0
 ·refine⟨g,0,_,cap,?_,rfl,fun _=>rfl,fun j hj=>?_⟩
  ·exact hcap
  ·have hc:=h.cells (g:=g) rfl
   obtain⟨a,b,c⟩:=cellsT_at T j hj
   have e:∀ k,((⟨g,0,none⟩:Addr).add k)=⟨g,0+k,none⟩:=fun k=>by rw[Addr.add_lit]
   have e1:=hc _ _ a
   have e2:=hc _ _ b
   have e3:=hc _ _ c
   rw[e] at e1 e2 e3
   exact⟨e1,e2,e3⟩
theorem piece_mid (s:ByteArray) (a b:Nat) (z y:Int) (hz:z=(a:Int)) (hy:y=(b:Int)) (h1:a≤b) (h2:b≤s.size) (u:World) :
  (Instr.slice 9 (.string s) (some (.int .i64 z)) (some (.int .i64 y)) none).run Tryz.prog u=.ok (.string (B ((s.data.toList.drop a).take (b - a)))) u:=by
 subst hz hy
 rw[← b_extract]
 exact run_slice_string (P:=Tryz.prog) u 9 s .i64 .i64 a (b:Int) Tryz.underlying9 (by omega) (by omega) (by omega)
theorem run_slice_tok (u:World) (o:Option Addr) (n cap:Nat) (z:Int) (i:Nat) (hz:z=(i:Int)) (h:i≤n) :
  (Instr.slice 22 (.slice o n cap) (some (.int .i64 z)) none none).run Tryz.prog u=.ok (.slice (if cap=i then o else o.map (·.add (i*3))) (n - i) (cap - i)) u:=by
 subst hz
 rw[run_slice_l (P:=Tryz.prog) (w:=u) (t:=22) (a:=o) (len:=n) (cap:=cap) (ht:=by kernel_rfl) .i64 (i:Int) (by omega) (by omega)]
 have hs:(sizeOf (Tryz.prog.elem 22)).run Tryz.prog u=.ok 3 u:=by kernel_rfl
 rw[hs]
 rfl
theorem Row.drop {w:World} {v:Value} {T:List Tr} (h:Row w v T) (i:Nat) (hi:i≤T.length):∃ v',(∀ u,(Instr.slice 22 v (some (.int .i64 (i:Int))) none none).run Tryz.prog u=.ok v' u)∧Row w v' (T.drop i):=by
 obtain⟨g,off,o,cap,hc,rfl,ho,hcell⟩:=h
 refine⟨_,fun u=>run_slice_tok u o T.length cap _ i rfl hi,g,off+i*3,_,cap - i,by rw[List.length_drop];omega,by rw[List.length_drop],fun hne=>?_,hcell.drop i⟩
 have h1:i<T.length:=by
  rcases Nat.lt_or_ge i T.length with h|h
  ·exact h
  ·exact absurd (List.drop_of_length_le h) hne
 rw[if_neg (by omega),ho (fun e=>by rw[e] at h1;simp at h1)]
 simp [Addr.add]
def Within (n:Nat) (T:List Tr):Prop:=∀ t∈T,t.i≤t.j∧t.j≤n
theorem Within.drop {n:Nat} {T:List Tr} (h:Within n T) (i:Nat):Within n (T.drop i):=fun t ht=>h t (List.mem_of_mem_drop ht)
open Go.RowKit Go.Proofs.YtcekbbkidipbnaaGreat.tok
theorem own_mono {w:World} {B0 B1 e size n:Nat} {v:Value} {xs:List Value} (h:w.ownsRow B0 e size v n xs) (hB:B1≤B0):w.ownsRow B1 e size v n xs:=by
 refine⟨h.1,?_⟩
 rcases h.2 with hn|⟨g,cap,cur,rfl,hg,rest⟩
 ·exact .inl hn
 ·exact .inr ⟨g,cap,cur,rfl,by omega,rest⟩
def RowB (B0:Nat) (w:World) (v:Value) (T:List Tr):Prop:=∃ (g off:Nat) (o:Option Addr) (cap:Nat),T.length≤cap∧v=.slice o T.length cap∧(T≠[]→o=some ⟨g,off,none⟩∧g<B0)∧Cells w g off T
theorem Row.rowB {w:World} {v:Value} {T:List Tr} (h:Row w v T):RowB w.heap.size w v T:=by
 obtain⟨g,off,o,cap,hc,hv,ho,hcell⟩:=h
 refine⟨g,off,o,cap,hc,hv,fun e=>⟨ho e,?_⟩,hcell⟩
 have:0<T.length:=by cases T with|nil=>exact absurd rfl e|cons=>simp
 exact World.block_lt_of_cell? _ _ (hcell 0 this).1
theorem RowB.below {B0 B1:Nat} {w w':World} {v:Value} {T:List Tr} (h:RowB B0 w v T) (hb:Below B1 w w') (hB:B0≤B1):RowB B0 w' v T:=by
 obtain⟨g,off,o,cap,hc,hv,ho,hcell⟩:=h
 refine⟨g,off,o,cap,hc,hv,ho,fun j hj=>?_⟩
 have hne:T≠[]:=by rintro rfl;simp at hj
 have hg:=(ho hne).2
 obtain⟨a,b,c⟩:=hcell j hj
 exact⟨(hb.cell (p:=⟨g,off+j*3,none⟩) (by show g<B1;omega)).trans a,(hb.cell (p:=⟨g,off+j*3+1,none⟩) (by show g<B1;omega)).trans b,(hb.cell (p:=⟨g,off+j*3+2,none⟩) (by show g<B1;omega)).trans c⟩
theorem infoT:(Tryz.prog.info? 55).map (fun i=>(i.zero,i.size,i.bytes))=some (some (.agg #[.int .i64 0,.int .i64 0,.int .i64 0]),3,24):=by kernel_rfl
theorem infoG:(Tryz.prog.info? 37).map (fun i=>(i.zero,i.size,i.bytes))=some (some (.agg #[.int .i64 0,.int .i64 0,.int .i64 0]),3,24):=by kernel_rfl
def OwnT (w:World) (B0:Nat) (v:Value) (T:List Tr):Prop:=w.ownsRow B0 55 3 v T.length (cellsT T)
def OwnG (w:World) (B0:Nat) (v:Value) (D:List Tr):Prop:=w.ownsRow B0 37 3 v D.length (cellsT D)
theorem own_more {w wr W w2:World} {B0 e:Nat} {v v':Value} {T:List Tr} {t:Tr} (hb:Below B0 w wr) (hW:Below B0 wr W) (hBW:B0≤W.heap.size) (hlt:∀ k,v.ownBlock=some k→B0≤k)
  (hown2:w2.ownsRow B0 e 3 v' (T.length+1) (cellsT T ++ [.int .i64 t.k,.int .i64 (t.i:Int),.int .i64 (t.j:Int)])) (hg:W.grownBy w2 v.ownBlock) :
  w2.ownsRow B0 e 3 v' (T ++ [t]).length (cellsT (T ++ [t]))∧Below B0 w w2:=by
 refine⟨?_,?_⟩
 ·rw[cellsT_append,List.length_append]
  exact hown2
 ·exact(hb.trans hW).grown hg hBW hlt
theorem step_own1 {w wr w2:World} {B0 e:Nat} {v v':Value} {T:List Tr} {t:Tr} {q:Obj} (hb:Below B0 w wr) (hB:B0≤wr.heap.size) (hm:wr.ownsRow B0 e 3 v T.length (cellsT T))
  (hown2:w2.ownsRow B0 e 3 v' (T.length+1) (cellsT T ++ [.int .i64 t.k,.int .i64 (t.i:Int),.int .i64 (t.j:Int)])) (hg:(wr.alloc q).grownBy w2 v.ownBlock) :
  w2.ownsRow B0 e 3 v' (T ++ [t]).length (cellsT (T ++ [t]))∧Below B0 w w2:=by
 have hlt:=World.ownsRow.lt hm
 exact own_more hb ((Below.refl B0 wr).alloc hB _) (by simp;omega) (fun k hk=>(hlt k hk).1) hown2 hg
theorem three_at (w:World) (x y z:Value) (t:TypeId):∀ j u,[x,y,z][j]? = some u→(w.alloc (.cells #[x,y,z] t)).cell? ((⟨w.heap.size,0,none⟩:Addr).add j)=some u:=dec.three_new w x y z t
open Go.RowKit Go.Proofs.YtcekbbkidipbnaaGreat.tok
theorem own_apart {w:World} {B0 B1 e1 e2 s1 s2 n1 n2:Nat} {v1 v2:Value} {x1 x2:List Value} (h1:w.ownsRow B0 e1 s1 v1 n1 x1) (h2:w.ownsRow B1 e2 s2 v2 n2 x2) (hne:e1≠e2):v1.ownBlock=none∨v1.ownBlock≠v2.ownBlock:=by
 rcases h1.2 with⟨rfl,_⟩|⟨g,cap,cur,rfl,_,hg,_⟩
 ·exact .inl rfl
 ·refine .inr fun e=>?_
  rcases h2.2 with⟨rfl,_⟩|⟨g',cap',cur',rfl,_,hg',_⟩
  ·cases e
  ·have:g=g':=Option.some.inj e
   subst this
   rw[hg] at hg'
   have:=Obj.cells.inj (Option.some.inj hg')
   exact hne this.2.1
theorem three_at2 (w:World) (o p:Obj) (x y z:Value) (t:TypeId):∀ j u,[x,y,z][j]? = some u→(((w.alloc o).alloc p).alloc (.cells #[x,y,z] t)).cell? ((⟨w.heap.size+1+1,0,none⟩:Addr).add j)=some u:=by
 have:=three_at ((w.alloc o).alloc p) x y z t
 rw[World.size_alloc,World.size_alloc] at this
 exact this
theorem step_two {w wr w1 w2:World} {B0 e:Nat} {v v' x0 x1 x2 y0 y1 y2:Value} {T:List Tr} {t:Tr} {t' u':TypeId} {q:Obj} (hb:Below B0 w wr) (hb1:Below wr.heap.size wr w1) (hB:B0≤wr.heap.size) (hm:wr.ownsRow B0 e 3 v T.length (cellsT T))
  (hown2:w2.ownsRow B0 e 3 v' (T.length+1) (cellsT T ++ [.int .i64 t.k,.int .i64 (t.i:Int),.int .i64 (t.j:Int)])) (hg:(((w1.alloc (.cells #[x0,x1,x2] t')).alloc (.cells #[y0,y1,y2] u')).alloc q).grownBy w2 v.ownBlock) :
  (w2.ownsRow B0 e 3 v' (T ++ [t]).length (cellsT (T ++ [t]))∧Below B0 w w2)∧w2.cell? ⟨w1.heap.size,0,none⟩=some x0∧w2.cell? ⟨w1.heap.size,1,none⟩=some x1∧w2.cell? ⟨w1.heap.size,2,none⟩=some x2∧w2.cell? ⟨w1.heap.size+1,0,none⟩=some y0∧w2.cell? ⟨w1.heap.size+1,1,none⟩=some y1∧w2.cell? ⟨w1.heap.size+1,2,none⟩=some y2∧w1.heap.size+2<w2.heap.size:=by
 have hlt:=World.ownsRow.lt hm
 have h1:=hb1.size
 have hne:some w1.heap.size≠v.ownBlock:=fun h=>by have:=(hlt _ h.symm).2;omega
 have hne2:some (w1.heap.size+1)≠v.ownBlock:=fun h=>by have:=(hlt _ h.symm).2;omega
 have hs:=hg.size
 have e:∀ k o,k<((w1.alloc (.cells #[x0,x1,x2] t')).alloc (.cells #[y0,y1,y2] u')).heap.size→(((w1.alloc (.cells #[x0,x1,x2] t')).alloc (.cells #[y0,y1,y2] u')).alloc q).cell? ⟨k,o,none⟩=((w1.alloc (.cells #[x0,x1,x2] t')).alloc (.cells #[y0,y1,y2] u')).cell? ⟨k,o,none⟩:=fun k o hk=>World.cell?_alloc_lt _ _ _ hk
 refine⟨own_more hb ((((hb1.mono hB).alloc (by omega) _).alloc (by simp;omega) _).alloc (by simp;omega) _) (by simp;omega) (fun k hk=>(hlt k hk).1) hown2 hg,hg.cell ((e _ _ (by simp;try omega)).trans (by simp)) hne,hg.cell ((e _ _ (by simp;try omega)).trans (by simp)) hne,hg.cell ((e _ _ (by simp;try omega)).trans (by simp)) hne,hg.cell ((e _ _ (by simp;try omega)).trans (by simp)) hne2,hg.cell ((e _ _ (by simp;try omega)).trans (by simp)) hne2,hg.cell ((e _ _ (by simp;try omega)).trans (by simp)) hne2,by simp at hs;omega⟩
theorem kept3 {w1 w2:World} {B0 B1 e1 e2 s1 s2 n1 n2:Nat} {v1 v2:Value} {x1 x2:List Value} (hG:w1.ownsRow B0 e2 s2 v2 n2 x2) (hT:w1.ownsRow B1 e1 s1 v1 n1 x1) (hne:e2≠e1) {a b c:Obj}
  (hg:(((w1.alloc a).alloc b).alloc c).grownBy w2 v1.ownBlock):w2.ownsRow B0 e2 s2 v2 n2 x2:=World.ownsRow.kept (((World.ownsRow.alloc hG a).alloc b).alloc c) hg (own_apart hG hT hne)
theorem kept1 {w1 w2:World} {B0 B1 e1 e2 s1 s2 n1 n2:Nat} {v1 v2:Value} {x1 x2:List Value} (hG:w1.ownsRow B0 e2 s2 v2 n2 x2) (hT:w1.ownsRow B1 e1 s1 v1 n1 x1) (hne:e2≠e1) {c:Obj}
  (hg:(w1.alloc c).grownBy w2 v1.ownBlock):w2.ownsRow B0 e2 s2 v2 n2 x2:=World.ownsRow.kept (World.ownsRow.alloc hG c) hg (own_apart hG hT hne)
def ScanPost (T D:List Tr) (w:World) (e:Ending) (w':World):Prop:=∃ v1 v2,e=.returned (.tuple #[v1,v2])∧OwnT w' w.heap.size v1 T∧OwnG w' w.heap.size v2 D∧Below w.heap.size w w'
theorem bare_in (l:List UInt8):Within l.length (bare lang l 0):=fun t ht=>bare_within l 0 t ht
open Go.RowKit Go.Proofs.YtcekbbkidipbnaaGreat.tok
theorem refBlank_any (c:UInt8) (w:World):Calls Tryz.prog 146 #[.int .u8 (c.toNat:Int)] w (Says (isBl c) w):=by
 have hz:=isBl_z c
 generalize (c.toNat:Int)=z at *
 obtain⟨h1,h2⟩:=bool_of hz
 have HA:=Lib.hid h1
 have HB:=Lib.hid h2
 clear hz h1 h2
 by_cases c1:z=32
 ·have b1:(z == 32)=true:=beq_iff_eq.2 c1
  have HC:=Lib.hid (HA.out (.inl c1))
  clear c1 HA HB
  go_enter Tryz.func146,Tryz.ntmps146
  go_wp2_with fail
  go_ret
  exact⟨HC.out,rfl⟩
 have b1:(z == 32)=false:=beq_eq_false_iff_ne.2 c1
 by_cases c2:z=9
 ·have b2:(z == 9)=true:=beq_iff_eq.2 c2
  have HC:=Lib.hid (HA.out (.inr (.inl c2)))
  clear c1 c2 HA HB
  go_enter Tryz.func146,Tryz.ntmps146
  go_wp2_with fail
  go_ret
  exact⟨HC.out,rfl⟩
 have b2:(z == 9)=false:=beq_eq_false_iff_ne.2 c2
 by_cases c3:z=13
 ·have b3:(z == 13)=true:=beq_iff_eq.2 c3
  have HC:=Lib.hid (HA.out (.inr (.inr c3)))
  clear c1 c2 c3 HA HB
  go_enter Tryz.func146,Tryz.ntmps146
  go_wp2_with fail
  go_ret
  exact⟨HC.out,rfl⟩
 have b3:(z == 13)=false:=beq_eq_false_iff_ne.2 c3
 have HC:=Lib.hid (HB.out (by omega))
 clear c1 c2 c3 HA HB
 go_enter Tryz.func146,Tryz.ntmps146
 go_wp2_with fail
 go_ret
 exact⟨HC.out,rfl⟩
theorem refLetter_any (c:UInt8) (w:World):Calls Tryz.prog 147 #[.int .u8 (c.toNat:Int)] w (Says (isLt c) w):=by
 have hz:=isLt_z c
 generalize (c.toNat:Int)=z at *
 obtain⟨h1,h2⟩:=bool_of hz
 have HA:=Lib.hid h1
 have HB:=Lib.hid h2
 clear hz h1 h2
 by_cases c1:97≤z∧z≤122
 ·obtain⟨c1,c2⟩:=c1
  have d1:decide (97≤z)=true:=decide_eq_true c1
  have d2:decide (z≤122)=true:=decide_eq_true c2
  have HC:=Lib.hid (HA.out (.inr (.inl ⟨c1,c2⟩)))
  clear HA HB c1 c2
  go_enter Tryz.func147,Tryz.ntmps147
  go_wp2_with fail
  go_ret
  exact⟨HC.out,rfl⟩
 by_cases c2:65≤z∧z≤90
 ·obtain⟨c3,c4⟩:=c2
  have d1:decide (97≤z)=false:=decide_eq_false (by omega)
  have d3:decide (65≤z)=true:=decide_eq_true c3
  have d4:decide (z≤90)=true:=decide_eq_true c4
  have HC:=Lib.hid (HA.out (.inl ⟨c3,c4⟩))
  clear HA HB c1 c3 c4
  go_enter Tryz.func147,Tryz.ntmps147
  go_wp2_with fail
  go_ret
  exact⟨HC.out,rfl⟩
 have both:∀ (b:Bool),(z == 95)=b→Ending.returned (.bool b)=Ending.returned (.bool (isLt c)):=by
  intro b hb
  cases b with
  |true=>exact HA.out (.inr (.inr (beq_iff_eq.1 hb)))
  |false=>exact HB.out (by have:=beq_eq_false_iff_ne.1 hb;omega)
 obtain⟨b,hb⟩:∃ b,(z == 95)=b:=⟨_,rfl⟩
 have HC:=Lib.hid (both b hb)
 clear HA HB both
 by_cases c3:z<65
 ·have d1:decide (97≤z)=false:=decide_eq_false (by omega)
  have d3:decide (65≤z)=false:=decide_eq_false (by omega)
  clear c1 c2 c3
  go_enter Tryz.func147,Tryz.ntmps147
  go_wp2_with fail
  go_ret
  exact⟨HC.out,rfl⟩
 have d3:decide (65≤z)=true:=decide_eq_true (by omega)
 have d4:decide (z≤90)=false:=decide_eq_false (by omega)
 by_cases c4:z<97
 ·have d1:decide (97≤z)=false:=decide_eq_false (by omega)
  clear c1 c2 c3 c4
  go_enter Tryz.func147,Tryz.ntmps147
  go_wp2_with fail
  go_ret
  exact⟨HC.out,rfl⟩
 have d1:decide (97≤z)=true:=decide_eq_true (by omega)
 have d2:decide (z≤122)=false:=decide_eq_false (by omega)
 clear c1 c2 c3 c4
 go_enter Tryz.func147,Tryz.ntmps147
 go_wp2_with fail
 go_ret
 exact⟨HC.out,rfl⟩
theorem refDigit_any (c:UInt8) (w:World):Calls Tryz.prog 148 #[.int .u8 (c.toNat:Int)] w (Says (isDg c) w):=by
 have hz:=isDg_z c
 generalize (c.toNat:Int)=z at *
 obtain⟨h1,h2⟩:=bool_of hz
 have HA:=Lib.hid h1
 have HB:=Lib.hid h2
 clear hz h1 h2
 by_cases c1:48≤z
 ·have d1:decide (48≤z)=true:=decide_eq_true c1
  by_cases c2:z≤57
  ·have d2:decide (z≤57)=true:=decide_eq_true c2
   have HC:=Lib.hid (HA.out ⟨c1,c2⟩)
   clear HA HB c1 c2
   go_enter Tryz.func148,Tryz.ntmps148
   go_wp2_with fail
   go_ret
   exact⟨HC.out,rfl⟩
  ·have d2:decide (z≤57)=false:=decide_eq_false c2
   have HC:=Lib.hid (HB.out (fun h=>c2 h.2))
   clear HA HB c1 c2
   go_enter Tryz.func148,Tryz.ntmps148
   go_wp2_with fail
   go_ret
   exact⟨HC.out,rfl⟩
 ·have d1:decide (48≤z)=false:=decide_eq_false c1
  have HC:=Lib.hid (HB.out (fun h=>c1 h.1))
  clear HA HB c1
  go_enter Tryz.func148,Tryz.ntmps148
  go_wp2_with fail
  go_ret
  exact⟨HC.out,rfl⟩
def findL (l:List UInt8) (i:Nat) (q:List UInt8):Nat:=if Lib.index (l.drop i) q<0 then l.length else i+(Lib.index (l.drop i) q).toNat
theorem occ_drop (l q:List UInt8) (i j:Nat):Lib.occAt (l.drop i) q j=Lib.hasPrefix (l.drop (i+j)) q:=by
 unfold Lib.occAt Lib.hasPrefix
 rw[List.drop_drop]
theorem find_hit {l q:List UInt8} {i n:Nat} (hin:i≤n) (hn:n≤l.length) (h:Lib.hasPrefix (l.drop n) q=true) (hno:∀ j,i≤j→j<n→Lib.hasPrefix (l.drop j) q=false):findL l i q=n:=by
 have:Lib.index (l.drop i) q=((n - i:Nat):Int):=by
  refine Lib.index_first (by rw[List.length_drop];omega) ?_ ?_
  ·rw[occ_drop,show i+(n - i)=n by omega];exact h
  ·intro j hj
   rw[occ_drop]
   exact hno _ (by omega) (by omega)
 unfold findL
 rw[this,if_neg (by omega)]
 omega
theorem find_miss {l q:List UInt8} {i n:Nat} (hil:i≤l.length) (hn:l.length<n+q.length) (hno:∀ j,i≤j→j<n→Lib.hasPrefix (l.drop j) q=false):findL l i q=l.length:=by
 unfold findL
 rcases Lib.index_spec (l.drop i) q with⟨h1,_⟩|⟨j,h1,h2,h3,_⟩
 ·rw[h1,if_pos (by decide)]
 ·exfalso
  rw[occ_drop] at h3
  have hp:=(List.isPrefixOf_iff_prefix.1 h3).length_le
  rw[List.length_drop] at hp
  rw[List.length_drop] at h2
  by_cases hj:i+j<n
  ·rw[hno _ (by omega) hj] at h3;cases h3
  ·omega
theorem find_le (l q:List UInt8) (i:Nat) (h:i≤l.length):i≤findL l i q∧findL l i q≤l.length:=by
 unfold findL
 rcases Lib.index_spec (l.drop i) q with⟨h1,_⟩|⟨j,h1,h2,_⟩
 ·rw[h1,if_pos (by decide)];omega
 ·rw[h1,if_neg (by omega)];rw[List.length_drop] at h2;omega
theorem piece_is (l q:List UInt8) (n:Nat):((l.drop n).take q.length == q)=Lib.hasPrefix (l.drop n) q:=by
 rw[Bool.eq_iff_iff,beq_iff_eq]
 show _↔q.isPrefixOf (l.drop n)=true
 rw[List.isPrefixOf_iff_prefix,List.prefix_iff_eq_take]
 exact⟨fun e=>e.symm,fun e=>e.symm⟩
theorem refFind_any (s q:ByteArray) (i:Nat) (w:World) (hs:s.size≤4194304) (hq:q.size≤4) (hi:i≤s.size) :
  Calls Tryz.prog 135 #[.string s,.int .i64 (i:Int),.string q] w fun e w'=>e=.returned (.int .i64 (findL s.data.toList i q.data.toList:Int))∧w=w':=by
 have hsd:=sdata s
 have hqd:=sdata q
 have HD:=Lib.hid hsd
 have HQ:=Lib.hid hqd
 clear hsd hqd
 go_enter Tryz.func135,Tryz.ntmps135
 go_wp2
 go_loop [7] (fun p=>∃ n:Nat,i≤n∧n≤s.size+1∧p=.int .i64 n∧∀ j,i≤j→j<n→Lib.hasPrefix (s.data.toList.drop j) q.data.toList=false) (fun p=>s.size+1 - (intOf p).toNat)
 case atStart=>exact⟨i,Nat.le_refl _,by omega,rfl,fun j h1 h2=>by omega⟩
 case round=>
  obtain⟨n,h1,h2,rfl,hb⟩:=hrel
  have HB:=Lib.hid hb
  clear hb
  by_cases hlt:n+q.size≤s.size
  ·have hd:decide ((n:Int)+(q.size:Int)≤(s.size:Int))=true:=decide_eq_true (by omega)
   have hsl:=piece_mid s n (n+q.size) (n:Int) ((n:Int)+(q.size:Int)) rfl (by omega) (by omega) hlt
   have hP:Hid (((s.data.toList.drop n).take q.size == q.data.toList)=Lib.hasPrefix (s.data.toList.drop n) q.data.toList):=Lib.hid (by
    have:=piece_is s.data.toList q.data.toList n
    rw[HQ.out] at this
    exact this)
   rw[show n+q.size - n=q.size by omega] at hsl
   cases hh:Lib.hasPrefix (s.data.toList.drop n) q.data.toList with
   |true=>
    have HH:=Lib.hid hh
    have HF:=Lib.hid (find_hit h1 (by rw[HD.out];omega) hh HB.out)
    rw[hh] at hP
    have he:((B ((s.data.toList.drop n).take q.size)).toList == q.toList)=true:=by rw[blist,Lib.toList_data];exact hP.out
    clear hh
    go_wp2_with fail
    go_ret
    exact⟨by rw[HF.out];rfl,rfl⟩
   |false=>
    have HH:=Lib.hid hh
    rw[hh] at hP
    have he:((B ((s.data.toList.drop n).take q.size)).toList == q.toList)=false:=by rw[blist,Lib.toList_data];exact hP.out
    clear hh
    go_wp2_with fail
    go_round
    case rel=>exact⟨n+1,by omega,by omega,by go_num,fun j g1 g2=>by
           by_cases e:j=n
           ·subst e;exact HH.out
           ·exact HB.out j g1 (by omega)⟩
    case measure=>simp [intOf];omega
  ·have hd:decide ((n:Int)+(q.size:Int)≤(s.size:Int))=false:=decide_eq_false (by omega)
   have HF:=Lib.hid (find_miss (q:=q.data.toList) (by rw[HD.out];exact hi) (by rw[HD.out,HQ.out];omega) HB.out)
   go_wp2_with fail
   go_ret
   exact⟨by rw[HF.out,HD.out];rfl,rfl⟩
open Go.RowKit Go.Proofs.YtcekbbkidipbnaaGreat.tok
theorem refQuoted_any (s:ByteArray) (i:Nat) (q:UInt8) (w:World) (hs:s.size≤4194304) (h1:i<s.size) (hq:s[i]=q) (hq10:q≠10) :
  Calls Tryz.prog 168 #[.string s,.int .i64 (i:Int)] w (LitPost (i+1+(lit q (s.data.toList.drop (i+1))).1) (lit q (s.data.toList.drop (i+1))).2 w):=by
 have hix0:∀ u:World,(Instr.index 9 (.string s) (.int .i64 (i:Int))).run Tryz.prog u=.ok (.int .u8 (q.toNat:Int)) u:=fun u=>by rw[← hq];exact index_at s _ i rfl h1 u
 obtain⟨N,b,hN⟩:∃ N b,i+1+(lit q (s.data.toList.drop (i+1))).1=N∧(lit q (s.data.toList.drop (i+1))).2=b:=⟨_,_,rfl,rfl⟩
 rw[hN.1,hN.2]
 have HN:=Lib.hid hN
 clear hN hq
 go_enter Tryz.func168,Tryz.ntmps168
 go_wp2
 go_loop [1] (fun p=>∃ k:Nat,i+1≤k∧k≤s.size∧p=.int .i64 k∧N=k+(lit q (s.data.toList.drop k)).1∧b=(lit q (s.data.toList.drop k)).2) (fun p=>s.size - (intOf p).toNat)
 case atStart=>exact⟨i+1,Nat.le_refl _,h1,by go_num,HN.out.1.symm,HN.out.2.symm⟩
 case round=>
  obtain⟨k,hk1,hk2,rfl,hN1,hN2⟩:=hrel
  have HP:=Lib.hid (And.intro hN1 hN2)
  clear hN1 hN2 HN hix0
  by_cases hlt:k<s.size
  ·obtain⟨c,hc⟩:∃ c,s[k]'hlt=c:=⟨_,rfl⟩
   have hix:∀ u:World,(Instr.index 9 (.string s) (.int .i64 (k:Int))).run Tryz.prog u=.ok (.int .u8 (c.toNat:Int)) u:=fun u=>by rw[← hc];exact index_at s _ k rfl hlt u
   have hd:decide ((k:Int)<(s.size:Int))=true:=decide_eq_true (by omega)
   have HD:Hid (s.data.toList.drop k=c::s.data.toList.drop (k+1)):=Lib.hid (by rw[← hc];exact List.drop_eq_getElem_cons (by rw[sdata];exact hlt))
   rw[HD.out] at HP
   clear hc
   by_cases c10:c=10
   ·have b10:((c.toNat:Int) != 10)=false:=byte_eq' (d:=10) c10
    rw[lit_feed1 (by rw[c10];exact fun e=>hq10 e.symm) c10] at HP
    clear c10
    go_wp2_with fail
    try rw[Exit.noGoto_ret]
    go_ret2
    exact⟨by rw[HP.out.1,HP.out.2];simp,rfl⟩
   have b10:((c.toNat:Int) != 10)=true:=byte_ne' (d:=10) c10
   by_cases cq:c=q
   ·have bq:((c.toNat:Int) == (q.toNat:Int))=true:=byte_eq cq
    have HF:=Lib.hid (And.intro HP.out.1 HP.out.2)
    rw[lit_quote cq] at HF
    clear cq HP c10
    go_wp2_with fail
    try rw[Exit.noGoto_ret]
    go_ret2
    exact⟨by rw[HF.out.1,HF.out.2];simp,rfl⟩
   have bq:((c.toNat:Int) == (q.toNat:Int))=false:=byte_ne cq
   by_cases c92:c=92
   ·have b92:((c.toNat:Int) == 92)=true:=byte_eq (d:=92) c92
    by_cases hl2:k+1<s.size
    ·obtain⟨d,hd2⟩:∃ d,s[k+1]'hl2=d:=⟨_,rfl⟩
     have hix2:∀ u:World,(Instr.index 9 (.string s) (.int .i64 ((k:Int)+1))).run Tryz.prog u=.ok (.int .u8 (d.toNat:Int)) u:=fun u=>by rw[← hd2];exact index_at s _ (k+1) (by omega) hl2 u
     have he:decide ((k:Int)+1<(s.size:Int))=true:=decide_eq_true (by omega)
     have HD2:Hid (s.data.toList.drop (k+1)=d::s.data.toList.drop (k+2)):=Lib.hid (by rw[← hd2];exact List.drop_eq_getElem_cons (by rw[sdata];exact hl2))
     rw[HD2.out] at HP
     clear hd2
     by_cases d10:d=10
     ·have bd:((d.toNat:Int) != 10)=false:=byte_eq' (d:=10) d10
      rw[lit_esc_feed cq c10 c92 d10] at HP
      have HZ:Hid (lit q (s.data.toList.drop (k+1))=(0,false)):=Lib.hid (by rw[HD2.out];exact lit_feed1 (by rw[d10];exact fun e=>hq10 e.symm) d10)
      clear cq c10 c92 d10
      go_wp2_with fail
      go_round
      case rel=>exact⟨k+1,by omega,by omega,by go_num,by rw[HZ.out,HP.out.1];rfl,by rw[HZ.out,HP.out.2]⟩
      case measure=>simp [intOf];omega
     ·have bd:((d.toNat:Int) != 10)=true:=byte_ne' (d:=10) d10
      rw[lit_esc cq c10 c92 d10] at HP
      clear cq c10 c92 d10
      go_wp2_with fail
      go_round
      case rel=>exact⟨k+2,by omega,by omega,by go_num,by rw[HP.out.1];simp only;omega,HP.out.2⟩
      case measure=>simp [intOf];omega
    ·have he:decide ((k:Int)+1<(s.size:Int))=false:=decide_eq_false (by omega)
     have HD2:Hid (s.data.toList.drop (k+1)=[]):=Lib.hid (List.drop_of_length_le (by rw[sdata];omega))
     rw[HD2.out,lit_esc_end cq c10] at HP
     clear cq c10 c92
     go_wp2_with fail
     go_round
     case rel=>exact⟨k+1,by omega,by omega,by go_num,by rw[HD2.out,lit_end,HP.out.1];rfl,by rw[HD2.out,lit_end,HP.out.2]⟩
     case measure=>simp [intOf];omega
   ·have b92:((c.toNat:Int) == 92)=false:=byte_ne (d:=92) c92
    rw[lit_other cq c10 c92] at HP
    clear cq c10 c92
    go_wp2_with fail
    go_round
    case rel=>exact⟨k+1,by omega,by omega,by go_num,by rw[HP.out.1];simp only;omega,HP.out.2⟩
    case measure=>simp [intOf];omega
  ·have hd:decide ((k:Int)<(s.size:Int))=false:=decide_eq_false (by omega)
   have HD2:Hid (s.data.toList.drop k=[]):=Lib.hid (List.drop_of_length_le (by rw[sdata];omega))
   rw[HD2.out,lit_end] at HP
   go_wp2_with fail
   try rw[Exit.noGoto_ret]
   go_ret2
   exact⟨by rw[HP.out.1,HP.out.2];simp;try omega,rfl⟩
end Go.Proofs.YtcekbbkidipbnaaGreat.lx
