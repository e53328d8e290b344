/-
  Texts put together: Lb, Le.
-/
import Derived.Test.YtcekbbkidipbnaaGreatL22
import Derived.Test.YtcekbbkidipbnaaGreatL23
import Derived.RegionTactic
import Derived.ChangeAlike
import Derived.Deep.RegionHeld3
set_option maxRecDepth 100000
set_option maxHeartbeats 8000000
namespace Go.Proofs.YtcekbbkidipbnaaGreat.lx
open Go.RowKit Go.Proofs.YtcekbbkidipbnaaGreat.tok
def Told (n:Nx) (at_:Nat) (w:World) (e:Ending) (w':World):Prop:=
 ∃ x y:Int,e=.returned (.tuple #[.agg #[.int .i64 n.kind,.int .i64 (at_:Int),.int .i64 ((at_:Int)+(n.width:Int))],.agg #[.int .i64 n.code,.int .i64 x,.int .i64 y]]) ∧
  (n.code≠0→x=(at_:Int)+(n.off:Int)∧y=(at_:Int)+(n.off:Int)+(n.dw:Int))∧Below w.heap.size w w'
theorem bcell {W w1:World} (hb:Below W.heap.size W w1):(∀ b o,b<W.heap.size→w1.cell? ⟨b,o,none⟩=W.cell? ⟨b,o,none⟩)∧(∀ b o,b<W.heap.size→w1.frozen? ⟨b,o,none⟩=W.frozen? ⟨b,o,none⟩):=
 ⟨fun b o h=>hb.cell (p:=⟨b,o,none⟩) h,fun b o h=>hb.frozen (p:=⟨b,o,none⟩) h⟩
open Go.RowKit Go.Proofs.YtcekbbkidipbnaaGreat.tok
theorem below2 (w:World) (o p:Obj):Below w.heap.size w ((w.alloc o).alloc p):=((Below.refl w.heap.size w).alloc (Nat.le_refl _) o).alloc (by simp) p
theorem below2_then {w w':World} {o p:Obj} (hb:Below ((w.alloc o).alloc p).heap.size ((w.alloc o).alloc p) w'):Below w.heap.size w w':=(below2 w o p).trans (hb.mono (below2 w o p).size)
def Six (w:World) (b:Nat):Prop:=(∃ u0 u1 u2 u3 u4 u5:Value,w.cell? ⟨b,0,none⟩=some u0∧w.cell? ⟨b,1,none⟩=some u1∧w.cell? ⟨b,2,none⟩=some u2∧w.cell? ⟨b+1,0,none⟩=some u3∧w.cell? ⟨b+1,1,none⟩=some u4∧w.cell? ⟨b+1,2,none⟩=some u5)∧w.frozen? ⟨b,0,none⟩=false∧w.frozen? ⟨b,1,none⟩=false∧w.frozen? ⟨b,2,none⟩=false∧w.frozen? ⟨b+1,0,none⟩=false∧w.frozen? ⟨b+1,1,none⟩=false∧w.frozen? ⟨b+1,2,none⟩=false
theorem six_new (w:World) (x0 x1 x2 y0 y1 y2:Value) (t u:TypeId):Six ((w.alloc (.cells #[x0,x1,x2] t)).alloc (.cells #[y0,y1,y2] u)) w.heap.size:=by
 refine⟨⟨x0,x1,x2,y0,y1,y2,?_,?_,?_,?_,?_,?_⟩,?_,?_,?_,?_,?_,?_⟩ <;> simp
theorem Six.below {w w':World} {b:Nat} (h:Six w b) (hb:Below w.heap.size w w'):Six w' b:=by
 obtain⟨⟨u0,u1,u2,u3,u4,u5,k0,k1,k2,k3,k4,k5⟩,f0,f1,f2,f3,f4,f5⟩:=h
 have l0:=World.block_lt_of_cell? _ _ k0
 have l1:=World.block_lt_of_cell? _ _ k3
 have c:∀ (q o:Nat) (v:Value),q<w.heap.size→w.cell? ⟨q,o,none⟩=some v→w'.cell? ⟨q,o,none⟩=some v:=fun q o v hq hv=>(hb.cell (p:=⟨q,o,none⟩) hq).trans hv
 have f:∀ (q o:Nat),q<w.heap.size→w.frozen? ⟨q,o,none⟩=false→w'.frozen? ⟨q,o,none⟩=false:=fun q o hq hv=>(hb.frozen (p:=⟨q,o,none⟩) hq).trans hv
 exact⟨⟨u0,u1,u2,u3,u4,u5,c _ _ _ l0 k0,c _ _ _ l0 k1,c _ _ _ l0 k2,c _ _ _ l1 k3,c _ _ _ l1 k4,c _ _ _ l1 k5⟩,f _ _ l0 f0,f _ _ l0 f1,f _ _ l0 f2,f _ _ l1 f3,f _ _ l1 f4,f _ _ l1 f5⟩
def put6 (w:World) (b:Nat) (a0 a1 a2 a3 a4 a5:Value):World:=((((((w.setCell ⟨b,0,none⟩ a0).setCell ⟨b,1,none⟩ a1).setCell ⟨b,2,none⟩ a2).setCell ⟨b+1,0,none⟩ a3).setCell ⟨b+1,1,none⟩ a4).setCell ⟨b+1,2,none⟩ a5)
theorem put6_reads {w:World} {b:Nat} (h:Six w b) (a0 a1 a2 a3 a4 a5:Value):(put6 w b a0 a1 a2 a3 a4 a5).cell? ⟨b,0,none⟩=some a0∧(put6 w b a0 a1 a2 a3 a4 a5).cell? ⟨b,1,none⟩=some a1∧(put6 w b a0 a1 a2 a3 a4 a5).cell? ⟨b,2,none⟩=some a2∧(put6 w b a0 a1 a2 a3 a4 a5).cell? ⟨b+1,0,none⟩=some a3∧(put6 w b a0 a1 a2 a3 a4 a5).cell? ⟨b+1,1,none⟩=some a4∧(put6 w b a0 a1 a2 a3 a4 a5).cell? ⟨b+1,2,none⟩=some a5:=by
 obtain⟨⟨u0,u1,u2,u3,u4,u5,k0,k1,k2,k3,k4,k5⟩,_⟩:=h
 unfold put6
 simp [World.cell?_setCell_other,World.cell?_setCell_same',k0,k1,k2,k3,k4,k5]
theorem below_put6 {B0:Nat} {a w:World} {b:Nat} (h:Below B0 a w) (hB:B0≤b) (a0 a1 a2 a3 a4 a5:Value):Below B0 a (put6 w b a0 a1 a2 a3 a4 a5):=by
 unfold put6
 exact(((((h.setCell (p:=⟨b,0,none⟩) hB _).setCell (p:=⟨b,1,none⟩) hB _).setCell (p:=⟨b,2,none⟩) hB _).setCell (p:=⟨b+1,0,none⟩) (Nat.le_succ_of_le hB) _).setCell (p:=⟨b+1,1,none⟩) (Nat.le_succ_of_le hB) _).setCell (p:=⟨b+1,2,none⟩) (Nat.le_succ_of_le hB) _
theorem results_two {fn:Func} {i j:Tmp} (h:fn.results=#[.cell i 55,.cell j 37]) (tmps:Array Value) {w:World} {b:Nat} (hs:Six w b) (a0 a1 a2 a3 a4 a5:Value)
  (hi:tmps.getD i undef=.pointer (some ⟨b,0,none⟩)) (hj:tmps.getD j undef=.pointer (some ⟨b+1,0,none⟩)) :
  (results fn tmps).run Tryz.prog (put6 w b a0 a1 a2 a3 a4 a5)=.ok (.tuple #[.agg #[a0,a1,a2],.agg #[a3,a4,a5]]) (put6 w b a0 a1 a2 a3 a4 a5):=by
 obtain⟨r0,r1,r2,r3,r4,r5⟩:=put6_reads hs a0 a1 a2 a3 a4 a5
 generalize put6 w b a0 a1 a2 a3 a4 a5=W at *
 have hi':tmps[i]?.getD undef=.pointer (some ⟨b,0,none⟩):=by simpa using hi
 have hj':tmps[j]?.getD undef=.pointer (some ⟨b+1,0,none⟩):=by simpa using hj
 simp [results,h,hi',hj',r0,r1,r2,r3,r4,r5,go_sem]
theorem Told.same {n m:Nx} {at_:Nat} {w w':World} {x y:Int} (hn:m=n) (hxy:n.code≠0→x=(at_:Int)+(n.off:Int)∧y=(at_:Int)+(n.off:Int)+(n.dw:Int)) (hb:Below w.heap.size w w') :
  Told m at_ w (.returned (.tuple #[.agg #[.int .i64 n.kind,.int .i64 (at_:Int),.int .i64 ((at_:Int)+(n.width:Int))],.agg #[.int .i64 n.code,.int .i64 x,.int .i64 y]])) w':=by
 subst hn
 exact⟨x,y,rfl,hxy,hb⟩
end Go.Proofs.YtcekbbkidipbnaaGreat.lx
