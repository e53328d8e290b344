/-
  Texts put together: Ia, Jc.
-/
import Derived.Test.YtcekbbkidipbnaaGreatP39
import Derived.Test.YtcekbbkidipbnaaGreatP29
set_option maxRecDepth 100000
set_option maxHeartbeats 8000000
namespace Go.Proofs.YtcekbbkidipbnaaGreat.rd
open Go.RowKit
theorem zfN {w:World} {g:Nat} {j:Nat} {v:Value} (h:w.cell? ⟨g,j,none⟩=some v) {u:World} (hu:Below w.heap.size w u):u.cell? ⟨g,j,none⟩=some v:=(hu.cell (p:=⟨g,j,none⟩) (World.block_lt_of_cell? _ _ h)).trans h
theorem zsi {W:World} {b gR q len cap:Nat} {i j:Int} {o:Option Addr} {n c:Nat}  (hl:len≤1099511627776) (hql:q+1=len) (hd:Bool)  (hcells:W.cell? ⟨b,4,none⟩=some (.slice (some ⟨gR,0,none⟩) len cap)∧W.cell? ⟨gR,q*5,none⟩=some (.int .i64 220)∧W.cell? ⟨gR,q*5+1,none⟩=some (.int .i64 i)∧W.cell? ⟨gR,q*5+2,none⟩=some (.int .i64 j)∧W.cell? ⟨gR,q*5+3,none⟩=some (.slice o n c)) :
  Calls Tryz.prog 157 #[.pointer (some ⟨b,0,none⟩),.bool hd] W fun e w'=>e=.returned (.bool (true))∧Below W.heap.size W w':=by
 have hq0:(0:Int)≤(q:Int):=by omega
 have hq1:(q:Int)<(len:Int):=by omega
 have hqn:q<len:=by omega
 have hw:IntKind.i64.wrap ((len:Int) - 1)=(q:Int):=by rw[IntWalk.i64_in _ zdC];omega
 clear hql
 have HS:Hid (∀ u,Below W.heap.size W u→u.cell? ⟨b,4,none⟩=some (.slice (some ⟨gR,0,none⟩) len cap)∧u.cell? ⟨gR,q*5,none⟩=some (.int .i64 220)∧u.cell? ⟨gR,q*5+1,none⟩=some (.int .i64 i)∧u.cell? ⟨gR,q*5+2,none⟩=some (.int .i64 j)∧u.cell? ⟨gR,q*5+3,none⟩=some (.slice o n c)):=Lib.hid (fun u hu=>by
  exact zbg)
 obtain⟨e0,e1,e2,e3,e4⟩:=hcells
 go_enter Tryz.func157,Tryz.ntmps157
 go_wp2_with fail
 go_region_held3 (fun W'=>W'.cell? ⟨b,4,none⟩=some (.slice (some ⟨gR,0,none⟩) len cap)∧W'.cell? ⟨gR,q*5,none⟩=some (.int .i64 220)∧W'.cell? ⟨gR,q*5+1,none⟩=some (.int .i64 i)∧W'.cell? ⟨gR,q*5+2,none⟩=some (.int .i64 j)∧W'.cell? ⟨gR,q*5+3,none⟩=some (.slice o n c))
  (first|exact HS.out _ (Below.refl _ _).drew|exact HS.out _ ((Below.refl _ _).drew.alloc (Nat.le_refl _) _)|exact HS.out _ ((Below.refl _ _).alloc (Nat.le_refl _) _).drew)
  (fail)
 all_goals exact zbi
theorem zrB {W:World} {b gR q len cap:Nat} {i j:Int} {o:Option Addr} {n c:Nat}  (hl:len≤1099511627776) (hql:q+1=len) (hd:Bool)  (hcells:W.cell? ⟨b,4,none⟩=some (.slice (some ⟨gR,0,none⟩) len cap)∧W.cell? ⟨gR,q*5,none⟩=some (.int .i64 221)∧W.cell? ⟨gR,q*5+1,none⟩=some (.int .i64 i)∧W.cell? ⟨gR,q*5+2,none⟩=some (.int .i64 j)∧W.cell? ⟨gR,q*5+3,none⟩=some (.slice o n c)) :
  Calls Tryz.prog 157 #[.pointer (some ⟨b,0,none⟩),.bool hd] W fun e w'=>e=.returned (.bool (true))∧Below W.heap.size W w':=by
 have hq0:(0:Int)≤(q:Int):=by omega
 have hq1:(q:Int)<(len:Int):=by omega
 have hqn:q<len:=by omega
 have hw:IntKind.i64.wrap ((len:Int) - 1)=(q:Int):=by rw[IntWalk.i64_in _ zdC];omega
 clear hql
 have HS:Hid (∀ u,Below W.heap.size W u→u.cell? ⟨b,4,none⟩=some (.slice (some ⟨gR,0,none⟩) len cap)∧u.cell? ⟨gR,q*5,none⟩=some (.int .i64 221)∧u.cell? ⟨gR,q*5+1,none⟩=some (.int .i64 i)∧u.cell? ⟨gR,q*5+2,none⟩=some (.int .i64 j)∧u.cell? ⟨gR,q*5+3,none⟩=some (.slice o n c)):=Lib.hid (fun u hu=>by
  exact zbg)
 obtain⟨e0,e1,e2,e3,e4⟩:=hcells
 go_enter Tryz.func157,Tryz.ntmps157
 go_wp2_with fail
 go_region_held3 (fun W'=>W'.cell? ⟨b,4,none⟩=some (.slice (some ⟨gR,0,none⟩) len cap)∧W'.cell? ⟨gR,q*5,none⟩=some (.int .i64 221)∧W'.cell? ⟨gR,q*5+1,none⟩=some (.int .i64 i)∧W'.cell? ⟨gR,q*5+2,none⟩=some (.int .i64 j)∧W'.cell? ⟨gR,q*5+3,none⟩=some (.slice o n c))
  (first|exact HS.out _ (Below.refl _ _).drew|exact HS.out _ ((Below.refl _ _).drew.alloc (Nat.le_refl _) _)|exact HS.out _ ((Below.refl _ _).alloc (Nat.le_refl _) _).drew)
  (fail)
 all_goals exact zbi
theorem zrk {W:World} {b gR q len cap:Nat} {i j:Int} {o:Option Addr} {n c:Nat}  (hl:len≤1099511627776) (hql:q+1=len) (hd:Bool)  (hcells:W.cell? ⟨b,4,none⟩=some (.slice (some ⟨gR,0,none⟩) len cap)∧W.cell? ⟨gR,q*5,none⟩=some (.int .i64 222)∧W.cell? ⟨gR,q*5+1,none⟩=some (.int .i64 i)∧W.cell? ⟨gR,q*5+2,none⟩=some (.int .i64 j)∧W.cell? ⟨gR,q*5+3,none⟩=some (.slice o n c)) :
  Calls Tryz.prog 157 #[.pointer (some ⟨b,0,none⟩),.bool hd] W fun e w'=>e=.returned (.bool (true))∧Below W.heap.size W w':=by
 have hq0:(0:Int)≤(q:Int):=by omega
 have hq1:(q:Int)<(len:Int):=by omega
 have hqn:q<len:=by omega
 have hw:IntKind.i64.wrap ((len:Int) - 1)=(q:Int):=by rw[IntWalk.i64_in _ zdC];omega
 clear hql
 have HS:Hid (∀ u,Below W.heap.size W u→u.cell? ⟨b,4,none⟩=some (.slice (some ⟨gR,0,none⟩) len cap)∧u.cell? ⟨gR,q*5,none⟩=some (.int .i64 222)∧u.cell? ⟨gR,q*5+1,none⟩=some (.int .i64 i)∧u.cell? ⟨gR,q*5+2,none⟩=some (.int .i64 j)∧u.cell? ⟨gR,q*5+3,none⟩=some (.slice o n c)):=Lib.hid (fun u hu=>by
  exact zbg)
 obtain⟨e0,e1,e2,e3,e4⟩:=hcells
 go_enter Tryz.func157,Tryz.ntmps157
 go_wp2_with fail
 go_region_held3 (fun W'=>W'.cell? ⟨b,4,none⟩=some (.slice (some ⟨gR,0,none⟩) len cap)∧W'.cell? ⟨gR,q*5,none⟩=some (.int .i64 222)∧W'.cell? ⟨gR,q*5+1,none⟩=some (.int .i64 i)∧W'.cell? ⟨gR,q*5+2,none⟩=some (.int .i64 j)∧W'.cell? ⟨gR,q*5+3,none⟩=some (.slice o n c))
  (first|exact HS.out _ (Below.refl _ _).drew|exact HS.out _ ((Below.refl _ _).drew.alloc (Nat.le_refl _) _)|exact HS.out _ ((Below.refl _ _).alloc (Nat.le_refl _) _).drew)
  (fail)
 all_goals exact zbi
theorem zse {W:World} {b gR q len cap:Nat} {i j:Int} {o:Option Addr} {n c:Nat}  (hl:len≤1099511627776) (hql:q+1=len) (hd:Bool)  (hcells:W.cell? ⟨b,4,none⟩=some (.slice (some ⟨gR,0,none⟩) len cap)∧W.cell? ⟨gR,q*5,none⟩=some (.int .i64 224)∧W.cell? ⟨gR,q*5+1,none⟩=some (.int .i64 i)∧W.cell? ⟨gR,q*5+2,none⟩=some (.int .i64 j)∧W.cell? ⟨gR,q*5+3,none⟩=some (.slice o n c)) :
  Calls Tryz.prog 157 #[.pointer (some ⟨b,0,none⟩),.bool hd] W fun e w'=>e=.returned (.bool (true))∧Below W.heap.size W w':=by
 have hq0:(0:Int)≤(q:Int):=by omega
 have hq1:(q:Int)<(len:Int):=by omega
 have hqn:q<len:=by omega
 have hw:IntKind.i64.wrap ((len:Int) - 1)=(q:Int):=by rw[IntWalk.i64_in _ zdC];omega
 clear hql
 have HS:Hid (∀ u,Below W.heap.size W u→u.cell? ⟨b,4,none⟩=some (.slice (some ⟨gR,0,none⟩) len cap)∧u.cell? ⟨gR,q*5,none⟩=some (.int .i64 224)∧u.cell? ⟨gR,q*5+1,none⟩=some (.int .i64 i)∧u.cell? ⟨gR,q*5+2,none⟩=some (.int .i64 j)∧u.cell? ⟨gR,q*5+3,none⟩=some (.slice o n c)):=Lib.hid (fun u hu=>by
  exact zbg)
 obtain⟨e0,e1,e2,e3,e4⟩:=hcells
 go_enter Tryz.func157,Tryz.ntmps157
 go_wp2_with fail
 go_region_held3 (fun W'=>W'.cell? ⟨b,4,none⟩=some (.slice (some ⟨gR,0,none⟩) len cap)∧W'.cell? ⟨gR,q*5,none⟩=some (.int .i64 224)∧W'.cell? ⟨gR,q*5+1,none⟩=some (.int .i64 i)∧W'.cell? ⟨gR,q*5+2,none⟩=some (.int .i64 j)∧W'.cell? ⟨gR,q*5+3,none⟩=some (.slice o n c))
  (first|exact HS.out _ (Below.refl _ _).drew|exact HS.out _ ((Below.refl _ _).drew.alloc (Nat.le_refl _) _)|exact HS.out _ ((Below.refl _ _).alloc (Nat.le_refl _) _).drew)
  (fail)
 all_goals exact zbi
theorem zrN {W:World} {b gR q len cap:Nat} {i j:Int} {o:Option Addr} {n c:Nat}  (hl:len≤1099511627776) (hql:q+1=len) (hd:Bool)  (hcells:W.cell? ⟨b,4,none⟩=some (.slice (some ⟨gR,0,none⟩) len cap)∧W.cell? ⟨gR,q*5,none⟩=some (.int .i64 201)∧W.cell? ⟨gR,q*5+1,none⟩=some (.int .i64 i)∧W.cell? ⟨gR,q*5+2,none⟩=some (.int .i64 j)∧W.cell? ⟨gR,q*5+3,none⟩=some (.slice o n c)) :
  Calls Tryz.prog 157 #[.pointer (some ⟨b,0,none⟩),.bool hd] W fun e w'=>e=.returned (.bool (!hd))∧Below W.heap.size W w':=by
 have hq0:(0:Int)≤(q:Int):=by omega
 have hq1:(q:Int)<(len:Int):=by omega
 have hqn:q<len:=by omega
 have hw:IntKind.i64.wrap ((len:Int) - 1)=(q:Int):=by rw[IntWalk.i64_in _ zdC];omega
 clear hql
 have HS:Hid (∀ u,Below W.heap.size W u→u.cell? ⟨b,4,none⟩=some (.slice (some ⟨gR,0,none⟩) len cap)∧u.cell? ⟨gR,q*5,none⟩=some (.int .i64 201)∧u.cell? ⟨gR,q*5+1,none⟩=some (.int .i64 i)∧u.cell? ⟨gR,q*5+2,none⟩=some (.int .i64 j)∧u.cell? ⟨gR,q*5+3,none⟩=some (.slice o n c)):=Lib.hid (fun u hu=>by
  exact zbg)
 obtain⟨e0,e1,e2,e3,e4⟩:=hcells
 go_enter Tryz.func157,Tryz.ntmps157
 go_wp2_with fail
 go_region_held3 (fun W'=>W'.cell? ⟨b,4,none⟩=some (.slice (some ⟨gR,0,none⟩) len cap)∧W'.cell? ⟨gR,q*5,none⟩=some (.int .i64 201)∧W'.cell? ⟨gR,q*5+1,none⟩=some (.int .i64 i)∧W'.cell? ⟨gR,q*5+2,none⟩=some (.int .i64 j)∧W'.cell? ⟨gR,q*5+3,none⟩=some (.slice o n c))
  (first|exact HS.out _ (Below.refl _ _).drew|exact HS.out _ ((Below.refl _ _).drew.alloc (Nat.le_refl _) _)|exact HS.out _ ((Below.refl _ _).alloc (Nat.le_refl _) _).drew)
  (fail)
 all_goals exact zbi
theorem ztV {W:World} {b gR q len cap:Nat} {k i j:Int} {o:Option Addr} {n c:Nat}  (hl:len≤1099511627776) (hql:q+1=len) (hd:Bool) (nk220:(k == 220)=false) (nk221:(k == 221)=false) (nk222:(k == 222)=false) (nk224:(k == 224)=false) (nk208:(k == 208)=false) (nk207:(k == 207)=false) (nk201:(k == 201)=false) (hcells:W.cell? ⟨b,4,none⟩=some (.slice (some ⟨gR,0,none⟩) len cap)∧W.cell? ⟨gR,q*5,none⟩=some (.int .i64 k)∧W.cell? ⟨gR,q*5+1,none⟩=some (.int .i64 i)∧W.cell? ⟨gR,q*5+2,none⟩=some (.int .i64 j)∧W.cell? ⟨gR,q*5+3,none⟩=some (.slice o n c)) :
  Calls Tryz.prog 157 #[.pointer (some ⟨b,0,none⟩),.bool hd] W fun e w'=>e=.returned (.bool (false))∧Below W.heap.size W w':=by
 have hq0:(0:Int)≤(q:Int):=by omega
 have hq1:(q:Int)<(len:Int):=by omega
 have hqn:q<len:=by omega
 have hw:IntKind.i64.wrap ((len:Int) - 1)=(q:Int):=by rw[IntWalk.i64_in _ zdC];omega
 clear hql
 have HS:Hid (∀ u,Below W.heap.size W u→u.cell? ⟨b,4,none⟩=some (.slice (some ⟨gR,0,none⟩) len cap)∧u.cell? ⟨gR,q*5,none⟩=some (.int .i64 k)∧u.cell? ⟨gR,q*5+1,none⟩=some (.int .i64 i)∧u.cell? ⟨gR,q*5+2,none⟩=some (.int .i64 j)∧u.cell? ⟨gR,q*5+3,none⟩=some (.slice o n c)):=Lib.hid (fun u hu=>by
  exact zbg)
 obtain⟨e0,e1,e2,e3,e4⟩:=hcells
 go_enter Tryz.func157,Tryz.ntmps157
 go_wp2_with fail
 go_region_held3 (fun W'=>W'.cell? ⟨b,4,none⟩=some (.slice (some ⟨gR,0,none⟩) len cap)∧W'.cell? ⟨gR,q*5,none⟩=some (.int .i64 k)∧W'.cell? ⟨gR,q*5+1,none⟩=some (.int .i64 i)∧W'.cell? ⟨gR,q*5+2,none⟩=some (.int .i64 j)∧W'.cell? ⟨gR,q*5+3,none⟩=some (.slice o n c))
  (first|exact HS.out _ (Below.refl _ _).drew|exact HS.out _ ((Below.refl _ _).drew.alloc (Nat.le_refl _) _)|exact HS.out _ ((Below.refl _ _).alloc (Nat.le_refl _) _).drew)
  (fail)
 all_goals exact zbi
theorem zsa {W:World} {b gR q len cap:Nat} {i j:Int} {n c:Nat} {g1 o1 c1 n1:Nat} {i1 j1:Int} {p1:Option Addr} (hl:len≤1099511627776) (hql:q+1=len) (hd:Bool) (hn:0<n) (hg1:g1<W.heap.size)  (hcells:W.cell? ⟨b,4,none⟩=some (.slice (some ⟨gR,0,none⟩) len cap)∧W.cell? ⟨gR,q*5,none⟩=some (.int .i64 207)∧W.cell? ⟨gR,q*5+1,none⟩=some (.int .i64 i)∧W.cell? ⟨gR,q*5+2,none⟩=some (.int .i64 j)∧W.cell? ⟨gR,q*5+3,none⟩=some (.slice (some ⟨g1,o1,none⟩) n c)∧W.cell? ⟨g1,o1,none⟩=some (.int .i64 201)∧W.cell? ⟨g1,o1+1,none⟩=some (.int .i64 i1)∧W.cell? ⟨g1,o1+2,none⟩=some (.int .i64 j1)∧W.cell? ⟨g1,o1+3,none⟩=some (.slice p1 n1 c1)) :
  Calls Tryz.prog 157 #[.pointer (some ⟨b,0,none⟩),.bool hd] W fun e w'=>e=.returned (.bool (!hd))∧Below W.heap.size W w':=by
 have hq0:(0:Int)≤(q:Int):=by omega
 have hq1:(q:Int)<(len:Int):=by omega
 have hqn:q<len:=by omega
 have hw:IntKind.i64.wrap ((len:Int) - 1)=(q:Int):=by rw[IntWalk.i64_in _ zdC];omega
 clear hql
 have HS:Hid (∀ u,Below W.heap.size W u→u.cell? ⟨b,4,none⟩=some (.slice (some ⟨gR,0,none⟩) len cap)∧u.cell? ⟨gR,q*5,none⟩=some (.int .i64 207)∧u.cell? ⟨gR,q*5+1,none⟩=some (.int .i64 i)∧u.cell? ⟨gR,q*5+2,none⟩=some (.int .i64 j)∧u.cell? ⟨gR,q*5+3,none⟩=some (.slice (some ⟨g1,o1,none⟩) n c)∧u.cell? ⟨g1,o1,none⟩=some (.int .i64 201)∧u.cell? ⟨g1,o1+1,none⟩=some (.int .i64 i1)∧u.cell? ⟨g1,o1+2,none⟩=some (.int .i64 j1)∧u.cell? ⟨g1,o1+3,none⟩=some (.slice p1 n1 c1)):=Lib.hid (fun u hu=>by
  exact zbj)
 obtain⟨e0,e1,e2,e3,e4,e5,e6,e7,e8⟩:=hcells
 have hm1:(W.heap.size == g1)=false:=beq_eq_false_iff_ne.2 zdC
 have hm2:(g1 == W.heap.size)=false:=beq_eq_false_iff_ne.2 zdC
 go_enter Tryz.func157,Tryz.ntmps157
 go_wp2_with fail
 go_region_held3 (fun W'=>W'.cell? ⟨b,4,none⟩=some (.slice (some ⟨gR,0,none⟩) len cap)∧W'.cell? ⟨gR,q*5,none⟩=some (.int .i64 207)∧W'.cell? ⟨gR,q*5+1,none⟩=some (.int .i64 i)∧W'.cell? ⟨gR,q*5+2,none⟩=some (.int .i64 j)∧W'.cell? ⟨gR,q*5+3,none⟩=some (.slice (some ⟨g1,o1,none⟩) n c)∧W'.cell? ⟨g1,o1,none⟩=some (.int .i64 201)∧W'.cell? ⟨g1,o1+1,none⟩=some (.int .i64 i1)∧W'.cell? ⟨g1,o1+2,none⟩=some (.int .i64 j1)∧W'.cell? ⟨g1,o1+3,none⟩=some (.slice p1 n1 c1))
  (first|exact HS.out _ (Below.refl _ _).drew|exact HS.out _ ((Below.refl _ _).drew.alloc (Nat.le_refl _) _)|exact HS.out _ ((Below.refl _ _).alloc (Nat.le_refl _) _).drew)
  (fail)
 all_goals exact zbe
theorem zqo {W:World} {b gR q len cap:Nat} {i j:Int} {n c:Nat} {g1 o1 c1 n1:Nat} {i1 j1:Int} {p1:Option Addr} {k1:Int} (hl:len≤1099511627776) (hql:q+1=len) (hd:Bool) (hn:0<n) (hg1:g1<W.heap.size) (nk1201:(k1 == 201)=false) (hcells:W.cell? ⟨b,4,none⟩=some (.slice (some ⟨gR,0,none⟩) len cap)∧W.cell? ⟨gR,q*5,none⟩=some (.int .i64 207)∧W.cell? ⟨gR,q*5+1,none⟩=some (.int .i64 i)∧W.cell? ⟨gR,q*5+2,none⟩=some (.int .i64 j)∧W.cell? ⟨gR,q*5+3,none⟩=some (.slice (some ⟨g1,o1,none⟩) n c)∧W.cell? ⟨g1,o1,none⟩=some (.int .i64 k1)∧W.cell? ⟨g1,o1+1,none⟩=some (.int .i64 i1)∧W.cell? ⟨g1,o1+2,none⟩=some (.int .i64 j1)∧W.cell? ⟨g1,o1+3,none⟩=some (.slice p1 n1 c1)) :
  Calls Tryz.prog 157 #[.pointer (some ⟨b,0,none⟩),.bool hd] W fun e w'=>e=.returned (.bool (false))∧Below W.heap.size W w':=by
 have hq0:(0:Int)≤(q:Int):=by omega
 have hq1:(q:Int)<(len:Int):=by omega
 have hqn:q<len:=by omega
 have hw:IntKind.i64.wrap ((len:Int) - 1)=(q:Int):=by rw[IntWalk.i64_in _ zdC];omega
 clear hql
 have HS:Hid (∀ u,Below W.heap.size W u→u.cell? ⟨b,4,none⟩=some (.slice (some ⟨gR,0,none⟩) len cap)∧u.cell? ⟨gR,q*5,none⟩=some (.int .i64 207)∧u.cell? ⟨gR,q*5+1,none⟩=some (.int .i64 i)∧u.cell? ⟨gR,q*5+2,none⟩=some (.int .i64 j)∧u.cell? ⟨gR,q*5+3,none⟩=some (.slice (some ⟨g1,o1,none⟩) n c)∧u.cell? ⟨g1,o1,none⟩=some (.int .i64 k1)∧u.cell? ⟨g1,o1+1,none⟩=some (.int .i64 i1)∧u.cell? ⟨g1,o1+2,none⟩=some (.int .i64 j1)∧u.cell? ⟨g1,o1+3,none⟩=some (.slice p1 n1 c1)):=Lib.hid (fun u hu=>by
  exact zbj)
 obtain⟨e0,e1,e2,e3,e4,e5,e6,e7,e8⟩:=hcells
 have hm1:(W.heap.size == g1)=false:=beq_eq_false_iff_ne.2 zdC
 have hm2:(g1 == W.heap.size)=false:=beq_eq_false_iff_ne.2 zdC
 go_enter Tryz.func157,Tryz.ntmps157
 go_wp2_with fail
 go_region_held3 (fun W'=>W'.cell? ⟨b,4,none⟩=some (.slice (some ⟨gR,0,none⟩) len cap)∧W'.cell? ⟨gR,q*5,none⟩=some (.int .i64 207)∧W'.cell? ⟨gR,q*5+1,none⟩=some (.int .i64 i)∧W'.cell? ⟨gR,q*5+2,none⟩=some (.int .i64 j)∧W'.cell? ⟨gR,q*5+3,none⟩=some (.slice (some ⟨g1,o1,none⟩) n c)∧W'.cell? ⟨g1,o1,none⟩=some (.int .i64 k1)∧W'.cell? ⟨g1,o1+1,none⟩=some (.int .i64 i1)∧W'.cell? ⟨g1,o1+2,none⟩=some (.int .i64 j1)∧W'.cell? ⟨g1,o1+3,none⟩=some (.slice p1 n1 c1))
  (first|exact HS.out _ (Below.refl _ _).drew|exact HS.out _ ((Below.refl _ _).drew.alloc (Nat.le_refl _) _)|exact HS.out _ ((Below.refl _ _).alloc (Nat.le_refl _) _).drew)
  (fail)
 all_goals exact zbe
theorem zrH {W:World} {b gR q len cap:Nat} {i j:Int} {n c:Nat} {g1 o1 c1 n1:Nat} {i1 j1:Int} {p1:Option Addr} (hl:len≤1099511627776) (hql:q+1=len) (hd:Bool) (hn:0<n) (hg1:g1<W.heap.size)  (hcells:W.cell? ⟨b,4,none⟩=some (.slice (some ⟨gR,0,none⟩) len cap)∧W.cell? ⟨gR,q*5,none⟩=some (.int .i64 208)∧W.cell? ⟨gR,q*5+1,none⟩=some (.int .i64 i)∧W.cell? ⟨gR,q*5+2,none⟩=some (.int .i64 j)∧W.cell? ⟨gR,q*5+3,none⟩=some (.slice (some ⟨g1,o1,none⟩) n c)∧W.cell? ⟨g1,o1,none⟩=some (.int .i64 201)∧W.cell? ⟨g1,o1+1,none⟩=some (.int .i64 i1)∧W.cell? ⟨g1,o1+2,none⟩=some (.int .i64 j1)∧W.cell? ⟨g1,o1+3,none⟩=some (.slice p1 n1 c1)) :
  Calls Tryz.prog 157 #[.pointer (some ⟨b,0,none⟩),.bool hd] W fun e w'=>e=.returned (.bool (!hd))∧Below W.heap.size W w':=by
 have hq0:(0:Int)≤(q:Int):=by omega
 have hq1:(q:Int)<(len:Int):=by omega
 have hqn:q<len:=by omega
 have hw:IntKind.i64.wrap ((len:Int) - 1)=(q:Int):=by rw[IntWalk.i64_in _ zdC];omega
 clear hql
 have HS:Hid (∀ u,Below W.heap.size W u→u.cell? ⟨b,4,none⟩=some (.slice (some ⟨gR,0,none⟩) len cap)∧u.cell? ⟨gR,q*5,none⟩=some (.int .i64 208)∧u.cell? ⟨gR,q*5+1,none⟩=some (.int .i64 i)∧u.cell? ⟨gR,q*5+2,none⟩=some (.int .i64 j)∧u.cell? ⟨gR,q*5+3,none⟩=some (.slice (some ⟨g1,o1,none⟩) n c)∧u.cell? ⟨g1,o1,none⟩=some (.int .i64 201)∧u.cell? ⟨g1,o1+1,none⟩=some (.int .i64 i1)∧u.cell? ⟨g1,o1+2,none⟩=some (.int .i64 j1)∧u.cell? ⟨g1,o1+3,none⟩=some (.slice p1 n1 c1)):=Lib.hid (fun u hu=>by
  exact zbj)
 obtain⟨e0,e1,e2,e3,e4,e5,e6,e7,e8⟩:=hcells
 have hm1:(W.heap.size == g1)=false:=beq_eq_false_iff_ne.2 zdC
 have hm2:(g1 == W.heap.size)=false:=beq_eq_false_iff_ne.2 zdC
 go_enter Tryz.func157,Tryz.ntmps157
 go_wp2_with fail
 go_region_held3 (fun W'=>W'.cell? ⟨b,4,none⟩=some (.slice (some ⟨gR,0,none⟩) len cap)∧W'.cell? ⟨gR,q*5,none⟩=some (.int .i64 208)∧W'.cell? ⟨gR,q*5+1,none⟩=some (.int .i64 i)∧W'.cell? ⟨gR,q*5+2,none⟩=some (.int .i64 j)∧W'.cell? ⟨gR,q*5+3,none⟩=some (.slice (some ⟨g1,o1,none⟩) n c)∧W'.cell? ⟨g1,o1,none⟩=some (.int .i64 201)∧W'.cell? ⟨g1,o1+1,none⟩=some (.int .i64 i1)∧W'.cell? ⟨g1,o1+2,none⟩=some (.int .i64 j1)∧W'.cell? ⟨g1,o1+3,none⟩=some (.slice p1 n1 c1))
  (first|exact HS.out _ (Below.refl _ _).drew|exact HS.out _ ((Below.refl _ _).drew.alloc (Nat.le_refl _) _)|exact HS.out _ ((Below.refl _ _).alloc (Nat.le_refl _) _).drew)
  (fail)
 all_goals exact zbe
theorem zqa {W:World} {b gR q len cap:Nat} {i j:Int} {n c:Nat} {g1 o1 c1 n1:Nat} {i1 j1:Int} {p1:Option Addr} {k1:Int} (hl:len≤1099511627776) (hql:q+1=len) (hd:Bool) (hn:0<n) (hg1:g1<W.heap.size) (nk1201:(k1 == 201)=false) (nk1207:(k1 == 207)=false) (hcells:W.cell? ⟨b,4,none⟩=some (.slice (some ⟨gR,0,none⟩) len cap)∧W.cell? ⟨gR,q*5,none⟩=some (.int .i64 208)∧W.cell? ⟨gR,q*5+1,none⟩=some (.int .i64 i)∧W.cell? ⟨gR,q*5+2,none⟩=some (.int .i64 j)∧W.cell? ⟨gR,q*5+3,none⟩=some (.slice (some ⟨g1,o1,none⟩) n c)∧W.cell? ⟨g1,o1,none⟩=some (.int .i64 k1)∧W.cell? ⟨g1,o1+1,none⟩=some (.int .i64 i1)∧W.cell? ⟨g1,o1+2,none⟩=some (.int .i64 j1)∧W.cell? ⟨g1,o1+3,none⟩=some (.slice p1 n1 c1)) :
  Calls Tryz.prog 157 #[.pointer (some ⟨b,0,none⟩),.bool hd] W fun e w'=>e=.returned (.bool (false))∧Below W.heap.size W w':=by
 have hq0:(0:Int)≤(q:Int):=by omega
 have hq1:(q:Int)<(len:Int):=by omega
 have hqn:q<len:=by omega
 have hw:IntKind.i64.wrap ((len:Int) - 1)=(q:Int):=by rw[IntWalk.i64_in _ zdC];omega
 clear hql
 have HS:Hid (∀ u,Below W.heap.size W u→u.cell? ⟨b,4,none⟩=some (.slice (some ⟨gR,0,none⟩) len cap)∧u.cell? ⟨gR,q*5,none⟩=some (.int .i64 208)∧u.cell? ⟨gR,q*5+1,none⟩=some (.int .i64 i)∧u.cell? ⟨gR,q*5+2,none⟩=some (.int .i64 j)∧u.cell? ⟨gR,q*5+3,none⟩=some (.slice (some ⟨g1,o1,none⟩) n c)∧u.cell? ⟨g1,o1,none⟩=some (.int .i64 k1)∧u.cell? ⟨g1,o1+1,none⟩=some (.int .i64 i1)∧u.cell? ⟨g1,o1+2,none⟩=some (.int .i64 j1)∧u.cell? ⟨g1,o1+3,none⟩=some (.slice p1 n1 c1)):=Lib.hid (fun u hu=>by
  exact zbj)
 obtain⟨e0,e1,e2,e3,e4,e5,e6,e7,e8⟩:=hcells
 have hm1:(W.heap.size == g1)=false:=beq_eq_false_iff_ne.2 zdC
 have hm2:(g1 == W.heap.size)=false:=beq_eq_false_iff_ne.2 zdC
 go_enter Tryz.func157,Tryz.ntmps157
 go_wp2_with fail
 go_region_held3 (fun W'=>W'.cell? ⟨b,4,none⟩=some (.slice (some ⟨gR,0,none⟩) len cap)∧W'.cell? ⟨gR,q*5,none⟩=some (.int .i64 208)∧W'.cell? ⟨gR,q*5+1,none⟩=some (.int .i64 i)∧W'.cell? ⟨gR,q*5+2,none⟩=some (.int .i64 j)∧W'.cell? ⟨gR,q*5+3,none⟩=some (.slice (some ⟨g1,o1,none⟩) n c)∧W'.cell? ⟨g1,o1,none⟩=some (.int .i64 k1)∧W'.cell? ⟨g1,o1+1,none⟩=some (.int .i64 i1)∧W'.cell? ⟨g1,o1+2,none⟩=some (.int .i64 j1)∧W'.cell? ⟨g1,o1+3,none⟩=some (.slice p1 n1 c1))
  (first|exact HS.out _ (Below.refl _ _).drew|exact HS.out _ ((Below.refl _ _).drew.alloc (Nat.le_refl _) _)|exact HS.out _ ((Below.refl _ _).alloc (Nat.le_refl _) _).drew)
  (fail)
 all_goals exact zbe
theorem zqc {W:World} {b gR q len cap:Nat} {i j:Int} {n c:Nat} {g1 o1 c1 n1:Nat} {i1 j1:Int} {g2 o2 c2 n2:Nat} {i2 j2:Int} {p2:Option Addr} (hl:len≤1099511627776) (hql:q+1=len) (hd:Bool) (hn:0<n) (hg1:g1<W.heap.size) (hn1:0<n1) (hg2:g2<W.heap.size)  (hcells:W.cell? ⟨b,4,none⟩=some (.slice (some ⟨gR,0,none⟩) len cap)∧W.cell? ⟨gR,q*5,none⟩=some (.int .i64 208)∧W.cell? ⟨gR,q*5+1,none⟩=some (.int .i64 i)∧W.cell? ⟨gR,q*5+2,none⟩=some (.int .i64 j)∧W.cell? ⟨gR,q*5+3,none⟩=some (.slice (some ⟨g1,o1,none⟩) n c)∧W.cell? ⟨g1,o1,none⟩=some (.int .i64 207)∧W.cell? ⟨g1,o1+1,none⟩=some (.int .i64 i1)∧W.cell? ⟨g1,o1+2,none⟩=some (.int .i64 j1)∧W.cell? ⟨g1,o1+3,none⟩=some (.slice (some ⟨g2,o2,none⟩) n1 c1)∧W.cell? ⟨g2,o2,none⟩=some (.int .i64 201)∧W.cell? ⟨g2,o2+1,none⟩=some (.int .i64 i2)∧W.cell? ⟨g2,o2+2,none⟩=some (.int .i64 j2)∧W.cell? ⟨g2,o2+3,none⟩=some (.slice p2 n2 c2)) :
  Calls Tryz.prog 157 #[.pointer (some ⟨b,0,none⟩),.bool hd] W fun e w'=>e=.returned (.bool (!hd))∧Below W.heap.size W w':=by
 have hq0:(0:Int)≤(q:Int):=by omega
 have hq1:(q:Int)<(len:Int):=by omega
 have hqn:q<len:=by omega
 have hw:IntKind.i64.wrap ((len:Int) - 1)=(q:Int):=by rw[IntWalk.i64_in _ zdC];omega
 clear hql
 have HS:Hid (∀ u,Below W.heap.size W u→u.cell? ⟨b,4,none⟩=some (.slice (some ⟨gR,0,none⟩) len cap)∧u.cell? ⟨gR,q*5,none⟩=some (.int .i64 208)∧u.cell? ⟨gR,q*5+1,none⟩=some (.int .i64 i)∧u.cell? ⟨gR,q*5+2,none⟩=some (.int .i64 j)∧u.cell? ⟨gR,q*5+3,none⟩=some (.slice (some ⟨g1,o1,none⟩) n c)∧u.cell? ⟨g1,o1,none⟩=some (.int .i64 207)∧u.cell? ⟨g1,o1+1,none⟩=some (.int .i64 i1)∧u.cell? ⟨g1,o1+2,none⟩=some (.int .i64 j1)∧u.cell? ⟨g1,o1+3,none⟩=some (.slice (some ⟨g2,o2,none⟩) n1 c1)∧u.cell? ⟨g2,o2,none⟩=some (.int .i64 201)∧u.cell? ⟨g2,o2+1,none⟩=some (.int .i64 i2)∧u.cell? ⟨g2,o2+2,none⟩=some (.int .i64 j2)∧u.cell? ⟨g2,o2+3,none⟩=some (.slice p2 n2 c2)):=Lib.hid (fun u hu=>by
  exact zbM)
 obtain⟨e0,e1,e2,e3,e4,e5,e6,e7,e8,e9,e10,e11,e12⟩:=hcells
 have hm1:(W.heap.size == g1)=false:=beq_eq_false_iff_ne.2 zdC
 have hm2:(g1 == W.heap.size)=false:=beq_eq_false_iff_ne.2 zdC
 have hm3:(W.heap.size == g2)=false:=beq_eq_false_iff_ne.2 zdC
 have hm4:(g2 == W.heap.size)=false:=beq_eq_false_iff_ne.2 zdC
 go_enter Tryz.func157,Tryz.ntmps157
 go_wp2_with fail
 go_region_held3 (fun W'=>W'.cell? ⟨b,4,none⟩=some (.slice (some ⟨gR,0,none⟩) len cap)∧W'.cell? ⟨gR,q*5,none⟩=some (.int .i64 208)∧W'.cell? ⟨gR,q*5+1,none⟩=some (.int .i64 i)∧W'.cell? ⟨gR,q*5+2,none⟩=some (.int .i64 j)∧W'.cell? ⟨gR,q*5+3,none⟩=some (.slice (some ⟨g1,o1,none⟩) n c)∧W'.cell? ⟨g1,o1,none⟩=some (.int .i64 207)∧W'.cell? ⟨g1,o1+1,none⟩=some (.int .i64 i1)∧W'.cell? ⟨g1,o1+2,none⟩=some (.int .i64 j1)∧W'.cell? ⟨g1,o1+3,none⟩=some (.slice (some ⟨g2,o2,none⟩) n1 c1)∧W'.cell? ⟨g2,o2,none⟩=some (.int .i64 201)∧W'.cell? ⟨g2,o2+1,none⟩=some (.int .i64 i2)∧W'.cell? ⟨g2,o2+2,none⟩=some (.int .i64 j2)∧W'.cell? ⟨g2,o2+3,none⟩=some (.slice p2 n2 c2))
  (first|exact HS.out _ (Below.refl _ _).drew|exact HS.out _ ((Below.refl _ _).drew.alloc (Nat.le_refl _) _)|exact HS.out _ ((Below.refl _ _).alloc (Nat.le_refl _) _).drew)
  (fail)
 all_goals exact zbe
theorem zoj {W:World} {b gR q len cap:Nat} {i j:Int} {n c:Nat} {g1 o1 c1 n1:Nat} {i1 j1:Int} {g2 o2 c2 n2:Nat} {i2 j2:Int} {p2:Option Addr} {k2:Int} (hl:len≤1099511627776) (hql:q+1=len) (hd:Bool) (hn:0<n) (hg1:g1<W.heap.size) (hn1:0<n1) (hg2:g2<W.heap.size) (nk2201:(k2 == 201)=false) (hcells:W.cell? ⟨b,4,none⟩=some (.slice (some ⟨gR,0,none⟩) len cap)∧W.cell? ⟨gR,q*5,none⟩=some (.int .i64 208)∧W.cell? ⟨gR,q*5+1,none⟩=some (.int .i64 i)∧W.cell? ⟨gR,q*5+2,none⟩=some (.int .i64 j)∧W.cell? ⟨gR,q*5+3,none⟩=some (.slice (some ⟨g1,o1,none⟩) n c)∧W.cell? ⟨g1,o1,none⟩=some (.int .i64 207)∧W.cell? ⟨g1,o1+1,none⟩=some (.int .i64 i1)∧W.cell? ⟨g1,o1+2,none⟩=some (.int .i64 j1)∧W.cell? ⟨g1,o1+3,none⟩=some (.slice (some ⟨g2,o2,none⟩) n1 c1)∧W.cell? ⟨g2,o2,none⟩=some (.int .i64 k2)∧W.cell? ⟨g2,o2+1,none⟩=some (.int .i64 i2)∧W.cell? ⟨g2,o2+2,none⟩=some (.int .i64 j2)∧W.cell? ⟨g2,o2+3,none⟩=some (.slice p2 n2 c2)) :
  Calls Tryz.prog 157 #[.pointer (some ⟨b,0,none⟩),.bool hd] W fun e w'=>e=.returned (.bool (false))∧Below W.heap.size W w':=by
 have hq0:(0:Int)≤(q:Int):=by omega
 have hq1:(q:Int)<(len:Int):=by omega
 have hqn:q<len:=by omega
 have hw:IntKind.i64.wrap ((len:Int) - 1)=(q:Int):=by rw[IntWalk.i64_in _ zdC];omega
 clear hql
 have HS:Hid (∀ u,Below W.heap.size W u→u.cell? ⟨b,4,none⟩=some (.slice (some ⟨gR,0,none⟩) len cap)∧u.cell? ⟨gR,q*5,none⟩=some (.int .i64 208)∧u.cell? ⟨gR,q*5+1,none⟩=some (.int .i64 i)∧u.cell? ⟨gR,q*5+2,none⟩=some (.int .i64 j)∧u.cell? ⟨gR,q*5+3,none⟩=some (.slice (some ⟨g1,o1,none⟩) n c)∧u.cell? ⟨g1,o1,none⟩=some (.int .i64 207)∧u.cell? ⟨g1,o1+1,none⟩=some (.int .i64 i1)∧u.cell? ⟨g1,o1+2,none⟩=some (.int .i64 j1)∧u.cell? ⟨g1,o1+3,none⟩=some (.slice (some ⟨g2,o2,none⟩) n1 c1)∧u.cell? ⟨g2,o2,none⟩=some (.int .i64 k2)∧u.cell? ⟨g2,o2+1,none⟩=some (.int .i64 i2)∧u.cell? ⟨g2,o2+2,none⟩=some (.int .i64 j2)∧u.cell? ⟨g2,o2+3,none⟩=some (.slice p2 n2 c2)):=Lib.hid (fun u hu=>by
  exact zbM)
 obtain⟨e0,e1,e2,e3,e4,e5,e6,e7,e8,e9,e10,e11,e12⟩:=hcells
 have hm1:(W.heap.size == g1)=false:=beq_eq_false_iff_ne.2 zdC
 have hm2:(g1 == W.heap.size)=false:=beq_eq_false_iff_ne.2 zdC
 have hm3:(W.heap.size == g2)=false:=beq_eq_false_iff_ne.2 zdC
 have hm4:(g2 == W.heap.size)=false:=beq_eq_false_iff_ne.2 zdC
 go_enter Tryz.func157,Tryz.ntmps157
 go_wp2_with fail
 go_region_held3 (fun W'=>W'.cell? ⟨b,4,none⟩=some (.slice (some ⟨gR,0,none⟩) len cap)∧W'.cell? ⟨gR,q*5,none⟩=some (.int .i64 208)∧W'.cell? ⟨gR,q*5+1,none⟩=some (.int .i64 i)∧W'.cell? ⟨gR,q*5+2,none⟩=some (.int .i64 j)∧W'.cell? ⟨gR,q*5+3,none⟩=some (.slice (some ⟨g1,o1,none⟩) n c)∧W'.cell? ⟨g1,o1,none⟩=some (.int .i64 207)∧W'.cell? ⟨g1,o1+1,none⟩=some (.int .i64 i1)∧W'.cell? ⟨g1,o1+2,none⟩=some (.int .i64 j1)∧W'.cell? ⟨g1,o1+3,none⟩=some (.slice (some ⟨g2,o2,none⟩) n1 c1)∧W'.cell? ⟨g2,o2,none⟩=some (.int .i64 k2)∧W'.cell? ⟨g2,o2+1,none⟩=some (.int .i64 i2)∧W'.cell? ⟨g2,o2+2,none⟩=some (.int .i64 j2)∧W'.cell? ⟨g2,o2+3,none⟩=some (.slice p2 n2 c2))
  (first|exact HS.out _ (Below.refl _ _).drew|exact HS.out _ ((Below.refl _ _).drew.alloc (Nat.le_refl _) _)|exact HS.out _ ((Below.refl _ _).alloc (Nat.le_refl _) _).drew)
  (fail)
 all_goals exact zbe
def Wk (t:Tree):Prop:=(t.k=207∨t.k=208)→∃ u l,t.l=u::l∧200≤u.k∧(t.k=208→u.k=207→∃ u2 l2,u.l=u2::l2∧200≤u2.k)
theorem zhK {u:Tree} {l:List Tree} (h:200≤u.k):partT (u::l)=u:=by unfold partT;rw[if_pos (decide_eq_true h)]
theorem zvD {t:Tree} {hd:Bool} (h1:t.k≠220) (h2:t.k≠221) (h3:t.k≠222) (h4:t.k≠224):literalT t hd=(!hd && (namedT t || (t.k == 208 && namedT (partT t.l)))):=by
 unfold literalT
 simp [h1,h2,h3,h4]
theorem zkS {w:World} {D:Nat→Prop} {u:Tree} {l:List Tree} {n:Rn} {k i j:Int} (h:Tie w D (.mk k i j (u::l)) n):∃ g off nu,n.o=some ⟨g,off,none⟩∧0<n.n∧Tie w D u nu∧w.cell? ⟨g,off,none⟩=some (.int .i64 nu.k)∧w.cell? ⟨g,off+1,none⟩=some (.int .i64 nu.i)∧w.cell? ⟨g,off+2,none⟩=some (.int .i64 nu.j)∧w.cell? ⟨g,off+3,none⟩=some (.slice nu.o nu.n nu.c):=by
 rw[Tie] at h
 obtain⟨_,_,_,h4,g,off,R,_,h6,h7,h8⟩:=h
 rw[Ties] at h8
 obtain⟨nu,R',rfl,h9,_⟩:=h8
 have hc:=zgi h7 0 zdF
 simp only[Nat.zero_mul,Nat.add_zero,List.getElem_cons_zero] at hc
 exact⟨g,off,nu,(h6 zdF).1,by rw[h4];simp,h9,hc.1,hc.2.1,hc.2.2.1,hc.2.2.2⟩
theorem zsM {C:Kc} {w:World} {b:Nat} {s:St} {t:Tree} {hd:Bool} (h:Hid (CAt C w b (.ok s))) (hl:s.R.getLast? = some t) (hW:Wk t):Calls Tryz.prog 157 #[.pointer (some ⟨b,0,none⟩),.bool hd] w fun e w'=>e=.returned (.bool (literalT t hd))∧Hid (CAt C w' b (.ok s)):=by
 obtain⟨vL,vS,vR,σ,D,hr,ho,hi⟩:=h.out
 have hf1:=ziL hi
 obtain⟨h1,h2,h3,h4,h5,h6,h7,h8,h9⟩:=hi
 have hlen:=h4.length
 rw[List.length_map] at hlen
 rw[List.getLast?_eq_getElem?] at hl
 obtain⟨N',hN',hT⟩:=zht h4 _ _ hl
 rw[List.getElem?_map] at hN'
 have hne:s.R.length≠0:=by
  intro e
  rw[List.getElem?_eq_none zdC] at hl
  cases hl
 obtain⟨q,hq⟩:∃ q,q+1=σ.R.length:=⟨σ.R.length - 1,by omega⟩
 have hq1:s.R.length - 1=q:=by omega
 rw[hq1] at hN'
 have hlt:q<σ.R.length:=by omega
 rw[List.getElem?_eq_getElem hlt,Option.map_some,Option.some.injEq] at hN'
 obtain⟨gR,oR,cap,hv,hoR,_⟩:=hr.row.shape
 subst hv
 have hoR':=hoR zdM
 subst hoR'
 have b4:=(zfV hr.cells).1.2.2.2.2.1
 obtain⟨c0,c1,c2,c3,c4⟩:=zje hr.row.cells q hlt
 clear c4
 generalize σ.R[q]=B at *
 rw[Nat.zero_add] at c0 c1 c2 c3
 rw[← hN'] at hT
 have hBk:B.k=t.k:=hT.k
 rw[hBk] at c0
 have hfin:∀ r,(Calls Tryz.prog 157 #[.pointer (some ⟨b,0,none⟩),.bool hd] w fun e w'=>e=.returned (.bool r)∧Below w.heap.size w w')→r=literalT t hd→Calls Tryz.prog 157 #[.pointer (some ⟨b,0,none⟩),.bool hd] w fun e w'=>e=.returned (.bool (literalT t hd))∧Hid (CAt C w' b (.ok s)):=fun r hc hr=>by
  rw[← hr]
  refine hc.mono ?_
  rintro e w' ⟨rfl,hb⟩
  exact⟨rfl,CAt.below h hb⟩
 have hfew:σ.R.length≤1099511627776:=by omega
 clear h1 h2 h3 h4 h5 h6 h7 h8 h9 hr ho hoR hN' hlen hl hne hq1 hlt hf1
 by_cases k220:t.k=220
 ·rw[k220] at c0;exact hfin _ (zsi hfew hq hd ⟨b4,c0,c1,c2,c3⟩) (by simp [literalT,k220])
 by_cases k221:t.k=221
 ·rw[k221] at c0;exact hfin _ (zrB hfew hq hd ⟨b4,c0,c1,c2,c3⟩) (by simp [literalT,k221])
 by_cases k222:t.k=222
 ·rw[k222] at c0;exact hfin _ (zrk hfew hq hd ⟨b4,c0,c1,c2,c3⟩) (by simp [literalT,k222])
 by_cases k224:t.k=224
 ·rw[k224] at c0;exact hfin _ (zse hfew hq hd ⟨b4,c0,c1,c2,c3⟩) (by simp [literalT,k224])
 have hel:=zvD (hd:=hd) k220 k221 k222 k224
 by_cases k201:t.k=201
 ·rw[k201] at c0;exact hfin _ (zrN hfew hq hd ⟨b4,c0,c1,c2,c3⟩) (by rw[hel];simp [namedT,k201])
 by_cases k207:t.k=207
 ·obtain⟨u,l,hul,hu,_⟩:=hW (.inl k207)
  cases t with
  |mk k i j l0=>
   obtain rfl:l0=u::l:=hul
   obtain⟨g,off,nu,hno,hnn,hTu,d0,d1,d2,d3⟩:=zkS hT
   have hno:B.o=some ⟨g,off,none⟩:=hno
   have hnn:0<B.n:=hnn
   rw[hno] at c3
   rw[k207] at c0
   rw[hTu.k] at d0
   have hg:=World.block_lt_of_cell? _ _ d0
   by_cases u201:u.k=201
   ·rw[u201] at d0
    exact hfin _ (zsa hfew hq hd hnn hg ⟨b4,c0,c1,c2,c3,d0,d1,d2,d3⟩) (by rw[hel];simp [namedT,k207,Tree.l,zhK hu,u201])
   ·exact hfin _ (zqo hfew hq hd hnn hg (beq_eq_false_iff_ne.2 u201) ⟨b4,c0,c1,c2,c3,d0,d1,d2,d3⟩) (by rw[hel];simp [namedT,k207,Tree.l,zhK hu,u201])
 by_cases k208:t.k=208
 ·obtain⟨u,l,hul,hu,hu7⟩:=hW (.inr k208)
  cases t with
  |mk k i j l0=>
   obtain rfl:l0=u::l:=hul
   obtain⟨g,off,nu,hno,hnn,hTu,d0,d1,d2,d3⟩:=zkS hT
   have hno:B.o=some ⟨g,off,none⟩:=hno
   have hnn:0<B.n:=hnn
   rw[hno] at c3
   have e208:k=208:=k208
   rw[k208] at c0
   rw[hTu.k] at d0
   have hg:=World.block_lt_of_cell? _ _ d0
   by_cases u201:u.k=201
   ·rw[u201] at d0
    exact hfin _ (zrH hfew hq hd hnn hg ⟨b4,c0,c1,c2,c3,d0,d1,d2,d3⟩) (by rw[hel];simp [namedT,k208,Tree.l,zhK hu,u201])
   by_cases u207:u.k=207
   ·obtain⟨u2,l2,hul2,hu2⟩:=hu7 k208 u207
    cases u with
    |mk k' i' j' l1=>
     obtain rfl:l1=u2::l2:=hul2
     obtain⟨g2,off2,nu2,hno2,hnn2,hTu2,f0,f1,f2,f3⟩:=zkS hTu
     rw[hno2] at d3
     rw[u207] at d0
     rw[hTu2.k] at f0
     have hg2:=World.block_lt_of_cell? _ _ f0
     by_cases v201:u2.k=201
     ·rw[v201] at f0
      exact hfin _ (zqc hfew hq hd hnn hg hnn2 hg2 ⟨b4,c0,c1,c2,c3,d0,d1,d2,d3,f0,f1,f2,f3⟩) zeR
     ·exact hfin _ (zoj hfew hq hd hnn hg hnn2 hg2 (beq_eq_false_iff_ne.2 v201) ⟨b4,c0,c1,c2,c3,d0,d1,d2,d3,f0,f1,f2,f3⟩) zeR
   ·exact hfin _ (zqa hfew hq hd hnn hg (beq_eq_false_iff_ne.2 u201) (beq_eq_false_iff_ne.2 u207) ⟨b4,c0,c1,c2,c3,d0,d1,d2,d3⟩) (by rw[hel];simp [namedT,k208,Tree.l,zhK hu,u201,u207])
 ·exact hfin _ (ztV hfew hq hd (beq_eq_false_iff_ne.2 k220) (beq_eq_false_iff_ne.2 k221) (beq_eq_false_iff_ne.2 k222) (beq_eq_false_iff_ne.2 k224) (beq_eq_false_iff_ne.2 k208) (beq_eq_false_iff_ne.2 k207) (beq_eq_false_iff_ne.2 k201) ⟨b4,c0,c1,c2,c3⟩) (by rw[hel];simp [namedT,k201,k207,k208])
open Go.RowKit
def Pr (m:Nat) (s:St):Prop:=∃ T t,s.R.drop m=T ++ [t]∧(∀ u∈T,sig u.k=false)∧200≤t.k∧Wk t
theorem zmg {k:Int} (h:200≤k):sig k=true:=by unfold sig;exact decide_eq_true zdC
theorem zlQ:∀ (T:List Tree) (t:Tree) (l:List Tree),(∀ u∈T,sig u.k=false)→sig t.k=true→leadT (T ++ t::l)=T.length
 |[],t,l,_,h=>by rw[List.nil_append,leadT,h];rfl
 |u::T,t,l,h,h2=>by
  rw[List.cons_append,leadT,h u zdF,if_neg zdF,zlQ T t l (fun v hv=>h v (by simp [hv])) h2]
  rfl
theorem zko:∀ (T:List Tree) (t:Tree) (l:List Tree),(∀ u∈T,sig u.k=false)→sig t.k=true→headT (T ++ t::l)=t
 |[],t,l,_,h=>by rw[List.nil_append,headT,h];rfl
 |u::T,t,l,h,h2=>by
  rw[List.cons_append,headT,h u zdF,if_neg zdF,zko T t l (fun v hv=>h v (by simp [hv])) h2]
theorem zkc:∀ (l:List Tree),∀ u∈l.take (leadT l),sig u.k=false
 |[],u,h=>by simp at h
 |t::r,u,h=>by
  rw[leadT] at h
  cases hs:sig t.k with
  |true=>rw[hs,if_pos rfl] at h;simp at h
  |false=>
   rw[hs,if_neg zdF,List.take_succ_cons] at h
   rcases List.mem_cons.1 h with h|h
   ·rw[h];exact hs
   ·exact zkc r u h
theorem Pr.le {m:Nat} {s:St} (h:Pr m s):m<s.R.length:=by
 obtain⟨T,t,h1,_⟩:=h
 have:=congrArg List.length h1
 rw[List.length_drop,List.length_append] at this
 simp at this
 omega
theorem Pr.head {m:Nat} {s:St} (h:Pr m s):s.R.getLast? = some (headT (s.R.drop m))∧Wk (headT (s.R.drop m)):=by
 have hle:=h.le
 obtain⟨T,t,h1,h2,h3,h4⟩:=h
 have hh:headT (s.R.drop m)=t:=by rw[h1];exact zko T t [] h2 (zmg h3)
 rw[hh]
 refine⟨?_,h4⟩
 have e:s.R=s.R.take m ++ (T ++ [t]):=by rw[← h1,List.take_append_drop]
 rw[e,← List.append_assoc,List.getLast?_append]
 simp
theorem zwp {z y:Res} {c:Int} (hy:Hid (rFail c z=some y)):∃ a b c,y=.fail a b c:=zgH hy.out
theorem zkE {m k:Int} {z:Res} {t':St} (h:rClose m k z=some (.ok t')):∃ u,z=.ok u∧t'=u.closed (u.mark m) k:=by
 cases z with
 |fail a b c=>cases h
 |ok u=>
  have h:chk (u.close m k)=some (.ok t'):=h
  unfold St.close at h
  split at h
  ·cases zgA h
  ·obtain⟨e,_⟩:=zgg h
   cases e
   exact⟨u,rfl,rfl⟩
theorem zjP (u:St) (m:Nat) (k:Int) (hm:m≤u.R.length):(u.closed (u.mark m) k).R.drop m=(u.R.drop m).take (leadT (u.R.drop m)) ++ [.mk k (fromOf u.here (u.R.drop (u.mark m))) (toOf u.here (u.R.drop (u.mark m))) (u.R.drop (u.mark m))]:=by
 have hmk:u.mark (m:Int)=m+leadT (u.R.drop m):=by
  unfold St.mark
  rw[show clamp (m:Int) u.R.length=m by unfold clamp;omega]
 have hl:=zqV u (m:Int)
 show(u.R.take (u.mark m) ++ _).drop m=_
 rw[List.drop_append,List.length_take,Nat.min_eq_left hl,show m - u.mark (m:Int)=0 by omega,List.drop_zero,List.drop_take,hmk,Nat.add_sub_cancel_left]
theorem zxa {m:Nat} {k:Int} {z:Res} {t':St} (h:rClose m k z=some (.ok t')) (hz:∀ u,z=.ok u→m≤u.R.length) (hk:200≤k) (h1:k≠207) (h2:k≠208):Pr m t':=by
 obtain⟨u,rfl,rfl⟩:=zkE h
 refine⟨_,_,zjP u m k (hz u rfl),zkc _,hk,?_⟩
 rintro(e|e)
 ·exact absurd e h1
 ·exact absurd e h2
theorem zmX {m:Nat} {k:Int} {s:St} {z:Res} {t':St} (hp:Pr m s) (hz:Kp s.R.length s z) (h:rClose m k z=some (.ok t')) (hk:200≤k):Pr m t':=by
 have hle:=hp.le
 obtain⟨u,rfl,rfl⟩:=zkE h
 have hu:=hz u rfl
 obtain⟨T,t,g1,g2,g3,g4⟩:=hp
 have hul:=hu.le
 have hR:u.R=s.R ++ u.R.drop s.R.length:=by
  have:=hu.R
  rw[List.take_length] at this
  have h2:=List.take_append_drop s.R.length u.R
  rw[this] at h2
  exact h2.symm
 have hd:u.R.drop m=T ++ t::u.R.drop s.R.length:=by
  rw[hR,List.drop_append,show m - s.R.length=0 by omega,List.drop_zero,g1]
  rw[List.drop_append_of_le_length zdC]
  simp
 have hlead:leadT (u.R.drop m)=T.length:=by rw[hd];exact zlQ T t _ g2 (zmg g3)
 have hmk:u.mark (m:Int)=m+T.length:=by
  unfold St.mark
  rw[show clamp (m:Int) u.R.length=m by unfold clamp;omega,hlead]
 have hk2:u.R.drop (u.mark (m:Int))=t::u.R.drop s.R.length:=by
  rw[hmk,← List.drop_drop,hd]
  simp
 refine⟨T,.mk k (fromOf u.here (u.R.drop (u.mark m))) (toOf u.here (u.R.drop (u.mark m))) (u.R.drop (u.mark m)),?_,g2,?_,?_⟩
 ·rw[zjP u m k zdC,hlead,hd]
  simp
 ·exact hk
 ·intro _
  refine⟨t,u.R.drop s.R.length,hk2,g3,fun _ e7=>?_⟩
  obtain⟨u2,l2,e1,e2,_⟩:=g4 (.inl e7)
  exact⟨u2,l2,e1,e2⟩
theorem ztk {n:Nat} {s u:St} {y:Res} {q m:Nat} (h0:Kp q s (.ok u)) (hy:run (n+1) (.period m) (.ok u)=some y):(∃ a b c,y=.fail a b c)∨∃ z k,Kp q s z∧Hid (rClose m k z=some y)∧200≤k:=by
 exact zaK
theorem zxc {n:Nat} {s u:St} {y:Res} {q m:Nat} (h0:Kp q s (.ok u)) (hy:run (n+1) (.cut m) (.ok u)=some y):(∃ a b c,y=.fail a b c)∨∃ z k,Kp q s z∧Hid (rClose m k z=some y)∧200≤k:=by
 exact zaK
theorem zwe {n:Nat} {s u:St} {y:Res} {q m:Nat} (h0:Kp q s (.ok u)) (hy:run (n+1) (.call m) (.ok u)=some y):(∃ a b c,y=.fail a b c)∨∃ z k,Kp q s z∧Hid (rClose m k z=some y)∧200≤k:=by
 exact zaK
theorem zrU {n:Nat} {s:St} {t':St} {m:Nat} (hp:Pr m s) (h:(∃ a b c,Res.ok t'=.fail a b c)∨∃ z k,Kp s.R.length s z∧Hid (rClose m k z=some (.ok t'))∧200≤k):Pr m t':=by
 have _:=n
 rcases h with⟨_,_,_,e⟩|⟨z,k,h1,h2,h3⟩
 ·cases e
 ·exact zmX hp h1 h2.out h3
theorem zhs {n:Nat} {p:Pc} {s:St} {y:Res} (h:run n p (.ok s)=some y):∃ m,n=m+1:=by
 cases n with
 |zero=>exact absurd h zeC
 |succ m=>exact⟨m,rfl⟩
theorem zsI {n m:Nat} {s t':St} (hp:Pr m s) (h:run n (.period m) (.ok s)=some (.ok t')):Pr m t':=by
 obtain⟨n,rfl⟩:=zhs h
 exact zrU (n:=n) hp (ztk (Kp.refl (Nat.le_refl _)) h)
theorem zwQ {n m:Nat} {s t':St} (hp:Pr m s) (h:run n (.call m) (.ok s)=some (.ok t')):Pr m t':=by
 obtain⟨n,rfl⟩:=zhs h
 exact zrU (n:=n) hp (zwe (Kp.refl (Nat.le_refl _)) h)
theorem zuD {n m:Nat} {s t':St} (hp:Pr m s) (h:run n (.index m) (.ok s)=some (.ok t')):Pr m t':=by
 obtain⟨n,rfl⟩:=zhs h
 have ih:=zhr n
 have h0:Kp s.R.length s (.ok s):=Kp.refl (Nat.le_refl _)
 rw[run] at h
 try dsimp only at h
 obtain⟨z0,hz0,h⟩:=bind_some h
 have k0:=zgr hz0 h0
 have hcase:∃ z,Kp s.R.length s z∧(if z.kind=65 then run n (.cut m) z else(run n .idxL z >>= fun u=>rExpect 63 u >>= fun v=>rClose m 208 v))=some (.ok t'):=by
  split at h
  ·obtain⟨z,hz,h⟩:=bind_some h
   exact⟨z,zmJ hz k0,h⟩
  ·obtain⟨z,hz,h⟩:=bind_some h
   exact⟨z,zgt ih hz zey k0,h⟩
 obtain⟨z,hK,h⟩:=hcase
 split at h
 ·cases z with
  |fail a b c=>rw[zfB] at h;cases h
  |ok u=>
   obtain⟨n,rfl⟩:=zhs h
   exact zrU (n:=n) hp (zxc hK h)
 ·obtain⟨z1,hz1,h⟩:=bind_some h
  obtain⟨z2,hz2,h⟩:=bind_some h
  exact zmX hp (zgk hz2 (zgt ih hz1 zey hK)) h zdD
theorem zwF {n m:Nat} {s t':St} {z:Res} (hp:Pr m s) (h1:run n .values (.ok s)=some z) (h:rClose m 213 z=some (.ok t')):Pr m t':=
 zmX hp (zgt (zhr n) (Lib.hid h1) zey (Kp.refl (Nat.le_refl _))) h zdD
theorem zie {m k:Int} {s t':St} {z:Res} (h:rClose m k z=some (.ok t')) (hm:m=(s.R.length:Int)) (hz:Kp s.R.length s z) (hk:200≤k) (h1:k≠207) (h2:k≠208):Pr s.R.length t':=by
 subst hm
 exact zxa h (fun u e=>(hz u e).le) hk h1 h2
theorem zpu {n:Nat} {s t':St} (h:run n (.array s.R.length) (.ok s)=some (.ok t')):Pr s.R.length t':=by
 obtain⟨n,rfl⟩:=zhs h
 have ih:=zhr n
 have hq:s.R.length≤s.R.length:=Nat.le_refl _
 have hy:=h
 clear h
 rw[run] at hy
 try dsimp only at hy
 iterate 16 (all_goals try(first|split at hy|(rw[zfu] at hy;obtain⟨z,hz,hy⟩:=hy;try(rw[zfF] at hz;subst hz))))
 all_goals(first|(obtain rfl:=Option.some.inj hy)|(replace hy:=Lib.hid hy))
 all_goals(refine zie hy.out rfl ?_ zdD zdD zdD)
 all_goals exact zaY
theorem zqQ {s t:St} (h:Hid (rDown (.ok s)=some (.ok t))):t.R=s.R∧t.L=s.L∧t.at'=s.at':=by
 have h:=h.out
 have h:chk s.down=some (.ok t):=h
 unfold St.down at h
 split at h
 ·cases zgA h
 ·obtain⟨e,_⟩:=zgg h
  cases e
  exact⟨rfl,rfl,rfl⟩
theorem zru {m:Nat} {z:Res} {t:St} (h:rUp z=some (.ok t)) (hz:∀ u,z=.ok u→Pr m u):Pr m t:=by
 exact zcQ
theorem zwJ {n:Nat} {s t':St} (hk:(Res.ok s).kind=58∨(Res.ok s).kind=83∨(Res.ok s).kind=87∨(Res.ok s).kind=82) (h:run n .type (.ok s)=some (.ok t')):Pr s.R.length t':=by
 obtain⟨n,rfl⟩:=zhs h
 have ih:=zhr n
 have hq:s.R.length≤s.R.length:=Nat.le_refl _
 rw[run] at h
 try dsimp only at h
 obtain⟨y,hy,h⟩:=bind_some h
 cases y with
 |fail a b c=>rw[if_pos (zfv a b c)] at h;cases h
 |ok s1=>
  obtain⟨e1,e2,e3⟩:=zqQ hy
  have hkk:(Res.ok s1).kind=(Res.ok s).kind:=by
   show s1.ahead 0=s.ahead 0
   unfold St.ahead St.next
   rw[e2,e3]
  have h0:Kp s.R.length s (.ok s1):=zli hy (Kp.refl hq)
  rw[if_neg zeA] at h
  rw[← hkk] at hk
  simp only[show(Res.ok s1).len=s.R.length by show s1.R.length=_;rw[e1]] at h
  rcases hk with hk|hk|hk|hk
  all_goals
   simp only[hk,Int.reduceEq,if_true,if_false] at h
  ·obtain⟨u,hu,h⟩:=bind_some h
   refine zru h (fun v hv=>?_)
   subst hv
   have hu:=hu.out
   rw[← e1] at hu ⊢
   exact zpu hu
  ·obtain⟨z1,hz1,h⟩:=bind_some h
   obtain⟨z2,hz2,h⟩:=bind_some h
   obtain⟨z3,hz3,h⟩:=bind_some h
   obtain⟨z4,hz4,h⟩:=bind_some h
   obtain⟨z5,hz5,h⟩:=bind_some h
   obtain⟨z6,hz6,h⟩:=bind_some h
   refine zru h (fun v hv=>?_)
   subst hv
   exact zie hz6.out rfl (zgt ih hz5 zey (zgk hz4 (zgt ih hz3 zey (zgk hz2 (zgr hz1 h0))))) zdD zdD zdD
  ·obtain⟨z1,hz1,h⟩:=bind_some h
   exact zcd
  ·obtain⟨z1,hz1,h⟩:=bind_some h
   exact zcd
theorem zrV {n:Nat} {s t':St} (h:run n .operand (.ok s)=some (.ok t')):Pr s.R.length t':=by
 obtain⟨n,rfl⟩:=zhs h
 have ih:=zhr n
 have hq:s.R.length≤s.R.length:=Nat.le_refl _
 have hy:=h
 clear h
 rw[run] at hy
 try dsimp only at hy
 split at hy
 ·unfold rName at hy
  obtain⟨z,hz,hy⟩:=bind_some hy
  exact zie hy rfl (zgk hz (Kp.refl hq)) zdD zdD zdD
 split at hy
 ·obtain⟨z,hz,hy⟩:=bind_some hy
  exact zie hy rfl (zgr hz (Kp.refl hq)) zdD zdD zdD
 split at hy
 ·obtain⟨z1,hz1,hy⟩:=bind_some hy
  obtain⟨z2,hz2,hy⟩:=bind_some hy
  obtain⟨z3,hz3,hy⟩:=bind_some hy
  exact zie hy rfl (zgk hz3 (zgt ih hz2 zey (zgr hz1 (Kp.refl hq)))) zdD zdD zdD
 split at hy
 ·obtain⟨z1,hz1,hy⟩:=bind_some hy
  obtain⟨z2,hz2,hy⟩:=bind_some hy
  split at hy
  ·obtain⟨z3,hz3,hy⟩:=bind_some hy
   exact zie hy rfl (zgt ih hz3 zey (zgt ih hz2 zey (zgr hz1 (Kp.refl hq)))) zdD zdD zdD
  ·exact zie hy rfl (zgt ih hz2 zey (zgr hz1 (Kp.refl hq))) zdD zdD zdD
 split at hy
 ·rename_i hk
  exact zwJ hk hy
 ·obtain⟨_,_,_,e⟩:=zgH hy
  cases e
end Go.Proofs.YtcekbbkidipbnaaGreat.rd
