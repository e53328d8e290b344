/-
  Texts put together: Ia.
-/
import Derived.Test.YtcekbbkidipbnaaGreatL6
set_option maxRecDepth 100000
set_option maxHeartbeats 8000000
namespace Go.Proofs.YtcekbbkidipbnaaGreat.rd
open Go.RowKit
theorem below_cells {w:World} {g:Nat} {j:Nat} {v:Value} (h:w.cell? ⟨g,j,none⟩=some v) {u:World} (hu:Below w.heap.size w u):u.cell? ⟨g,j,none⟩=some v:=(hu.cell (p:=⟨g,j,none⟩) (World.block_lt_of_cell? _ _ h)).trans h
theorem ctakes_220 {W:World} {b gR q len cap:Nat} {i j:Int} {o:Option Addr} {n c:Nat}  (hl:len≤1099511627776) (hql:q+1=len) (hd:Bool)  (hcells:W.cell? ⟨b,4,none⟩=some (.slice (some ⟨gR,0,none⟩) len cap)∧W.cell? ⟨gR,q*5,none⟩=some (.int .i64 220)∧W.cell? ⟨gR,q*5+1,none⟩=some (.int .i64 i)∧W.cell? ⟨gR,q*5+2,none⟩=some (.int .i64 j)∧W.cell? ⟨gR,q*5+3,none⟩=some (.slice o n c)) :
  Calls Tryz.prog 157 #[.pointer (some ⟨b,0,none⟩),.bool hd] W fun e w'=>e=.returned (.bool (true))∧Below W.heap.size W w':=by
 have hq0:(0:Int)≤(q:Int):=by omega
 have hq1:(q:Int)<(len:Int):=by omega
 have hqn:q<len:=by omega
 have hw:IntKind.i64.wrap ((len:Int) - 1)=(q:Int):=by rw[IntWalk.i64_in _ (by omega)];omega
 clear hql
 have HS:Hid (∀ u,Below W.heap.size W u→u.cell? ⟨b,4,none⟩=some (.slice (some ⟨gR,0,none⟩) len cap)∧u.cell? ⟨gR,q*5,none⟩=some (.int .i64 220)∧u.cell? ⟨gR,q*5+1,none⟩=some (.int .i64 i)∧u.cell? ⟨gR,q*5+2,none⟩=some (.int .i64 j)∧u.cell? ⟨gR,q*5+3,none⟩=some (.slice o n c)):=Lib.hid (fun u hu=>by
  obtain⟨e0,e1,e2,e3,e4⟩:=hcells
  exact⟨below_cells e0 hu,below_cells e1 hu,below_cells e2 hu,below_cells e3 hu,below_cells e4 hu⟩)
 obtain⟨e0,e1,e2,e3,e4⟩:=hcells
 go_enter Tryz.func157,Tryz.ntmps157
 go_wp2_with fail
 go_region_held3 (fun W'=>W'.cell? ⟨b,4,none⟩=some (.slice (some ⟨gR,0,none⟩) len cap)∧W'.cell? ⟨gR,q*5,none⟩=some (.int .i64 220)∧W'.cell? ⟨gR,q*5+1,none⟩=some (.int .i64 i)∧W'.cell? ⟨gR,q*5+2,none⟩=some (.int .i64 j)∧W'.cell? ⟨gR,q*5+3,none⟩=some (.slice o n c))
  (first|exact HS.out _ (Below.refl _ _).drew|exact HS.out _ ((Below.refl _ _).drew.alloc (Nat.le_refl _) _)|exact HS.out _ ((Below.refl _ _).alloc (Nat.le_refl _) _).drew)
  (fail)
 all_goals(try go_wp2_with fail)
 all_goals(first|go_ret|go_ret2)
 all_goals exact⟨rfl,(Below.refl _ _).drew.alloc (Nat.le_refl _) _⟩
theorem ctakes_221 {W:World} {b gR q len cap:Nat} {i j:Int} {o:Option Addr} {n c:Nat}  (hl:len≤1099511627776) (hql:q+1=len) (hd:Bool)  (hcells:W.cell? ⟨b,4,none⟩=some (.slice (some ⟨gR,0,none⟩) len cap)∧W.cell? ⟨gR,q*5,none⟩=some (.int .i64 221)∧W.cell? ⟨gR,q*5+1,none⟩=some (.int .i64 i)∧W.cell? ⟨gR,q*5+2,none⟩=some (.int .i64 j)∧W.cell? ⟨gR,q*5+3,none⟩=some (.slice o n c)) :
  Calls Tryz.prog 157 #[.pointer (some ⟨b,0,none⟩),.bool hd] W fun e w'=>e=.returned (.bool (true))∧Below W.heap.size W w':=by
 have hq0:(0:Int)≤(q:Int):=by omega
 have hq1:(q:Int)<(len:Int):=by omega
 have hqn:q<len:=by omega
 have hw:IntKind.i64.wrap ((len:Int) - 1)=(q:Int):=by rw[IntWalk.i64_in _ (by omega)];omega
 clear hql
 have HS:Hid (∀ u,Below W.heap.size W u→u.cell? ⟨b,4,none⟩=some (.slice (some ⟨gR,0,none⟩) len cap)∧u.cell? ⟨gR,q*5,none⟩=some (.int .i64 221)∧u.cell? ⟨gR,q*5+1,none⟩=some (.int .i64 i)∧u.cell? ⟨gR,q*5+2,none⟩=some (.int .i64 j)∧u.cell? ⟨gR,q*5+3,none⟩=some (.slice o n c)):=Lib.hid (fun u hu=>by
  obtain⟨e0,e1,e2,e3,e4⟩:=hcells
  exact⟨below_cells e0 hu,below_cells e1 hu,below_cells e2 hu,below_cells e3 hu,below_cells e4 hu⟩)
 obtain⟨e0,e1,e2,e3,e4⟩:=hcells
 go_enter Tryz.func157,Tryz.ntmps157
 go_wp2_with fail
 go_region_held3 (fun W'=>W'.cell? ⟨b,4,none⟩=some (.slice (some ⟨gR,0,none⟩) len cap)∧W'.cell? ⟨gR,q*5,none⟩=some (.int .i64 221)∧W'.cell? ⟨gR,q*5+1,none⟩=some (.int .i64 i)∧W'.cell? ⟨gR,q*5+2,none⟩=some (.int .i64 j)∧W'.cell? ⟨gR,q*5+3,none⟩=some (.slice o n c))
  (first|exact HS.out _ (Below.refl _ _).drew|exact HS.out _ ((Below.refl _ _).drew.alloc (Nat.le_refl _) _)|exact HS.out _ ((Below.refl _ _).alloc (Nat.le_refl _) _).drew)
  (fail)
 all_goals(try go_wp2_with fail)
 all_goals(first|go_ret|go_ret2)
 all_goals exact⟨rfl,(Below.refl _ _).drew.alloc (Nat.le_refl _) _⟩
theorem ctakes_222 {W:World} {b gR q len cap:Nat} {i j:Int} {o:Option Addr} {n c:Nat}  (hl:len≤1099511627776) (hql:q+1=len) (hd:Bool)  (hcells:W.cell? ⟨b,4,none⟩=some (.slice (some ⟨gR,0,none⟩) len cap)∧W.cell? ⟨gR,q*5,none⟩=some (.int .i64 222)∧W.cell? ⟨gR,q*5+1,none⟩=some (.int .i64 i)∧W.cell? ⟨gR,q*5+2,none⟩=some (.int .i64 j)∧W.cell? ⟨gR,q*5+3,none⟩=some (.slice o n c)) :
  Calls Tryz.prog 157 #[.pointer (some ⟨b,0,none⟩),.bool hd] W fun e w'=>e=.returned (.bool (true))∧Below W.heap.size W w':=by
 have hq0:(0:Int)≤(q:Int):=by omega
 have hq1:(q:Int)<(len:Int):=by omega
 have hqn:q<len:=by omega
 have hw:IntKind.i64.wrap ((len:Int) - 1)=(q:Int):=by rw[IntWalk.i64_in _ (by omega)];omega
 clear hql
 have HS:Hid (∀ u,Below W.heap.size W u→u.cell? ⟨b,4,none⟩=some (.slice (some ⟨gR,0,none⟩) len cap)∧u.cell? ⟨gR,q*5,none⟩=some (.int .i64 222)∧u.cell? ⟨gR,q*5+1,none⟩=some (.int .i64 i)∧u.cell? ⟨gR,q*5+2,none⟩=some (.int .i64 j)∧u.cell? ⟨gR,q*5+3,none⟩=some (.slice o n c)):=Lib.hid (fun u hu=>by
  obtain⟨e0,e1,e2,e3,e4⟩:=hcells
  exact⟨below_cells e0 hu,below_cells e1 hu,below_cells e2 hu,below_cells e3 hu,below_cells e4 hu⟩)
 obtain⟨e0,e1,e2,e3,e4⟩:=hcells
 go_enter Tryz.func157,Tryz.ntmps157
 go_wp2_with fail
 go_region_held3 (fun W'=>W'.cell? ⟨b,4,none⟩=some (.slice (some ⟨gR,0,none⟩) len cap)∧W'.cell? ⟨gR,q*5,none⟩=some (.int .i64 222)∧W'.cell? ⟨gR,q*5+1,none⟩=some (.int .i64 i)∧W'.cell? ⟨gR,q*5+2,none⟩=some (.int .i64 j)∧W'.cell? ⟨gR,q*5+3,none⟩=some (.slice o n c))
  (first|exact HS.out _ (Below.refl _ _).drew|exact HS.out _ ((Below.refl _ _).drew.alloc (Nat.le_refl _) _)|exact HS.out _ ((Below.refl _ _).alloc (Nat.le_refl _) _).drew)
  (fail)
 all_goals(try go_wp2_with fail)
 all_goals(first|go_ret|go_ret2)
 all_goals exact⟨rfl,(Below.refl _ _).drew.alloc (Nat.le_refl _) _⟩
theorem ctakes_224 {W:World} {b gR q len cap:Nat} {i j:Int} {o:Option Addr} {n c:Nat}  (hl:len≤1099511627776) (hql:q+1=len) (hd:Bool)  (hcells:W.cell? ⟨b,4,none⟩=some (.slice (some ⟨gR,0,none⟩) len cap)∧W.cell? ⟨gR,q*5,none⟩=some (.int .i64 224)∧W.cell? ⟨gR,q*5+1,none⟩=some (.int .i64 i)∧W.cell? ⟨gR,q*5+2,none⟩=some (.int .i64 j)∧W.cell? ⟨gR,q*5+3,none⟩=some (.slice o n c)) :
  Calls Tryz.prog 157 #[.pointer (some ⟨b,0,none⟩),.bool hd] W fun e w'=>e=.returned (.bool (true))∧Below W.heap.size W w':=by
 have hq0:(0:Int)≤(q:Int):=by omega
 have hq1:(q:Int)<(len:Int):=by omega
 have hqn:q<len:=by omega
 have hw:IntKind.i64.wrap ((len:Int) - 1)=(q:Int):=by rw[IntWalk.i64_in _ (by omega)];omega
 clear hql
 have HS:Hid (∀ u,Below W.heap.size W u→u.cell? ⟨b,4,none⟩=some (.slice (some ⟨gR,0,none⟩) len cap)∧u.cell? ⟨gR,q*5,none⟩=some (.int .i64 224)∧u.cell? ⟨gR,q*5+1,none⟩=some (.int .i64 i)∧u.cell? ⟨gR,q*5+2,none⟩=some (.int .i64 j)∧u.cell? ⟨gR,q*5+3,none⟩=some (.slice o n c)):=Lib.hid (fun u hu=>by
  obtain⟨e0,e1,e2,e3,e4⟩:=hcells
  exact⟨below_cells e0 hu,below_cells e1 hu,below_cells e2 hu,below_cells e3 hu,below_cells e4 hu⟩)
 obtain⟨e0,e1,e2,e3,e4⟩:=hcells
 go_enter Tryz.func157,Tryz.ntmps157
 go_wp2_with fail
 go_region_held3 (fun W'=>W'.cell? ⟨b,4,none⟩=some (.slice (some ⟨gR,0,none⟩) len cap)∧W'.cell? ⟨gR,q*5,none⟩=some (.int .i64 224)∧W'.cell? ⟨gR,q*5+1,none⟩=some (.int .i64 i)∧W'.cell? ⟨gR,q*5+2,none⟩=some (.int .i64 j)∧W'.cell? ⟨gR,q*5+3,none⟩=some (.slice o n c))
  (first|exact HS.out _ (Below.refl _ _).drew|exact HS.out _ ((Below.refl _ _).drew.alloc (Nat.le_refl _) _)|exact HS.out _ ((Below.refl _ _).alloc (Nat.le_refl _) _).drew)
  (fail)
 all_goals(try go_wp2_with fail)
 all_goals(first|go_ret|go_ret2)
 all_goals exact⟨rfl,(Below.refl _ _).drew.alloc (Nat.le_refl _) _⟩
theorem ctakes_201 {W:World} {b gR q len cap:Nat} {i j:Int} {o:Option Addr} {n c:Nat}  (hl:len≤1099511627776) (hql:q+1=len) (hd:Bool)  (hcells:W.cell? ⟨b,4,none⟩=some (.slice (some ⟨gR,0,none⟩) len cap)∧W.cell? ⟨gR,q*5,none⟩=some (.int .i64 201)∧W.cell? ⟨gR,q*5+1,none⟩=some (.int .i64 i)∧W.cell? ⟨gR,q*5+2,none⟩=some (.int .i64 j)∧W.cell? ⟨gR,q*5+3,none⟩=some (.slice o n c)) :
  Calls Tryz.prog 157 #[.pointer (some ⟨b,0,none⟩),.bool hd] W fun e w'=>e=.returned (.bool (!hd))∧Below W.heap.size W w':=by
 have hq0:(0:Int)≤(q:Int):=by omega
 have hq1:(q:Int)<(len:Int):=by omega
 have hqn:q<len:=by omega
 have hw:IntKind.i64.wrap ((len:Int) - 1)=(q:Int):=by rw[IntWalk.i64_in _ (by omega)];omega
 clear hql
 have HS:Hid (∀ u,Below W.heap.size W u→u.cell? ⟨b,4,none⟩=some (.slice (some ⟨gR,0,none⟩) len cap)∧u.cell? ⟨gR,q*5,none⟩=some (.int .i64 201)∧u.cell? ⟨gR,q*5+1,none⟩=some (.int .i64 i)∧u.cell? ⟨gR,q*5+2,none⟩=some (.int .i64 j)∧u.cell? ⟨gR,q*5+3,none⟩=some (.slice o n c)):=Lib.hid (fun u hu=>by
  obtain⟨e0,e1,e2,e3,e4⟩:=hcells
  exact⟨below_cells e0 hu,below_cells e1 hu,below_cells e2 hu,below_cells e3 hu,below_cells e4 hu⟩)
 obtain⟨e0,e1,e2,e3,e4⟩:=hcells
 go_enter Tryz.func157,Tryz.ntmps157
 go_wp2_with fail
 go_region_held3 (fun W'=>W'.cell? ⟨b,4,none⟩=some (.slice (some ⟨gR,0,none⟩) len cap)∧W'.cell? ⟨gR,q*5,none⟩=some (.int .i64 201)∧W'.cell? ⟨gR,q*5+1,none⟩=some (.int .i64 i)∧W'.cell? ⟨gR,q*5+2,none⟩=some (.int .i64 j)∧W'.cell? ⟨gR,q*5+3,none⟩=some (.slice o n c))
  (first|exact HS.out _ (Below.refl _ _).drew|exact HS.out _ ((Below.refl _ _).drew.alloc (Nat.le_refl _) _)|exact HS.out _ ((Below.refl _ _).alloc (Nat.le_refl _) _).drew)
  (fail)
 all_goals(try go_wp2_with fail)
 all_goals(first|go_ret|go_ret2)
 all_goals exact⟨rfl,(Below.refl _ _).drew.alloc (Nat.le_refl _) _⟩
theorem ctakes_no {W:World} {b gR q len cap:Nat} {k i j:Int} {o:Option Addr} {n c:Nat}  (hl:len≤1099511627776) (hql:q+1=len) (hd:Bool) (nk220:(k == 220)=false) (nk221:(k == 221)=false) (nk222:(k == 222)=false) (nk224:(k == 224)=false) (nk208:(k == 208)=false) (nk207:(k == 207)=false) (nk201:(k == 201)=false) (hcells:W.cell? ⟨b,4,none⟩=some (.slice (some ⟨gR,0,none⟩) len cap)∧W.cell? ⟨gR,q*5,none⟩=some (.int .i64 k)∧W.cell? ⟨gR,q*5+1,none⟩=some (.int .i64 i)∧W.cell? ⟨gR,q*5+2,none⟩=some (.int .i64 j)∧W.cell? ⟨gR,q*5+3,none⟩=some (.slice o n c)) :
  Calls Tryz.prog 157 #[.pointer (some ⟨b,0,none⟩),.bool hd] W fun e w'=>e=.returned (.bool (false))∧Below W.heap.size W w':=by
 have hq0:(0:Int)≤(q:Int):=by omega
 have hq1:(q:Int)<(len:Int):=by omega
 have hqn:q<len:=by omega
 have hw:IntKind.i64.wrap ((len:Int) - 1)=(q:Int):=by rw[IntWalk.i64_in _ (by omega)];omega
 clear hql
 have HS:Hid (∀ u,Below W.heap.size W u→u.cell? ⟨b,4,none⟩=some (.slice (some ⟨gR,0,none⟩) len cap)∧u.cell? ⟨gR,q*5,none⟩=some (.int .i64 k)∧u.cell? ⟨gR,q*5+1,none⟩=some (.int .i64 i)∧u.cell? ⟨gR,q*5+2,none⟩=some (.int .i64 j)∧u.cell? ⟨gR,q*5+3,none⟩=some (.slice o n c)):=Lib.hid (fun u hu=>by
  obtain⟨e0,e1,e2,e3,e4⟩:=hcells
  exact⟨below_cells e0 hu,below_cells e1 hu,below_cells e2 hu,below_cells e3 hu,below_cells e4 hu⟩)
 obtain⟨e0,e1,e2,e3,e4⟩:=hcells
 go_enter Tryz.func157,Tryz.ntmps157
 go_wp2_with fail
 go_region_held3 (fun W'=>W'.cell? ⟨b,4,none⟩=some (.slice (some ⟨gR,0,none⟩) len cap)∧W'.cell? ⟨gR,q*5,none⟩=some (.int .i64 k)∧W'.cell? ⟨gR,q*5+1,none⟩=some (.int .i64 i)∧W'.cell? ⟨gR,q*5+2,none⟩=some (.int .i64 j)∧W'.cell? ⟨gR,q*5+3,none⟩=some (.slice o n c))
  (first|exact HS.out _ (Below.refl _ _).drew|exact HS.out _ ((Below.refl _ _).drew.alloc (Nat.le_refl _) _)|exact HS.out _ ((Below.refl _ _).alloc (Nat.le_refl _) _).drew)
  (fail)
 all_goals(try go_wp2_with fail)
 all_goals(first|go_ret|go_ret2)
 all_goals exact⟨rfl,(Below.refl _ _).drew.alloc (Nat.le_refl _) _⟩
theorem ctakes_207 {W:World} {b gR q len cap:Nat} {i j:Int} {n c:Nat} {g1 o1 c1 n1:Nat} {i1 j1:Int} {p1:Option Addr} (hl:len≤1099511627776) (hql:q+1=len) (hd:Bool) (hn:0<n) (hg1:g1<W.heap.size)  (hcells:W.cell? ⟨b,4,none⟩=some (.slice (some ⟨gR,0,none⟩) len cap)∧W.cell? ⟨gR,q*5,none⟩=some (.int .i64 207)∧W.cell? ⟨gR,q*5+1,none⟩=some (.int .i64 i)∧W.cell? ⟨gR,q*5+2,none⟩=some (.int .i64 j)∧W.cell? ⟨gR,q*5+3,none⟩=some (.slice (some ⟨g1,o1,none⟩) n c)∧W.cell? ⟨g1,o1,none⟩=some (.int .i64 201)∧W.cell? ⟨g1,o1+1,none⟩=some (.int .i64 i1)∧W.cell? ⟨g1,o1+2,none⟩=some (.int .i64 j1)∧W.cell? ⟨g1,o1+3,none⟩=some (.slice p1 n1 c1)) :
  Calls Tryz.prog 157 #[.pointer (some ⟨b,0,none⟩),.bool hd] W fun e w'=>e=.returned (.bool (!hd))∧Below W.heap.size W w':=by
 have hq0:(0:Int)≤(q:Int):=by omega
 have hq1:(q:Int)<(len:Int):=by omega
 have hqn:q<len:=by omega
 have hw:IntKind.i64.wrap ((len:Int) - 1)=(q:Int):=by rw[IntWalk.i64_in _ (by omega)];omega
 clear hql
 have HS:Hid (∀ u,Below W.heap.size W u→u.cell? ⟨b,4,none⟩=some (.slice (some ⟨gR,0,none⟩) len cap)∧u.cell? ⟨gR,q*5,none⟩=some (.int .i64 207)∧u.cell? ⟨gR,q*5+1,none⟩=some (.int .i64 i)∧u.cell? ⟨gR,q*5+2,none⟩=some (.int .i64 j)∧u.cell? ⟨gR,q*5+3,none⟩=some (.slice (some ⟨g1,o1,none⟩) n c)∧u.cell? ⟨g1,o1,none⟩=some (.int .i64 201)∧u.cell? ⟨g1,o1+1,none⟩=some (.int .i64 i1)∧u.cell? ⟨g1,o1+2,none⟩=some (.int .i64 j1)∧u.cell? ⟨g1,o1+3,none⟩=some (.slice p1 n1 c1)):=Lib.hid (fun u hu=>by
  obtain⟨e0,e1,e2,e3,e4,e5,e6,e7,e8⟩:=hcells
  exact⟨below_cells e0 hu,below_cells e1 hu,below_cells e2 hu,below_cells e3 hu,below_cells e4 hu,below_cells e5 hu,below_cells e6 hu,below_cells e7 hu,below_cells e8 hu⟩)
 obtain⟨e0,e1,e2,e3,e4,e5,e6,e7,e8⟩:=hcells
 have hm1:(W.heap.size == g1)=false:=beq_eq_false_iff_ne.2 (by omega)
 have hm2:(g1 == W.heap.size)=false:=beq_eq_false_iff_ne.2 (by omega)
 go_enter Tryz.func157,Tryz.ntmps157
 go_wp2_with fail
 go_region_held3 (fun W'=>W'.cell? ⟨b,4,none⟩=some (.slice (some ⟨gR,0,none⟩) len cap)∧W'.cell? ⟨gR,q*5,none⟩=some (.int .i64 207)∧W'.cell? ⟨gR,q*5+1,none⟩=some (.int .i64 i)∧W'.cell? ⟨gR,q*5+2,none⟩=some (.int .i64 j)∧W'.cell? ⟨gR,q*5+3,none⟩=some (.slice (some ⟨g1,o1,none⟩) n c)∧W'.cell? ⟨g1,o1,none⟩=some (.int .i64 201)∧W'.cell? ⟨g1,o1+1,none⟩=some (.int .i64 i1)∧W'.cell? ⟨g1,o1+2,none⟩=some (.int .i64 j1)∧W'.cell? ⟨g1,o1+3,none⟩=some (.slice p1 n1 c1))
  (first|exact HS.out _ (Below.refl _ _).drew|exact HS.out _ ((Below.refl _ _).drew.alloc (Nat.le_refl _) _)|exact HS.out _ ((Below.refl _ _).alloc (Nat.le_refl _) _).drew)
  (fail)
 all_goals(try go_wp2_with fail)
 all_goals(first|go_ret|go_ret2)
 all_goals exact⟨rfl,((Below.refl _ _).alloc (Nat.le_refl _) _).drew⟩
theorem ctakes_207n {W:World} {b gR q len cap:Nat} {i j:Int} {n c:Nat} {g1 o1 c1 n1:Nat} {i1 j1:Int} {p1:Option Addr} {k1:Int} (hl:len≤1099511627776) (hql:q+1=len) (hd:Bool) (hn:0<n) (hg1:g1<W.heap.size) (nk1201:(k1 == 201)=false) (hcells:W.cell? ⟨b,4,none⟩=some (.slice (some ⟨gR,0,none⟩) len cap)∧W.cell? ⟨gR,q*5,none⟩=some (.int .i64 207)∧W.cell? ⟨gR,q*5+1,none⟩=some (.int .i64 i)∧W.cell? ⟨gR,q*5+2,none⟩=some (.int .i64 j)∧W.cell? ⟨gR,q*5+3,none⟩=some (.slice (some ⟨g1,o1,none⟩) n c)∧W.cell? ⟨g1,o1,none⟩=some (.int .i64 k1)∧W.cell? ⟨g1,o1+1,none⟩=some (.int .i64 i1)∧W.cell? ⟨g1,o1+2,none⟩=some (.int .i64 j1)∧W.cell? ⟨g1,o1+3,none⟩=some (.slice p1 n1 c1)) :
  Calls Tryz.prog 157 #[.pointer (some ⟨b,0,none⟩),.bool hd] W fun e w'=>e=.returned (.bool (false))∧Below W.heap.size W w':=by
 have hq0:(0:Int)≤(q:Int):=by omega
 have hq1:(q:Int)<(len:Int):=by omega
 have hqn:q<len:=by omega
 have hw:IntKind.i64.wrap ((len:Int) - 1)=(q:Int):=by rw[IntWalk.i64_in _ (by omega)];omega
 clear hql
 have HS:Hid (∀ u,Below W.heap.size W u→u.cell? ⟨b,4,none⟩=some (.slice (some ⟨gR,0,none⟩) len cap)∧u.cell? ⟨gR,q*5,none⟩=some (.int .i64 207)∧u.cell? ⟨gR,q*5+1,none⟩=some (.int .i64 i)∧u.cell? ⟨gR,q*5+2,none⟩=some (.int .i64 j)∧u.cell? ⟨gR,q*5+3,none⟩=some (.slice (some ⟨g1,o1,none⟩) n c)∧u.cell? ⟨g1,o1,none⟩=some (.int .i64 k1)∧u.cell? ⟨g1,o1+1,none⟩=some (.int .i64 i1)∧u.cell? ⟨g1,o1+2,none⟩=some (.int .i64 j1)∧u.cell? ⟨g1,o1+3,none⟩=some (.slice p1 n1 c1)):=Lib.hid (fun u hu=>by
  obtain⟨e0,e1,e2,e3,e4,e5,e6,e7,e8⟩:=hcells
  exact⟨below_cells e0 hu,below_cells e1 hu,below_cells e2 hu,below_cells e3 hu,below_cells e4 hu,below_cells e5 hu,below_cells e6 hu,below_cells e7 hu,below_cells e8 hu⟩)
 obtain⟨e0,e1,e2,e3,e4,e5,e6,e7,e8⟩:=hcells
 have hm1:(W.heap.size == g1)=false:=beq_eq_false_iff_ne.2 (by omega)
 have hm2:(g1 == W.heap.size)=false:=beq_eq_false_iff_ne.2 (by omega)
 go_enter Tryz.func157,Tryz.ntmps157
 go_wp2_with fail
 go_region_held3 (fun W'=>W'.cell? ⟨b,4,none⟩=some (.slice (some ⟨gR,0,none⟩) len cap)∧W'.cell? ⟨gR,q*5,none⟩=some (.int .i64 207)∧W'.cell? ⟨gR,q*5+1,none⟩=some (.int .i64 i)∧W'.cell? ⟨gR,q*5+2,none⟩=some (.int .i64 j)∧W'.cell? ⟨gR,q*5+3,none⟩=some (.slice (some ⟨g1,o1,none⟩) n c)∧W'.cell? ⟨g1,o1,none⟩=some (.int .i64 k1)∧W'.cell? ⟨g1,o1+1,none⟩=some (.int .i64 i1)∧W'.cell? ⟨g1,o1+2,none⟩=some (.int .i64 j1)∧W'.cell? ⟨g1,o1+3,none⟩=some (.slice p1 n1 c1))
  (first|exact HS.out _ (Below.refl _ _).drew|exact HS.out _ ((Below.refl _ _).drew.alloc (Nat.le_refl _) _)|exact HS.out _ ((Below.refl _ _).alloc (Nat.le_refl _) _).drew)
  (fail)
 all_goals(try go_wp2_with fail)
 all_goals(first|go_ret|go_ret2)
 all_goals exact⟨rfl,((Below.refl _ _).alloc (Nat.le_refl _) _).drew⟩
theorem ctakes_208 {W:World} {b gR q len cap:Nat} {i j:Int} {n c:Nat} {g1 o1 c1 n1:Nat} {i1 j1:Int} {p1:Option Addr} (hl:len≤1099511627776) (hql:q+1=len) (hd:Bool) (hn:0<n) (hg1:g1<W.heap.size)  (hcells:W.cell? ⟨b,4,none⟩=some (.slice (some ⟨gR,0,none⟩) len cap)∧W.cell? ⟨gR,q*5,none⟩=some (.int .i64 208)∧W.cell? ⟨gR,q*5+1,none⟩=some (.int .i64 i)∧W.cell? ⟨gR,q*5+2,none⟩=some (.int .i64 j)∧W.cell? ⟨gR,q*5+3,none⟩=some (.slice (some ⟨g1,o1,none⟩) n c)∧W.cell? ⟨g1,o1,none⟩=some (.int .i64 201)∧W.cell? ⟨g1,o1+1,none⟩=some (.int .i64 i1)∧W.cell? ⟨g1,o1+2,none⟩=some (.int .i64 j1)∧W.cell? ⟨g1,o1+3,none⟩=some (.slice p1 n1 c1)) :
  Calls Tryz.prog 157 #[.pointer (some ⟨b,0,none⟩),.bool hd] W fun e w'=>e=.returned (.bool (!hd))∧Below W.heap.size W w':=by
 have hq0:(0:Int)≤(q:Int):=by omega
 have hq1:(q:Int)<(len:Int):=by omega
 have hqn:q<len:=by omega
 have hw:IntKind.i64.wrap ((len:Int) - 1)=(q:Int):=by rw[IntWalk.i64_in _ (by omega)];omega
 clear hql
 have HS:Hid (∀ u,Below W.heap.size W u→u.cell? ⟨b,4,none⟩=some (.slice (some ⟨gR,0,none⟩) len cap)∧u.cell? ⟨gR,q*5,none⟩=some (.int .i64 208)∧u.cell? ⟨gR,q*5+1,none⟩=some (.int .i64 i)∧u.cell? ⟨gR,q*5+2,none⟩=some (.int .i64 j)∧u.cell? ⟨gR,q*5+3,none⟩=some (.slice (some ⟨g1,o1,none⟩) n c)∧u.cell? ⟨g1,o1,none⟩=some (.int .i64 201)∧u.cell? ⟨g1,o1+1,none⟩=some (.int .i64 i1)∧u.cell? ⟨g1,o1+2,none⟩=some (.int .i64 j1)∧u.cell? ⟨g1,o1+3,none⟩=some (.slice p1 n1 c1)):=Lib.hid (fun u hu=>by
  obtain⟨e0,e1,e2,e3,e4,e5,e6,e7,e8⟩:=hcells
  exact⟨below_cells e0 hu,below_cells e1 hu,below_cells e2 hu,below_cells e3 hu,below_cells e4 hu,below_cells e5 hu,below_cells e6 hu,below_cells e7 hu,below_cells e8 hu⟩)
 obtain⟨e0,e1,e2,e3,e4,e5,e6,e7,e8⟩:=hcells
 have hm1:(W.heap.size == g1)=false:=beq_eq_false_iff_ne.2 (by omega)
 have hm2:(g1 == W.heap.size)=false:=beq_eq_false_iff_ne.2 (by omega)
 go_enter Tryz.func157,Tryz.ntmps157
 go_wp2_with fail
 go_region_held3 (fun W'=>W'.cell? ⟨b,4,none⟩=some (.slice (some ⟨gR,0,none⟩) len cap)∧W'.cell? ⟨gR,q*5,none⟩=some (.int .i64 208)∧W'.cell? ⟨gR,q*5+1,none⟩=some (.int .i64 i)∧W'.cell? ⟨gR,q*5+2,none⟩=some (.int .i64 j)∧W'.cell? ⟨gR,q*5+3,none⟩=some (.slice (some ⟨g1,o1,none⟩) n c)∧W'.cell? ⟨g1,o1,none⟩=some (.int .i64 201)∧W'.cell? ⟨g1,o1+1,none⟩=some (.int .i64 i1)∧W'.cell? ⟨g1,o1+2,none⟩=some (.int .i64 j1)∧W'.cell? ⟨g1,o1+3,none⟩=some (.slice p1 n1 c1))
  (first|exact HS.out _ (Below.refl _ _).drew|exact HS.out _ ((Below.refl _ _).drew.alloc (Nat.le_refl _) _)|exact HS.out _ ((Below.refl _ _).alloc (Nat.le_refl _) _).drew)
  (fail)
 all_goals(try go_wp2_with fail)
 all_goals(first|go_ret|go_ret2)
 all_goals exact⟨rfl,((Below.refl _ _).alloc (Nat.le_refl _) _).drew⟩
theorem ctakes_208n {W:World} {b gR q len cap:Nat} {i j:Int} {n c:Nat} {g1 o1 c1 n1:Nat} {i1 j1:Int} {p1:Option Addr} {k1:Int} (hl:len≤1099511627776) (hql:q+1=len) (hd:Bool) (hn:0<n) (hg1:g1<W.heap.size) (nk1201:(k1 == 201)=false) (nk1207:(k1 == 207)=false) (hcells:W.cell? ⟨b,4,none⟩=some (.slice (some ⟨gR,0,none⟩) len cap)∧W.cell? ⟨gR,q*5,none⟩=some (.int .i64 208)∧W.cell? ⟨gR,q*5+1,none⟩=some (.int .i64 i)∧W.cell? ⟨gR,q*5+2,none⟩=some (.int .i64 j)∧W.cell? ⟨gR,q*5+3,none⟩=some (.slice (some ⟨g1,o1,none⟩) n c)∧W.cell? ⟨g1,o1,none⟩=some (.int .i64 k1)∧W.cell? ⟨g1,o1+1,none⟩=some (.int .i64 i1)∧W.cell? ⟨g1,o1+2,none⟩=some (.int .i64 j1)∧W.cell? ⟨g1,o1+3,none⟩=some (.slice p1 n1 c1)) :
  Calls Tryz.prog 157 #[.pointer (some ⟨b,0,none⟩),.bool hd] W fun e w'=>e=.returned (.bool (false))∧Below W.heap.size W w':=by
 have hq0:(0:Int)≤(q:Int):=by omega
 have hq1:(q:Int)<(len:Int):=by omega
 have hqn:q<len:=by omega
 have hw:IntKind.i64.wrap ((len:Int) - 1)=(q:Int):=by rw[IntWalk.i64_in _ (by omega)];omega
 clear hql
 have HS:Hid (∀ u,Below W.heap.size W u→u.cell? ⟨b,4,none⟩=some (.slice (some ⟨gR,0,none⟩) len cap)∧u.cell? ⟨gR,q*5,none⟩=some (.int .i64 208)∧u.cell? ⟨gR,q*5+1,none⟩=some (.int .i64 i)∧u.cell? ⟨gR,q*5+2,none⟩=some (.int .i64 j)∧u.cell? ⟨gR,q*5+3,none⟩=some (.slice (some ⟨g1,o1,none⟩) n c)∧u.cell? ⟨g1,o1,none⟩=some (.int .i64 k1)∧u.cell? ⟨g1,o1+1,none⟩=some (.int .i64 i1)∧u.cell? ⟨g1,o1+2,none⟩=some (.int .i64 j1)∧u.cell? ⟨g1,o1+3,none⟩=some (.slice p1 n1 c1)):=Lib.hid (fun u hu=>by
  obtain⟨e0,e1,e2,e3,e4,e5,e6,e7,e8⟩:=hcells
  exact⟨below_cells e0 hu,below_cells e1 hu,below_cells e2 hu,below_cells e3 hu,below_cells e4 hu,below_cells e5 hu,below_cells e6 hu,below_cells e7 hu,below_cells e8 hu⟩)
 obtain⟨e0,e1,e2,e3,e4,e5,e6,e7,e8⟩:=hcells
 have hm1:(W.heap.size == g1)=false:=beq_eq_false_iff_ne.2 (by omega)
 have hm2:(g1 == W.heap.size)=false:=beq_eq_false_iff_ne.2 (by omega)
 go_enter Tryz.func157,Tryz.ntmps157
 go_wp2_with fail
 go_region_held3 (fun W'=>W'.cell? ⟨b,4,none⟩=some (.slice (some ⟨gR,0,none⟩) len cap)∧W'.cell? ⟨gR,q*5,none⟩=some (.int .i64 208)∧W'.cell? ⟨gR,q*5+1,none⟩=some (.int .i64 i)∧W'.cell? ⟨gR,q*5+2,none⟩=some (.int .i64 j)∧W'.cell? ⟨gR,q*5+3,none⟩=some (.slice (some ⟨g1,o1,none⟩) n c)∧W'.cell? ⟨g1,o1,none⟩=some (.int .i64 k1)∧W'.cell? ⟨g1,o1+1,none⟩=some (.int .i64 i1)∧W'.cell? ⟨g1,o1+2,none⟩=some (.int .i64 j1)∧W'.cell? ⟨g1,o1+3,none⟩=some (.slice p1 n1 c1))
  (first|exact HS.out _ (Below.refl _ _).drew|exact HS.out _ ((Below.refl _ _).drew.alloc (Nat.le_refl _) _)|exact HS.out _ ((Below.refl _ _).alloc (Nat.le_refl _) _).drew)
  (fail)
 all_goals(try go_wp2_with fail)
 all_goals(first|go_ret|go_ret2)
 all_goals exact⟨rfl,((Below.refl _ _).alloc (Nat.le_refl _) _).drew⟩
theorem ctakes_2087 {W:World} {b gR q len cap:Nat} {i j:Int} {n c:Nat} {g1 o1 c1 n1:Nat} {i1 j1:Int} {g2 o2 c2 n2:Nat} {i2 j2:Int} {p2:Option Addr} (hl:len≤1099511627776) (hql:q+1=len) (hd:Bool) (hn:0<n) (hg1:g1<W.heap.size) (hn1:0<n1) (hg2:g2<W.heap.size)  (hcells:W.cell? ⟨b,4,none⟩=some (.slice (some ⟨gR,0,none⟩) len cap)∧W.cell? ⟨gR,q*5,none⟩=some (.int .i64 208)∧W.cell? ⟨gR,q*5+1,none⟩=some (.int .i64 i)∧W.cell? ⟨gR,q*5+2,none⟩=some (.int .i64 j)∧W.cell? ⟨gR,q*5+3,none⟩=some (.slice (some ⟨g1,o1,none⟩) n c)∧W.cell? ⟨g1,o1,none⟩=some (.int .i64 207)∧W.cell? ⟨g1,o1+1,none⟩=some (.int .i64 i1)∧W.cell? ⟨g1,o1+2,none⟩=some (.int .i64 j1)∧W.cell? ⟨g1,o1+3,none⟩=some (.slice (some ⟨g2,o2,none⟩) n1 c1)∧W.cell? ⟨g2,o2,none⟩=some (.int .i64 201)∧W.cell? ⟨g2,o2+1,none⟩=some (.int .i64 i2)∧W.cell? ⟨g2,o2+2,none⟩=some (.int .i64 j2)∧W.cell? ⟨g2,o2+3,none⟩=some (.slice p2 n2 c2)) :
  Calls Tryz.prog 157 #[.pointer (some ⟨b,0,none⟩),.bool hd] W fun e w'=>e=.returned (.bool (!hd))∧Below W.heap.size W w':=by
 have hq0:(0:Int)≤(q:Int):=by omega
 have hq1:(q:Int)<(len:Int):=by omega
 have hqn:q<len:=by omega
 have hw:IntKind.i64.wrap ((len:Int) - 1)=(q:Int):=by rw[IntWalk.i64_in _ (by omega)];omega
 clear hql
 have HS:Hid (∀ u,Below W.heap.size W u→u.cell? ⟨b,4,none⟩=some (.slice (some ⟨gR,0,none⟩) len cap)∧u.cell? ⟨gR,q*5,none⟩=some (.int .i64 208)∧u.cell? ⟨gR,q*5+1,none⟩=some (.int .i64 i)∧u.cell? ⟨gR,q*5+2,none⟩=some (.int .i64 j)∧u.cell? ⟨gR,q*5+3,none⟩=some (.slice (some ⟨g1,o1,none⟩) n c)∧u.cell? ⟨g1,o1,none⟩=some (.int .i64 207)∧u.cell? ⟨g1,o1+1,none⟩=some (.int .i64 i1)∧u.cell? ⟨g1,o1+2,none⟩=some (.int .i64 j1)∧u.cell? ⟨g1,o1+3,none⟩=some (.slice (some ⟨g2,o2,none⟩) n1 c1)∧u.cell? ⟨g2,o2,none⟩=some (.int .i64 201)∧u.cell? ⟨g2,o2+1,none⟩=some (.int .i64 i2)∧u.cell? ⟨g2,o2+2,none⟩=some (.int .i64 j2)∧u.cell? ⟨g2,o2+3,none⟩=some (.slice p2 n2 c2)):=Lib.hid (fun u hu=>by
  obtain⟨e0,e1,e2,e3,e4,e5,e6,e7,e8,e9,e10,e11,e12⟩:=hcells
  exact⟨below_cells e0 hu,below_cells e1 hu,below_cells e2 hu,below_cells e3 hu,below_cells e4 hu,below_cells e5 hu,below_cells e6 hu,below_cells e7 hu,below_cells e8 hu,below_cells e9 hu,below_cells e10 hu,below_cells e11 hu,below_cells e12 hu⟩)
 obtain⟨e0,e1,e2,e3,e4,e5,e6,e7,e8,e9,e10,e11,e12⟩:=hcells
 have hm1:(W.heap.size == g1)=false:=beq_eq_false_iff_ne.2 (by omega)
 have hm2:(g1 == W.heap.size)=false:=beq_eq_false_iff_ne.2 (by omega)
 have hm3:(W.heap.size == g2)=false:=beq_eq_false_iff_ne.2 (by omega)
 have hm4:(g2 == W.heap.size)=false:=beq_eq_false_iff_ne.2 (by omega)
 go_enter Tryz.func157,Tryz.ntmps157
 go_wp2_with fail
 go_region_held3 (fun W'=>W'.cell? ⟨b,4,none⟩=some (.slice (some ⟨gR,0,none⟩) len cap)∧W'.cell? ⟨gR,q*5,none⟩=some (.int .i64 208)∧W'.cell? ⟨gR,q*5+1,none⟩=some (.int .i64 i)∧W'.cell? ⟨gR,q*5+2,none⟩=some (.int .i64 j)∧W'.cell? ⟨gR,q*5+3,none⟩=some (.slice (some ⟨g1,o1,none⟩) n c)∧W'.cell? ⟨g1,o1,none⟩=some (.int .i64 207)∧W'.cell? ⟨g1,o1+1,none⟩=some (.int .i64 i1)∧W'.cell? ⟨g1,o1+2,none⟩=some (.int .i64 j1)∧W'.cell? ⟨g1,o1+3,none⟩=some (.slice (some ⟨g2,o2,none⟩) n1 c1)∧W'.cell? ⟨g2,o2,none⟩=some (.int .i64 201)∧W'.cell? ⟨g2,o2+1,none⟩=some (.int .i64 i2)∧W'.cell? ⟨g2,o2+2,none⟩=some (.int .i64 j2)∧W'.cell? ⟨g2,o2+3,none⟩=some (.slice p2 n2 c2))
  (first|exact HS.out _ (Below.refl _ _).drew|exact HS.out _ ((Below.refl _ _).drew.alloc (Nat.le_refl _) _)|exact HS.out _ ((Below.refl _ _).alloc (Nat.le_refl _) _).drew)
  (fail)
 all_goals(try go_wp2_with fail)
 all_goals(first|go_ret|go_ret2)
 all_goals exact⟨rfl,((Below.refl _ _).alloc (Nat.le_refl _) _).drew⟩
theorem ctakes_2087n {W:World} {b gR q len cap:Nat} {i j:Int} {n c:Nat} {g1 o1 c1 n1:Nat} {i1 j1:Int} {g2 o2 c2 n2:Nat} {i2 j2:Int} {p2:Option Addr} {k2:Int} (hl:len≤1099511627776) (hql:q+1=len) (hd:Bool) (hn:0<n) (hg1:g1<W.heap.size) (hn1:0<n1) (hg2:g2<W.heap.size) (nk2201:(k2 == 201)=false) (hcells:W.cell? ⟨b,4,none⟩=some (.slice (some ⟨gR,0,none⟩) len cap)∧W.cell? ⟨gR,q*5,none⟩=some (.int .i64 208)∧W.cell? ⟨gR,q*5+1,none⟩=some (.int .i64 i)∧W.cell? ⟨gR,q*5+2,none⟩=some (.int .i64 j)∧W.cell? ⟨gR,q*5+3,none⟩=some (.slice (some ⟨g1,o1,none⟩) n c)∧W.cell? ⟨g1,o1,none⟩=some (.int .i64 207)∧W.cell? ⟨g1,o1+1,none⟩=some (.int .i64 i1)∧W.cell? ⟨g1,o1+2,none⟩=some (.int .i64 j1)∧W.cell? ⟨g1,o1+3,none⟩=some (.slice (some ⟨g2,o2,none⟩) n1 c1)∧W.cell? ⟨g2,o2,none⟩=some (.int .i64 k2)∧W.cell? ⟨g2,o2+1,none⟩=some (.int .i64 i2)∧W.cell? ⟨g2,o2+2,none⟩=some (.int .i64 j2)∧W.cell? ⟨g2,o2+3,none⟩=some (.slice p2 n2 c2)) :
  Calls Tryz.prog 157 #[.pointer (some ⟨b,0,none⟩),.bool hd] W fun e w'=>e=.returned (.bool (false))∧Below W.heap.size W w':=by
 have hq0:(0:Int)≤(q:Int):=by omega
 have hq1:(q:Int)<(len:Int):=by omega
 have hqn:q<len:=by omega
 have hw:IntKind.i64.wrap ((len:Int) - 1)=(q:Int):=by rw[IntWalk.i64_in _ (by omega)];omega
 clear hql
 have HS:Hid (∀ u,Below W.heap.size W u→u.cell? ⟨b,4,none⟩=some (.slice (some ⟨gR,0,none⟩) len cap)∧u.cell? ⟨gR,q*5,none⟩=some (.int .i64 208)∧u.cell? ⟨gR,q*5+1,none⟩=some (.int .i64 i)∧u.cell? ⟨gR,q*5+2,none⟩=some (.int .i64 j)∧u.cell? ⟨gR,q*5+3,none⟩=some (.slice (some ⟨g1,o1,none⟩) n c)∧u.cell? ⟨g1,o1,none⟩=some (.int .i64 207)∧u.cell? ⟨g1,o1+1,none⟩=some (.int .i64 i1)∧u.cell? ⟨g1,o1+2,none⟩=some (.int .i64 j1)∧u.cell? ⟨g1,o1+3,none⟩=some (.slice (some ⟨g2,o2,none⟩) n1 c1)∧u.cell? ⟨g2,o2,none⟩=some (.int .i64 k2)∧u.cell? ⟨g2,o2+1,none⟩=some (.int .i64 i2)∧u.cell? ⟨g2,o2+2,none⟩=some (.int .i64 j2)∧u.cell? ⟨g2,o2+3,none⟩=some (.slice p2 n2 c2)):=Lib.hid (fun u hu=>by
  obtain⟨e0,e1,e2,e3,e4,e5,e6,e7,e8,e9,e10,e11,e12⟩:=hcells
  exact⟨below_cells e0 hu,below_cells e1 hu,below_cells e2 hu,below_cells e3 hu,below_cells e4 hu,below_cells e5 hu,below_cells e6 hu,below_cells e7 hu,below_cells e8 hu,below_cells e9 hu,below_cells e10 hu,below_cells e11 hu,below_cells e12 hu⟩)
 obtain⟨e0,e1,e2,e3,e4,e5,e6,e7,e8,e9,e10,e11,e12⟩:=hcells
 have hm1:(W.heap.size == g1)=false:=beq_eq_false_iff_ne.2 (by omega)
 have hm2:(g1 == W.heap.size)=false:=beq_eq_false_iff_ne.2 (by omega)
 have hm3:(W.heap.size == g2)=false:=beq_eq_false_iff_ne.2 (by omega)
 have hm4:(g2 == W.heap.size)=false:=beq_eq_false_iff_ne.2 (by omega)
 go_enter Tryz.func157,Tryz.ntmps157
 go_wp2_with fail
 go_region_held3 (fun W'=>W'.cell? ⟨b,4,none⟩=some (.slice (some ⟨gR,0,none⟩) len cap)∧W'.cell? ⟨gR,q*5,none⟩=some (.int .i64 208)∧W'.cell? ⟨gR,q*5+1,none⟩=some (.int .i64 i)∧W'.cell? ⟨gR,q*5+2,none⟩=some (.int .i64 j)∧W'.cell? ⟨gR,q*5+3,none⟩=some (.slice (some ⟨g1,o1,none⟩) n c)∧W'.cell? ⟨g1,o1,none⟩=some (.int .i64 207)∧W'.cell? ⟨g1,o1+1,none⟩=some (.int .i64 i1)∧W'.cell? ⟨g1,o1+2,none⟩=some (.int .i64 j1)∧W'.cell? ⟨g1,o1+3,none⟩=some (.slice (some ⟨g2,o2,none⟩) n1 c1)∧W'.cell? ⟨g2,o2,none⟩=some (.int .i64 k2)∧W'.cell? ⟨g2,o2+1,none⟩=some (.int .i64 i2)∧W'.cell? ⟨g2,o2+2,none⟩=some (.int .i64 j2)∧W'.cell? ⟨g2,o2+3,none⟩=some (.slice p2 n2 c2))
  (first|exact HS.out _ (Below.refl _ _).drew|exact HS.out _ ((Below.refl _ _).drew.alloc (Nat.le_refl _) _)|exact HS.out _ ((Below.refl _ _).alloc (Nat.le_refl _) _).drew)
  (fail)
 all_goals(try go_wp2_with fail)
 all_goals(first|go_ret|go_ret2)
 all_goals exact⟨rfl,((Below.refl _ _).alloc (Nat.le_refl _) _).drew⟩
def Wk (t:Tree):Prop:=(t.k=207∨t.k=208)→∃ u l,t.l=u::l∧200≤u.k∧(t.k=208→u.k=207→∃ u2 l2,u.l=u2::l2∧200≤u2.k)
theorem partT_head {u:Tree} {l:List Tree} (h:200≤u.k):partT (u::l)=u:=by unfold partT;rw[if_pos (decide_eq_true h)]
theorem lit_else {t:Tree} {hd:Bool} (h1:t.k≠220) (h2:t.k≠221) (h3:t.k≠222) (h4:t.k≠224):literalT t hd=(!hd && (namedT t || (t.k == 208 && namedT (partT t.l)))):=by
 unfold literalT
 simp [h1,h2,h3,h4]
theorem kid_cells {w:World} {D:Nat→Prop} {u:Tree} {l:List Tree} {n:Rn} {k i j:Int} (h:Tie w D (.mk k i j (u::l)) n):∃ g off nu,n.o=some ⟨g,off,none⟩∧0<n.n∧Tie w D u nu∧w.cell? ⟨g,off,none⟩=some (.int .i64 nu.k)∧w.cell? ⟨g,off+1,none⟩=some (.int .i64 nu.i)∧w.cell? ⟨g,off+2,none⟩=some (.int .i64 nu.j)∧w.cell? ⟨g,off+3,none⟩=some (.slice nu.o nu.n nu.c):=by
 rw[Tie] at h
 obtain⟨_,_,_,h4,g,off,R,_,h6,h7,h8⟩:=h
 rw[Ties] at h8
 obtain⟨nu,R',rfl,h9,_⟩:=h8
 have hc:=cells_nd h7 0 (by simp)
 simp only[Nat.zero_mul,Nat.add_zero,List.getElem_cons_zero] at hc
 exact⟨g,off,nu,(h6 (by simp)).1,by rw[h4];simp,h9,hc.1,hc.2.1,hc.2.2.1,hc.2.2.2⟩
theorem ctakes_at {C:Kc} {w:World} {b:Nat} {s:St} {t:Tree} {hd:Bool} (h:Hid (CAt C w b (.ok s))) (hl:s.R.getLast? = some t) (hW:Wk t):Calls Tryz.prog 157 #[.pointer (some ⟨b,0,none⟩),.bool hd] w fun e w'=>e=.returned (.bool (literalT t hd))∧Hid (CAt C w' b (.ok s)):=by
 obtain⟨vL,vS,vR,σ,D,hr,ho,hi⟩:=h.out
 have hf1:=c_few hi
 obtain⟨h1,h2,h3,h4,h5,h6,h7,h8,h9⟩:=hi
 have hlen:=h4.length
 rw[List.length_map] at hlen
 rw[List.getLast?_eq_getElem?] at hl
 obtain⟨N',hN',hT⟩:=ties_at h4 _ _ hl
 rw[List.getElem?_map] at hN'
 have hne:s.R.length≠0:=by
  intro e
  rw[List.getElem?_eq_none (by omega)] at hl
  cases hl
 obtain⟨q,hq⟩:∃ q,q+1=σ.R.length:=⟨σ.R.length - 1,by omega⟩
 have hq1:s.R.length - 1=q:=by omega
 rw[hq1] at hN'
 have hlt:q<σ.R.length:=by omega
 rw[List.getElem?_eq_getElem hlt,Option.map_some,Option.some.injEq] at hN'
 obtain⟨gR,oR,cap,hv,hoR,_⟩:=hr.row.shape
 subst hv
 have hoR':=hoR (by intro e;rw[e] at hlt;simp at hlt)
 subst hoR'
 have b4:=(ten_at hr.cells).1.2.2.2.2.1
 obtain⟨c0,c1,c2,c3,c4⟩:=cells_bt hr.row.cells q hlt
 clear c4
 generalize σ.R[q]=B at *
 rw[Nat.zero_add] at c0 c1 c2 c3
 rw[← hN'] at hT
 have hBk:B.k=t.k:=hT.k
 rw[hBk] at c0
 have hfin:∀ r,(Calls Tryz.prog 157 #[.pointer (some ⟨b,0,none⟩),.bool hd] w fun e w'=>e=.returned (.bool r)∧Below w.heap.size w w')→r=literalT t hd→Calls Tryz.prog 157 #[.pointer (some ⟨b,0,none⟩),.bool hd] w fun e w'=>e=.returned (.bool (literalT t hd))∧Hid (CAt C w' b (.ok s)):=fun r hc hr=>by
  rw[← hr]
  refine hc.mono ?_
  rintro e w' ⟨rfl,hb⟩
  exact⟨rfl,CAt.below h hb⟩
 have hfew:σ.R.length≤1099511627776:=by omega
 clear h1 h2 h3 h4 h5 h6 h7 h8 h9 hr ho hoR hN' hlen hl hne hq1 hlt hf1
 by_cases k220:t.k=220
 ·rw[k220] at c0;exact hfin _ (ctakes_220 hfew hq hd ⟨b4,c0,c1,c2,c3⟩) (by simp [literalT,k220])
 by_cases k221:t.k=221
 ·rw[k221] at c0;exact hfin _ (ctakes_221 hfew hq hd ⟨b4,c0,c1,c2,c3⟩) (by simp [literalT,k221])
 by_cases k222:t.k=222
 ·rw[k222] at c0;exact hfin _ (ctakes_222 hfew hq hd ⟨b4,c0,c1,c2,c3⟩) (by simp [literalT,k222])
 by_cases k224:t.k=224
 ·rw[k224] at c0;exact hfin _ (ctakes_224 hfew hq hd ⟨b4,c0,c1,c2,c3⟩) (by simp [literalT,k224])
 have hel:=lit_else (hd:=hd) k220 k221 k222 k224
 by_cases k201:t.k=201
 ·rw[k201] at c0;exact hfin _ (ctakes_201 hfew hq hd ⟨b4,c0,c1,c2,c3⟩) (by rw[hel];simp [namedT,k201])
 by_cases k207:t.k=207
 ·obtain⟨u,l,hul,hu,_⟩:=hW (.inl k207)
  cases t with
  |mk k i j l0=>
   obtain rfl:l0=u::l:=hul
   obtain⟨g,off,nu,hno,hnn,hTu,d0,d1,d2,d3⟩:=kid_cells hT
   have hno:B.o=some ⟨g,off,none⟩:=hno
   have hnn:0<B.n:=hnn
   rw[hno] at c3
   rw[k207] at c0
   rw[hTu.k] at d0
   have hg:=World.block_lt_of_cell? _ _ d0
   by_cases u201:u.k=201
   ·rw[u201] at d0
    exact hfin _ (ctakes_207 hfew hq hd hnn hg ⟨b4,c0,c1,c2,c3,d0,d1,d2,d3⟩) (by rw[hel];simp [namedT,k207,Tree.l,partT_head hu,u201])
   ·exact hfin _ (ctakes_207n hfew hq hd hnn hg (beq_eq_false_iff_ne.2 u201) ⟨b4,c0,c1,c2,c3,d0,d1,d2,d3⟩) (by rw[hel];simp [namedT,k207,Tree.l,partT_head hu,u201])
 by_cases k208:t.k=208
 ·obtain⟨u,l,hul,hu,hu7⟩:=hW (.inr k208)
  cases t with
  |mk k i j l0=>
   obtain rfl:l0=u::l:=hul
   obtain⟨g,off,nu,hno,hnn,hTu,d0,d1,d2,d3⟩:=kid_cells hT
   have hno:B.o=some ⟨g,off,none⟩:=hno
   have hnn:0<B.n:=hnn
   rw[hno] at c3
   have e208:k=208:=k208
   rw[k208] at c0
   rw[hTu.k] at d0
   have hg:=World.block_lt_of_cell? _ _ d0
   by_cases u201:u.k=201
   ·rw[u201] at d0
    exact hfin _ (ctakes_208 hfew hq hd hnn hg ⟨b4,c0,c1,c2,c3,d0,d1,d2,d3⟩) (by rw[hel];simp [namedT,k208,Tree.l,partT_head hu,u201])
   by_cases u207:u.k=207
   ·obtain⟨u2,l2,hul2,hu2⟩:=hu7 k208 u207
    cases u with
    |mk k' i' j' l1=>
     obtain rfl:l1=u2::l2:=hul2
     obtain⟨g2,off2,nu2,hno2,hnn2,hTu2,f0,f1,f2,f3⟩:=kid_cells hTu
     rw[hno2] at d3
     rw[u207] at d0
     rw[hTu2.k] at f0
     have hg2:=World.block_lt_of_cell? _ _ f0
     by_cases v201:u2.k=201
     ·rw[v201] at f0
      exact hfin _ (ctakes_2087 hfew hq hd hnn hg hnn2 hg2 ⟨b4,c0,c1,c2,c3,d0,d1,d2,d3,f0,f1,f2,f3⟩) (by rw[hel];simp [namedT,k208,Tree.l,partT_head hu,u207,partT_head hu2,v201])
     ·exact hfin _ (ctakes_2087n hfew hq hd hnn hg hnn2 hg2 (beq_eq_false_iff_ne.2 v201) ⟨b4,c0,c1,c2,c3,d0,d1,d2,d3,f0,f1,f2,f3⟩) (by rw[hel];simp [namedT,k208,Tree.l,partT_head hu,u207,partT_head hu2,v201])
   ·exact hfin _ (ctakes_208n hfew hq hd hnn hg (beq_eq_false_iff_ne.2 u201) (beq_eq_false_iff_ne.2 u207) ⟨b4,c0,c1,c2,c3,d0,d1,d2,d3⟩) (by rw[hel];simp [namedT,k208,Tree.l,partT_head hu,u201,u207])
 ·exact hfin _ (ctakes_no hfew hq hd (beq_eq_false_iff_ne.2 k220) (beq_eq_false_iff_ne.2 k221) (beq_eq_false_iff_ne.2 k222) (beq_eq_false_iff_ne.2 k224) (beq_eq_false_iff_ne.2 k208) (beq_eq_false_iff_ne.2 k207) (beq_eq_false_iff_ne.2 k201) ⟨b4,c0,c1,c2,c3⟩) (by rw[hel];simp [namedT,k201,k207,k208])
end Go.Proofs.YtcekbbkidipbnaaGreat.rd
