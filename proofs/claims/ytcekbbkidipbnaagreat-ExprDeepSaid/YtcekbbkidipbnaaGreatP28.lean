/-
  Texts put together: Ko, Fc, Fd, Fe, Ff, Fg.
-/
import Derived.Test.YtcekbbkidipbnaaGreatP3
import Derived.Test.YtcekbbkidipbnaaGreatP2
set_option maxRecDepth 100000
set_option maxHeartbeats 8000000
namespace Go.Proofs.YtcekbbkidipbnaaGreat.rd
open Go.RowKit
section
variable {C:Keep} {w:World} {b:Nat} {x y:Res}
theorem Post.of {vL vR vH:Value} {σ':Rd} {D:Nat→Prop} {e:Ending} {w':World} (ho:Own C w b vR vH D) (hs:Steps w b vL vR vH σ' e w') (hi:∀ vR' vH',Nx w b vR vH w' vR' vH'→Is w' D σ' y):Post C b y e w':=by
 obtain⟨v,vR',vH',rfl,hr,hn⟩:=hs
 exact⟨v,rfl,Lib.hid ⟨vL,vR',vH',σ',D,hr,ho.step hn,hi vR' vH' hn⟩⟩
theorem PostB.of {vL vR vH:Value} {σ':Rd} {D:Nat→Prop} {e:Ending} {w':World} {t:Bool} (ho:Own C w b vR vH D) (hs:StepsB t w b vL vR vH σ' e w') (hi:∀ vR' vH',Nx w b vR vH w' vR' vH'→Is w' D σ' y):PostB C b y t e w':=by
 obtain⟨vR',vH',rfl,hr,hn⟩:=hs
 exact⟨rfl,Lib.hid ⟨vL,vR',vH',σ',D,hr,ho.step hn,hi vR' vH' hn⟩⟩
theorem zjs {σ:Rd} {s:St} (h2:σ.L=s.L) (h3:σ.at'=s.at') (n:Nat):σ.next n=s.next n:=by unfold Rd.next St.next;rw[h2,h3]
theorem zkA {σ:Rd} {s:St} (h2:σ.L=s.L) (h3:σ.at'=s.at'):σ.here=s.here:=by unfold Rd.here St.here;rw[zjs h2 h3,h2,h3];rfl
theorem zmh {σ:Rd} {s:St} (h2:σ.L=s.L) (h3:σ.at'=s.at'):σ.piece=s.piece:=by unfold Rd.piece St.piece;rw[zjs h2 h3,zkA h2 h3,h2];rfl
theorem zkb {σ:Rd} {s:St} (h1:σ.failed=false) (h2:σ.L=s.L) (h3:σ.at'=s.at') (n:Nat):σ.ahead n=s.ahead n:=by
 unfold Rd.ahead St.ahead
 rw[h1,zjs h2 h3,h2]
 rfl
theorem zll {D:Nat→Prop} {σ:Rd} {s:St} (h:Is w D σ (.ok s)) (w':World) (c:Int):Is w' D (σ.fail c) (s.fail c):=by
 obtain⟨h1,h2,h3,h4,h5,h6,h7,h8,h9,h10⟩:=h
 rw[Rd.fail_not h1,zmh h2 h3]
 have:=h4.length
 exact⟨rfl,rfl,rfl,rfl,by show σ.H.length=σ.R.length;rw[h5,this,h7],by show σ.op≤100;omega,by show σ.R.length+σ.L.length≤_;rw[h2];omega⟩
theorem zqR {D:Nat→Prop} {σ:Rd} {s:St} {w':World} (h:Is w D σ (.ok s)) (hk:Ties w' D s.R σ.R) (hy:s.take.R.length+s.L.length≤549755813888):Is w' D σ.take (.ok s.take):=by
 obtain⟨h1,h2,h3,h4,h5,h6,h7,h8,h9,h10⟩:=h
 unfold Rd.take
 unfold St.take at hy ⊢
 rw[zkb h1 h2 h3]
 split
 ·exact⟨h1,h2,h3,hk,h5,h6,h7,h8,h9,h10⟩
 ·rw[if_neg ‹_›] at hy
  rw[zjs h2 h3,h3]
  unfold Rd.run St.run
  unfold St.run at hy
  refine⟨h1,h2,by show σ.at'+_=_;rw[h3],?_,?_,h6,?_,?_,h9,hy⟩
  ·show Ties w' D (s.R ++ _) (σ.R ++ _)
   rw[h2,h3]
   exact hk.append (zhQ _ _ _)
  ·show σ.H ++ _=s.H ++ _
   rw[h5]
  ·show(s.H ++ _).length=(s.R ++ _).length
   rename_i hne
   have hlt:s.next 0<s.L.length:=by
    exact zcS
   have hge:s.at'≤s.next 0:=Nat.le_add_right _ _
   rw[List.length_append,List.length_append,h7,List.length_replicate,List.length_map,List.length_take,List.length_drop]
   omega
  ·intro x hx
   exact zdr
theorem zgw (h:Hid (At C w b x)) (c:Int) (hy:Hid (rFail c x=some y)):Calls Tryz.prog 46 #[.pointer (some ⟨b,0,none⟩),.int .i64 c] w (Post C b y):=by
 obtain⟨vL,vR,vH,σ,D,hr,ho,hi⟩:=h.out
 refine(zja hr c).mono fun e w' hs=>Post.of ho hs fun vR' vH' hn=>?_
 have hy:=hy.out
 cases x with
 |fail a b c=>cases hy;rw[Rd.fail_failed hi.1];exact hi
 |ok s=>cases zgA hy;exact zll hi w' c
theorem zjH (h:Hid (At C w b x)) (hy:Hid (rUp x=some y)):Calls Tryz.prog 44 #[.pointer (some ⟨b,0,none⟩)] w (Post C b y):=by
 obtain⟨vL,vR,vH,σ,D,hr,ho,hi⟩:=h.out
 have hy:=hy.out
 cases x with
 |fail a b c=>
  cases hy
  obtain⟨h1,h2,h3,h4,h5,h6,h7⟩:=hi
  exact(ztO hr zdC).mono fun e w' hs=>Post.of ho hs fun vR' vH' hn=>⟨h1,h2,h3,h4,h5,by show σ.op - 1≤100;omega,h7⟩
 |ok s=>
  obtain⟨rfl,hz⟩:=zgg hy
  obtain⟨h1,h2,h3,h4,h5,h6,h7,h8,h9,h10⟩:=hi
  exact(ztO hr zdC).mono fun e w' hs=>Post.of ho hs fun vR' vH' hn=>⟨h1,h2,h3,ho.ties hn h4,h5,by show σ.op - 1=s.op - 1;rw[h6],h7,h8,by show s.op - 1≤100;omega,h10⟩
theorem zhG (h:Hid (At C w b x)) (hy:Hid (rDown x=some y)):Calls Tryz.prog 42 #[.pointer (some ⟨b,0,none⟩)] w (PostB C b y (!y.bad)):=by
 obtain⟨vL,vR,vH,σ,D,hr,ho,hi⟩:=h.out
 have hy:=hy.out
 cases x with
 |fail a b c=>
  cases hy
  have hi0:=hi
  obtain⟨h1,h2,h3,h4,h5,h6,h7⟩:=hi
  refine(zos hr zdC).mono fun e w' hs=>?_
  unfold Rd.down at hs
  rw[if_pos h1] at hs
  exact PostB.of ho hs fun vR' vH' hn=>hi0
 |ok s=>
  have hi0:=hi
  obtain⟨h1,h2,h3,h4,h5,h6,h7,h8,h9,h10⟩:=hi
  refine(zos hr zdC).mono fun e w' hs=>?_
  unfold Rd.down at hs
  rw[if_neg (by rw[h1];simp)] at hs
  unfold rDown lift St.down at hy
  simp only[] at hy
  by_cases hop:100≤s.op
  ·rw[if_pos hop] at hy
   rw[if_pos zdC] at hs
   cases zgA hy
   exact PostB.of ho hs fun vR' vH' hn=>zll hi0 w' 202
  ·rw[if_neg hop] at hy
   rw[if_neg zdC] at hs
   obtain⟨rfl,hz⟩:=zgg hy
   exact PostB.of ho hs fun vR' vH' hn=>⟨h1,h2,h3,ho.ties hn h4,h5,by show σ.op+1=s.op+1;rw[h6],h7,h8,by show s.op+1≤100;omega,h10⟩
theorem zkM {D:Nat→Prop} {σ:Rd} (hi:Is w D σ x):σ.R.length+σ.L.length≤549755813889∧σ.H.length=σ.R.length:=by
 cases x with
 |fail a b c=>
  obtain⟨h1,h2,h3,h4,h5,h6,h7⟩:=hi
  exact⟨h7,h5⟩
 |ok s=>
  obtain⟨h1,h2,h3,h4,h5,h6,h7,h8,h9,h10⟩:=hi
  have:=h4.length
  exact⟨by rw[h2];omega,by rw[h5,this,h7]⟩
theorem zfK (h:Hid (At C w b x)) (hy:Hid (rTake x=some y)):Calls Tryz.prog 32 #[.pointer (some ⟨b,0,none⟩)] w (Post C b y):=by
 obtain⟨vL,vR,vH,σ,D,hr,ho,hi⟩:=h.out
 obtain⟨hf1,hf2⟩:=zkM hi
 refine(zpt hr zdC zdC).mono fun e w' hs=>Post.of ho hs fun vR' vH' hn=>?_
 have hy:=hy.out
 cases x with
 |fail a b c=>
  cases hy
  have:σ.take=σ:=by unfold Rd.take;rw[if_pos (Rd.ahead_failed hi.1 0)]
  rw[this]
  exact hi
 |ok s=>
  obtain⟨rfl,hz⟩:=zgg hy
  refine zqR hi (ho.ties hn hi.2.2.2.1) ?_
  have:s.take.L=s.L:=by unfold St.take;split <;> rfl
  rw[this] at hz
  exact hz
theorem zfG (h:Hid (At C w b x)) (k:Int) (hy:Hid (rExpect k x=some y)):Calls Tryz.prog 34 #[.pointer (some ⟨b,0,none⟩),.int .i64 k] w (PostB C b y (!y.bad)):=by
 obtain⟨vL,vR,vH,σ,D,hr,ho,hi⟩:=h.out
 obtain⟨hf1,hf2⟩:=zkM hi
 refine(zrt hr k zdC zdC).mono fun e w' hs=>?_
 have hy:=hy.out
 unfold Rd.expect at hs
 cases x with
 |fail a b c=>
  cases hy
  rw[if_neg (by rintro⟨h1,h2⟩;rw[Rd.ahead_failed hi.1] at h2;exact h1 h2.symm),Rd.fail_failed hi.1] at hs
  exact PostB.of ho hs fun vR' vH' hn=>hi
 |ok s=>
  unfold rExpect lift St.expect at hy
  simp only[] at hy
  rw[zkb hi.1 hi.2.1 hi.2.2.1] at hs
  by_cases hk:k≠0∧s.ahead 0=k
  ·rw[if_pos hk] at hy hs
   obtain⟨rfl,hz⟩:=zgg hy
   refine PostB.of ho hs fun vR' vH' hn=>zqR hi (ho.ties hn hi.2.2.2.1) ?_
   have:s.take.L=s.L:=by unfold St.take;split <;> rfl
   rw[this] at hz
   exact hz
  ·rw[if_neg hk] at hy hs
   cases zgA hy
   exact PostB.of ho hs fun vR' vH' hn=>zll hi w' 201
theorem zgU (h:Hid (At C w b x)) (hy:Hid (rNone x=some y)):Calls Tryz.prog 36 #[.pointer (some ⟨b,0,none⟩)] w (Post C b y):=by
 obtain⟨vL,vR,vH,σ,D,hr,ho,hi⟩:=h.out
 obtain⟨hf1,hf2⟩:=zkM hi
 refine(zvc hr zdC zdC).mono fun e w' hs=>Post.of ho hs fun vR' vH' hn=>?_
 have hy:=hy.out
 unfold Rd.none
 cases x with
 |fail a b c=>
  cases hy
  rw[if_pos hi.1]
  exact hi
 |ok s=>
  obtain⟨rfl,hz⟩:=zgg hy
  obtain⟨h1,h2,h3,h4,h5,h6,h7,h8,h9,h10⟩:=hi
  rw[if_neg (by rw[h1];simp),zkA h2 h3]
  refine⟨h1,h2,h3,(ho.ties hn h4).append (Ties.cons (zhT _ _ _ _ _) Ties.nil),?_,h6,?_,?_,h9,hz⟩
  ·show σ.H ++ [0]=s.H ++ [0]
   rw[h5]
  ·show(s.H ++ [0]).length=(s.R ++ [_]).length
   simp [h7]
  ·intro x hx
   rcases List.mem_append.1 hx with hx|hx
   ·exact h8 x hx
   ·rw[List.mem_singleton.1 hx]
    omega
end
open Go.RowKit
theorem zhO (z:Int) (w:World):Calls Tryz.prog 125 #[.int .i64 z] w fun e w'=>e=.returned (.int .i64 (precOf z))∧w=w':=by
 go_enter Tryz.func125,Tryz.ntmps125
 go_wp2_with fail
 all_goals
  go_ret
  refine⟨?_,rfl⟩
  simp_all [precOf]
def CloseC:Prop:=∀ (C:Keep) (w:World) (b:Nat) (x y:Res) (m m' k:Int),Hid (At C w b x)→(x.bad=false→m=m')→Hid (rClose m' k x=some y)→Calls Tryz.prog 38 #[.pointer (some ⟨b,0,none⟩),.int .i64 m,.int .i64 k] w (Post C b y)
theorem bind_some {α β:Type} {o:Option α} {f:α→Option β} {y:β} (h:(o >>= f)=some y):∃ z,Hid (o=some z)∧f z=some y:=by
 cases o with
 |none=>cases h
 |some z=>exact⟨z,Lib.hid rfl,h⟩
theorem zfu {α β:Type} {o:Option α} {f:α→Option β} {y:β}:((o >>= f)=some y)↔∃ z,Hid (o=some z)∧f z=some y:=
 ⟨bind_some,fun⟨z,h1,h2⟩=>by rw[h1.out];exact h2⟩
theorem zfF {α:Type} {a b:α}:Hid (some a=some b)↔b=a:=
 ⟨fun h=>(Option.some.inj h.out).symm,fun h=>Lib.hid (by rw[h])⟩
theorem zfB (n:Nat) (p:Pc) (a b c:Int):run n p (.fail a b c)=some (.fail a b c):=by cases n <;> rfl
theorem zgL (n:Nat) (p:Pc) (a b c:Int):Hid (run n p (.fail a b c)=some (.fail a b c)):=Lib.hid (zfB n p a b c)
section
variable {C:Keep} {w:World} {b:Nat} {x y:Res}
theorem zfC {k0:Int} (h:Hid (At C w b x)) (hc:x.comes [k0]=true):Calls Tryz.prog 95 #[.pointer (some ⟨b,0,none⟩),.slice (some ⟨w.heap.size,0,none⟩) 1 1] (w.alloc (.cells #[.int .i64 k0] 3)) fun e w'=>e=.returned (.bool true)∧Hid (At C w' b x):=by
 rw[← hc];exact zhB h [k0] zdF
theorem zfz {k0:Int} (h:Hid (At C w b x)) (hc:x.comes [k0]=false):Calls Tryz.prog 95 #[.pointer (some ⟨b,0,none⟩),.slice (some ⟨w.heap.size,0,none⟩) 1 1] (w.alloc (.cells #[.int .i64 k0] 3)) fun e w'=>e=.returned (.bool false)∧Hid (At C w' b x):=by
 rw[← hc];exact zhB h [k0] zdF
theorem zho {k0 k1:Int} (h:Hid (At C w b x)) (hc:x.comes [k0,k1]=true):Calls Tryz.prog 95 #[.pointer (some ⟨b,0,none⟩),.slice (some ⟨w.heap.size,0,none⟩) 2 2] (w.alloc (.cells #[.int .i64 k0,.int .i64 k1] 3)) fun e w'=>e=.returned (.bool true)∧Hid (At C w' b x):=by
 rw[← hc];exact zhB h [k0,k1] zdF
theorem zhj {k0 k1:Int} (h:Hid (At C w b x)) (hc:x.comes [k0,k1]=false):Calls Tryz.prog 95 #[.pointer (some ⟨b,0,none⟩),.slice (some ⟨w.heap.size,0,none⟩) 2 2] (w.alloc (.cells #[.int .i64 k0,.int .i64 k1] 3)) fun e w'=>e=.returned (.bool false)∧Hid (At C w' b x):=by
 rw[← hc];exact zhB h [k0,k1] zdF
theorem zkk {k0 k1 k2 k3 k4 k5:Int} (h:Hid (At C w b x)) (hc:x.comes [k0,k1,k2,k3,k4,k5]=true):Calls Tryz.prog 95 #[.pointer (some ⟨b,0,none⟩),.slice (some ⟨w.heap.size,0,none⟩) 6 6] (w.alloc (.cells #[.int .i64 k0,.int .i64 k1,.int .i64 k2,.int .i64 k3,.int .i64 k4,.int .i64 k5] 3)) fun e w'=>e=.returned (.bool true)∧Hid (At C w' b x):=by
 rw[← hc];exact zhB h [k0,k1,k2,k3,k4,k5] zdF
theorem zjB {k0 k1 k2 k3 k4 k5:Int} (h:Hid (At C w b x)) (hc:x.comes [k0,k1,k2,k3,k4,k5]=false):Calls Tryz.prog 95 #[.pointer (some ⟨b,0,none⟩),.slice (some ⟨w.heap.size,0,none⟩) 6 6] (w.alloc (.cells #[.int .i64 k0,.int .i64 k1,.int .i64 k2,.int .i64 k3,.int .i64 k4,.int .i64 k5] 3)) fun e w'=>e=.returned (.bool false)∧Hid (At C w' b x):=by
 rw[← hc];exact zhB h [k0,k1,k2,k3,k4,k5] zdF
theorem zkl {k0 k1 k2 k3 k4 k5 k6:Int} (h:Hid (At C w b x)) (hc:x.comes [k0,k1,k2,k3,k4,k5,k6]=true):Calls Tryz.prog 95 #[.pointer (some ⟨b,0,none⟩),.slice (some ⟨w.heap.size,0,none⟩) 7 7] (w.alloc (.cells #[.int .i64 k0,.int .i64 k1,.int .i64 k2,.int .i64 k3,.int .i64 k4,.int .i64 k5,.int .i64 k6] 3)) fun e w'=>e=.returned (.bool true)∧Hid (At C w' b x):=by
 rw[← hc];exact zhB h [k0,k1,k2,k3,k4,k5,k6] zdF
theorem zjt {k0 k1 k2 k3 k4 k5 k6:Int} (h:Hid (At C w b x)) (hc:x.comes [k0,k1,k2,k3,k4,k5,k6]=false):Calls Tryz.prog 95 #[.pointer (some ⟨b,0,none⟩),.slice (some ⟨w.heap.size,0,none⟩) 7 7] (w.alloc (.cells #[.int .i64 k0,.int .i64 k1,.int .i64 k2,.int .i64 k3,.int .i64 k4,.int .i64 k5,.int .i64 k6] 3)) fun e w'=>e=.returned (.bool false)∧Hid (At C w' b x):=by
 rw[← hc];exact zhB h [k0,k1,k2,k3,k4,k5,k6] zdF
theorem zgT (h:Hid (At C w b x)) {k:Int} (hk:x.kind=k):Calls Tryz.prog 58 #[.pointer (some ⟨b,0,none⟩)] w fun e w'=>e=.returned (.int .i64 k)∧w=w':=by
 rw[← hk];exact zgN h
theorem zhU (h:Hid (At C w b x)) (n:Nat) (hn:n≤4611686018427387904) {k:Int} (hk:x.ahead n=k):Calls Tryz.prog 60 #[.pointer (some ⟨b,0,none⟩),.int .i64 (n:Int)] w fun e w'=>e=.returned (.int .i64 k)∧w=w':=by
 rw[← hk];exact zgQ h n hn
end
def C0 (f n:Nat) (p:Pc):Prop:=∀ (C:Keep) (w:World) (b:Nat) (x y:Res),Hid (At C w b x)→Hid (run n p x=some y)→Calls Tryz.prog f #[.pointer (some ⟨b,0,none⟩)] w (Post C b y)
def CB (f n:Nat) (p:Bool→Pc):Prop:=∀ (C:Keep) (w:World) (b:Nat) (x y:Res) (h:Bool),Hid (At C w b x)→Hid (run n (p h) x=some y)→Calls Tryz.prog f #[.pointer (some ⟨b,0,none⟩),.bool h] w (Post C b y)
def CM (f n:Nat) (p:Nat→Pc):Prop:=∀ (C:Keep) (w:World) (b:Nat) (x y:Res) (m:Int) (m':Nat),Hid (At C w b x)→(x.bad=false→m=(m':Int))→Hid (run n (p m') x=some y)→Calls Tryz.prog f #[.pointer (some ⟨b,0,none⟩),.int .i64 m] w (Post C b y)
def CBin (f n:Nat):Prop:=∀ (C:Keep) (w:World) (b:Nat) (x y:Res) (p:Int) (h:Bool),Hid (At C w b x)→Hid (run n (.binary p h) x=some y)→Calls Tryz.prog f #[.pointer (some ⟨b,0,none⟩),.int .i64 p,.bool h] w (Post C b y)
def CEnt (f n:Nat):Prop:=∀ (C:Keep) (w:World) (b:Nat) (x y:Res),Hid (At C w b x)→Hid (run n .entry x=some y)→Calls Tryz.prog f #[.pointer (some ⟨b,0,none⟩)] w (PostB C b y x.named)
def CUni (f n:Nat):Prop:=∀ (C:Keep) (w:World) (b:Nat) (x z y:Res),Hid (At C w b x)→Hid (run n .term x=some z)→Hid (run n .unionL z=some y)→Calls Tryz.prog f #[.pointer (some ⟨b,0,none⟩)] w fun e w'=>∃ (c:Int) (t:Bool),e=.returned (.tuple #[.int .i64 c,.bool t])∧Hid (At C w' b y)∧(y.bad=false→(decide (1<c) || t)=(z.kind == 26 || x.kind == 51))
structure All (n:Nat):Prop where
 X:CB 49 n .X
 binary:CBin 94 n
 unary:CB 124 n .unary
 primary:CB 143 n .primary
 period:CM 161 n .period
 index:CM 162 n .index
 cut:CM 179 n .cut
 call:CM 163 n .call
 value:C0 182 n .value
 values:C0 165 n .values
 operand:C0 160 n .operand
 flat:C0 178 n .flat
 type:C0 51 n .type
 array:CM 97 n .array
 items:CB 98 n .items
 field:C0 126 n .field
 element:C0 127 n .element
 union:CUni 108 n
 sig:C0 52 n .sig
 params:C0 54 n .params
 entry:CEnt 105 n
theorem zft (C:Keep) (w:World) (b:Nat) (x:Res) (h:Hid (At C w b x)):w.cell? ⟨b,8,none⟩=some (.bool x.bad):=by
 obtain⟨vL,vR,vH,σ,D,hr,_,hi⟩:=h.out
 obtain⟨⟨_,_,_,_,_,_,_,_,b8⟩,_⟩:=zgd hr.cells
 rw[b8]
 cases x with
 |fail=>rw[hi.1];rfl
 |ok s=>rw[hi.1];rfl
def F0 (f:Nat):Prop:=∀ (C:Keep) (w:World) (b:Nat) (d0 d1 d2:Int),Hid (At C w b (.fail d0 d1 d2))→Calls Tryz.prog f #[.pointer (some ⟨b,0,none⟩)] w (Post C b (.fail d0 d1 d2))
def FB (f:Nat):Prop:=∀ (C:Keep) (w:World) (b:Nat) (d0 d1 d2:Int) (h:Bool),Hid (At C w b (.fail d0 d1 d2))→Calls Tryz.prog f #[.pointer (some ⟨b,0,none⟩),.bool h] w (Post C b (.fail d0 d1 d2))
def FM (f:Nat):Prop:=∀ (C:Keep) (w:World) (b:Nat) (d0 d1 d2 m:Int),Hid (At C w b (.fail d0 d1 d2))→Calls Tryz.prog f #[.pointer (some ⟨b,0,none⟩),.int .i64 m] w (Post C b (.fail d0 d1 d2))
open Go.RowKit
theorem zpp (HCL:CloseC):F0 48:=by
 intro C w b d0 d1 d2 hat
 have _:=HCL
 have hk0:(Res.fail d0 d1 d2).kind=0:=rfl
 go_enter Tryz.func48,Tryz.ntmps48
 exact zal
theorem zpT (HCL:CloseC):F0 96:=by
 intro C w b d0 d1 d2 hat
 have _:=HCL
 have hk0:(Res.fail d0 d1 d2).kind=0:=rfl
 go_enter Tryz.func96,Tryz.ntmps96
 exact zan
theorem X_f (HCL:CloseC):FB 49:=by
 intro C w b d0 d1 d2 h hat
 have _:=HCL
 have hk0:(Res.fail d0 d1 d2).kind=0:=rfl
 go_enter Tryz.func49,Tryz.ntmps49
 exact zab
theorem zgo (HCL:CloseC):F0 51:=by
 intro C w b d0 d1 d2 hat
 have _:=HCL
 have hk0:(Res.fail d0 d1 d2).kind=0:=rfl
 go_enter Tryz.func51,Tryz.ntmps51
 exact zab
theorem zgG (HCL:CloseC):F0 160:=by
 intro C w b d0 d1 d2 hat
 have _:=HCL
 have hk0:(Res.fail d0 d1 d2).kind=0:=rfl
 go_enter Tryz.func160,Tryz.ntmps160
 exact zab
theorem zia (HCL:CloseC):FB 143:=by
 intro C w b d0 d1 d2 h hat
 have _:=HCL
 have hk0:(Res.fail d0 d1 d2).kind=0:=rfl
 have hc8:=zft _ _ _ _ hat
 simp only[Res.bad] at hc8
 go_enter Tryz.func143,Tryz.ntmps143
 go_wp2_with (first|(go_at_call 62;first|(refine(zfE ‹_›).mono ?_;rintro e w' ⟨rfl,rfl⟩)|(refine(zfD ‹_›).mono ?_;rintro e w' ⟨⟨v,rfl⟩,rfl⟩))|(go_at_call 160;refine(zgG HCL _ _ _ _ _ _ ‹_›).mono ?_;rintro e w' ⟨v,rfl,hat⟩;have hc8:=zft _ _ _ _ hat;simp only[Res.bad] at hc8))
 go_loopw [] (fun wr=>Hid (At C wr b (.fail d0 d1 d2))) (fun _=>0)
 case atStart=>assumption
 case round=>
  have hat:=hrel
  have hc8:=zft _ _ _ _ hat
  simp only[Res.bad] at hc8
  exact zal
theorem zhw (HCL:CloseC):FB 124:=by
 intro C w b d0 d1 d2 h hat
 have _:=HCL
 have hk0:(Res.fail d0 d1 d2).kind=0:=rfl
 go_enter Tryz.func124,Tryz.ntmps124
 go_wp2_with (first|(go_at_call 62;first|(refine(zfE ‹_›).mono ?_;rintro e w' ⟨rfl,rfl⟩)|(refine(zfD ‹_›).mono ?_;rintro e w' ⟨⟨v,rfl⟩,rfl⟩))|(go_at_call 143;refine(zia HCL _ _ _ _ _ _ _ ‹_›).mono ?_;rintro e w' ⟨v,rfl,hat⟩)|(go_at_call 95;first|(with_reducible refine(zfz ‹_› zet).mono ?_;rintro e w' ⟨rfl,hat⟩)|(with_reducible refine(zjB ‹_› zet).mono ?_;rintro e w' ⟨rfl,hat⟩)))
 all_goals exact zar
open Go.RowKit
theorem ziB (HCL:CloseC):FM 179:=by
 intro C w b d0 d1 d2 m hat
 have _:=HCL
 have hk0:(Res.fail d0 d1 d2).kind=0:=rfl
 go_enter Tryz.func179,Tryz.ntmps179
 exact zal
theorem zhM (HCL:CloseC):FM 162:=by
 intro C w b d0 d1 d2 m hat
 have _:=HCL
 have hk0:(Res.fail d0 d1 d2).kind=0:=rfl
 go_enter Tryz.func162,Tryz.ntmps162
 go_wp2_with (first|(go_at_call 32;refine(zfK ‹_› zeu).mono ?_;rintro e w' ⟨v,rfl,hat⟩)|(go_at_call 49;refine(X_f HCL _ _ _ _ _ _ _ ‹_›).mono ?_;rintro e w' ⟨v,rfl,hat⟩)|(go_at_call 179;refine(ziB HCL _ _ _ _ _ _ _ ‹_›).mono ?_;rintro e w' ⟨v,rfl,hat⟩)|(go_at_call 34;refine(zfG ‹_› _ zeu).mono ?_;rintro e w' ⟨rfl,hat⟩)|(go_at_call 38;refine(HCL _ _ _ _ _ _ _ _ ‹_› zev zeu).mono ?_;rintro e w' ⟨v,rfl,hat⟩)|(go_at_call 95;first|(with_reducible refine(zfz ‹_› zet).mono ?_;rintro e w' ⟨rfl,hat⟩)))
 go_loopw [] (fun wr=>Hid (At C wr b (.fail d0 d1 d2))) (fun _=>0)
 case atStart=>assumption
 case round=>
  have hat:=hrel
  exact zan
theorem zih (HCL:CloseC):FM 163:=by
 intro C w b d0 d1 d2 m hat
 have _:=HCL
 have hk0:(Res.fail d0 d1 d2).kind=0:=rfl
 have hc8:=zft _ _ _ _ hat
 simp only[Res.bad] at hc8
 go_enter Tryz.func163,Tryz.ntmps163
 go_wp2_with (first|(go_at_call 32;refine(zfK ‹_› zeu).mono ?_;rintro e w' ⟨v,rfl,hat⟩;have hc8:=zft _ _ _ _ hat;simp only[Res.bad] at hc8)|(go_at_call 49;refine(X_f HCL _ _ _ _ _ _ _ ‹_›).mono ?_;rintro e w' ⟨v,rfl,hat⟩;have hc8:=zft _ _ _ _ hat;simp only[Res.bad] at hc8)|(go_at_call 34;refine(zfG ‹_› _ zeu).mono ?_;rintro e w' ⟨rfl,hat⟩;have hc8:=zft _ _ _ _ hat;simp only[Res.bad] at hc8)|(go_at_call 38;refine(HCL _ _ _ _ _ _ _ _ ‹_› zev zeu).mono ?_;rintro e w' ⟨v,rfl,hat⟩;have hc8:=zft _ _ _ _ hat;simp only[Res.bad] at hc8)|(go_at_call 95;first|(with_reducible refine(zfz ‹_› zet).mono ?_;rintro e w' ⟨rfl,hat⟩);have hc8:=zft _ _ _ _ hat;simp only[Res.bad] at hc8))
 go_loopw [] (fun wr=>Hid (At C wr b (.fail d0 d1 d2))) (fun _=>0)
 case atStart=>assumption
 case round=>
  have hat:=hrel
  have hc8:=zft _ _ _ _ hat
  simp only[Res.bad] at hc8
  go_wp2_with (first|(go_at_call 32;refine(zfK ‹_› zeu).mono ?_;rintro e w' ⟨v,rfl,hat⟩;have hc8:=zft _ _ _ _ hat;simp only[Res.bad] at hc8)|(go_at_call 49;refine(X_f HCL _ _ _ _ _ _ _ ‹_›).mono ?_;rintro e w' ⟨v,rfl,hat⟩;have hc8:=zft _ _ _ _ hat;simp only[Res.bad] at hc8)|(go_at_call 34;refine(zfG ‹_› _ zeu).mono ?_;rintro e w' ⟨rfl,hat⟩;have hc8:=zft _ _ _ _ hat;simp only[Res.bad] at hc8)|(go_at_call 38;refine(HCL _ _ _ _ _ _ _ _ ‹_› zev zeu).mono ?_;rintro e w' ⟨v,rfl,hat⟩;have hc8:=zft _ _ _ _ hat;simp only[Res.bad] at hc8)|(go_at_call 95;first|(with_reducible refine(zfz ‹_› zet).mono ?_;rintro e w' ⟨rfl,hat⟩);have hc8:=zft _ _ _ _ hat;simp only[Res.bad] at hc8)|(go_at_call 62;first|(refine(zfE ‹_›).mono ?_;rintro e w' ⟨rfl,rfl⟩)|(refine(zfD ‹_›).mono ?_;rintro e w' ⟨⟨v,rfl⟩,rfl⟩)))
  all_goals exact zar
theorem zhp (HCL:CloseC):FM 161:=by
 intro C w b d0 d1 d2 m hat
 have _:=HCL
 have hk0:(Res.fail d0 d1 d2).kind=0:=rfl
 go_enter Tryz.func161,Tryz.ntmps161
 exact zan
theorem zhb (HCL:CloseC):F0 165:=by
 intro C w b d0 d1 d2 hat
 have _:=HCL
 have hk0:(Res.fail d0 d1 d2).kind=0:=rfl
 have hc8:=zft _ _ _ _ hat
 simp only[Res.bad] at hc8
 go_enter Tryz.func165,Tryz.ntmps165
 go_wp2_with (first|(go_at_call 34;refine(zfG ‹_› _ zeu).mono ?_;rintro e w' ⟨rfl,hat⟩;have hc8:=zft _ _ _ _ hat;simp only[Res.bad] at hc8)|(go_at_call 95;first|(with_reducible refine(zfz ‹_› zet).mono ?_;rintro e w' ⟨rfl,hat⟩);have hc8:=zft _ _ _ _ hat;simp only[Res.bad] at hc8))
 go_loopw [] (fun wr=>Hid (At C wr b (.fail d0 d1 d2))) (fun _=>0)
 case atStart=>assumption
 case round=>
  have hat:=hrel
  have hc8:=zft _ _ _ _ hat
  simp only[Res.bad] at hc8
  go_wp2_with (first|(go_at_call 32;refine(zfK ‹_› zeu).mono ?_;rintro e w' ⟨v,rfl,hat⟩;have hc8:=zft _ _ _ _ hat;simp only[Res.bad] at hc8)|(go_at_call 49;refine(X_f HCL _ _ _ _ _ _ _ ‹_›).mono ?_;rintro e w' ⟨v,rfl,hat⟩;have hc8:=zft _ _ _ _ hat;simp only[Res.bad] at hc8)|(go_at_call 34;refine(zfG ‹_› _ zeu).mono ?_;rintro e w' ⟨rfl,hat⟩;have hc8:=zft _ _ _ _ hat;simp only[Res.bad] at hc8)|(go_at_call 38;refine(HCL _ _ _ _ _ _ _ _ ‹_› zev zeu).mono ?_;rintro e w' ⟨v,rfl,hat⟩;have hc8:=zft _ _ _ _ hat;simp only[Res.bad] at hc8)|(go_at_call 95;first|(with_reducible refine(zfz ‹_› zet).mono ?_;rintro e w' ⟨rfl,hat⟩);have hc8:=zft _ _ _ _ hat;simp only[Res.bad] at hc8)|(go_at_call 62;first|(refine(zfE ‹_›).mono ?_;rintro e w' ⟨rfl,rfl⟩)|(refine(zfD ‹_›).mono ?_;rintro e w' ⟨⟨v,rfl⟩,rfl⟩)))
  all_goals exact zar
theorem zin (HCL:CloseC):F0 182:=by
 intro C w b d0 d1 d2 hat
 have _:=HCL
 have hk0:(Res.fail d0 d1 d2).kind=0:=rfl
 go_enter Tryz.func182,Tryz.ntmps182
 exact zan
theorem zpf (HCL:CloseC):F0 178:=by
 intro C w b d0 d1 d2 hat
 have _:=HCL
 have hk0:(Res.fail d0 d1 d2).kind=0:=rfl
 have hc8:=zft _ _ _ _ hat
 simp only[Res.bad] at hc8
 go_enter Tryz.func178,Tryz.ntmps178
 go_wp2_with (first|(go_at_call 62;first|(refine(zfE ‹_›).mono ?_;rintro e w' ⟨rfl,rfl⟩)|(refine(zfD ‹_›).mono ?_;rintro e w' ⟨⟨v,rfl⟩,rfl⟩))|(go_at_call 34;refine(zfG ‹_› _ zeu).mono ?_;rintro e w' ⟨rfl,hat⟩;have hc8:=zft _ _ _ _ hat;simp only[Res.bad] at hc8)|(go_at_call 38;refine(HCL _ _ _ _ _ _ _ _ ‹_› zev zeu).mono ?_;rintro e w' ⟨v,rfl,hat⟩;have hc8:=zft _ _ _ _ hat;simp only[Res.bad] at hc8))
 go_loopw [3] (fun p wr=>p=.int .i64 1∧Hid (At C wr b (.fail d0 d1 d2))) (fun _ _=>0)
 case atStart=>exact⟨rfl,by assumption⟩
 case round=>
  obtain⟨rfl,hat⟩:=hrel
  have hc8:=zft _ _ _ _ hat
  simp only[Res.bad] at hc8
  go_wp2_with (first|(go_at_call 32;refine(zfK ‹_› zeu).mono ?_;rintro e w' ⟨v,rfl,hat⟩;have hc8:=zft _ _ _ _ hat;simp only[Res.bad] at hc8)|(go_at_call 49;refine(X_f HCL _ _ _ _ _ _ _ ‹_›).mono ?_;rintro e w' ⟨v,rfl,hat⟩;have hc8:=zft _ _ _ _ hat;simp only[Res.bad] at hc8)|(go_at_call 34;refine(zfG ‹_› _ zeu).mono ?_;rintro e w' ⟨rfl,hat⟩;have hc8:=zft _ _ _ _ hat;simp only[Res.bad] at hc8)|(go_at_call 38;refine(HCL _ _ _ _ _ _ _ _ ‹_› zev zeu).mono ?_;rintro e w' ⟨v,rfl,hat⟩;have hc8:=zft _ _ _ _ hat;simp only[Res.bad] at hc8)|(go_at_call 95;first|(with_reducible refine(zfz ‹_› zet).mono ?_;rintro e w' ⟨rfl,hat⟩);have hc8:=zft _ _ _ _ hat;simp only[Res.bad] at hc8)|(go_at_call 62;first|(refine(zfE ‹_›).mono ?_;rintro e w' ⟨rfl,rfl⟩)|(refine(zfD ‹_›).mono ?_;rintro e w' ⟨⟨v,rfl⟩,rfl⟩)))
  all_goals exact zar
theorem zil (HCL:CloseC):FM 97:=by
 intro C w b d0 d1 d2 m hat
 have _:=HCL
 have hk0:(Res.fail d0 d1 d2).kind=0:=rfl
 go_enter Tryz.func97,Tryz.ntmps97
 exact zan
theorem ziq (HCL:CloseC):FB 98:=by
 intro C w b d0 d1 d2 h hat
 have _:=HCL
 have hk0:(Res.fail d0 d1 d2).kind=0:=rfl
 have hc8:=zft _ _ _ _ hat
 simp only[Res.bad] at hc8
 go_enter Tryz.func98,Tryz.ntmps98
 go_wp2_with (first|(go_at_call 34;refine(zfG ‹_› _ zeu).mono ?_;rintro e w' ⟨rfl,hat⟩;have hc8:=zft _ _ _ _ hat;simp only[Res.bad] at hc8)|(go_at_call 95;first|(with_reducible refine(zfz ‹_› zet).mono ?_;rintro e w' ⟨rfl,hat⟩);have hc8:=zft _ _ _ _ hat;simp only[Res.bad] at hc8))
 go_loopw [] (fun wr=>Hid (At C wr b (.fail d0 d1 d2))) (fun _=>0)
 case atStart=>assumption
 case round=>
  have hat:=hrel
  have hc8:=zft _ _ _ _ hat
  simp only[Res.bad] at hc8
  go_wp2_with (first|(go_at_call 32;refine(zfK ‹_› zeu).mono ?_;rintro e w' ⟨v,rfl,hat⟩;have hc8:=zft _ _ _ _ hat;simp only[Res.bad] at hc8)|(go_at_call 49;refine(X_f HCL _ _ _ _ _ _ _ ‹_›).mono ?_;rintro e w' ⟨v,rfl,hat⟩;have hc8:=zft _ _ _ _ hat;simp only[Res.bad] at hc8)|(go_at_call 34;refine(zfG ‹_› _ zeu).mono ?_;rintro e w' ⟨rfl,hat⟩;have hc8:=zft _ _ _ _ hat;simp only[Res.bad] at hc8)|(go_at_call 38;refine(HCL _ _ _ _ _ _ _ _ ‹_› zev zeu).mono ?_;rintro e w' ⟨v,rfl,hat⟩;have hc8:=zft _ _ _ _ hat;simp only[Res.bad] at hc8)|(go_at_call 95;first|(with_reducible refine(zfz ‹_› zet).mono ?_;rintro e w' ⟨rfl,hat⟩);have hc8:=zft _ _ _ _ hat;simp only[Res.bad] at hc8)|(go_at_call 62;first|(refine(zfE ‹_›).mono ?_;rintro e w' ⟨rfl,rfl⟩)|(refine(zfD ‹_›).mono ?_;rintro e w' ⟨⟨v,rfl⟩,rfl⟩)))
  all_goals exact zar
theorem zif (HCL:CloseC):F0 126:=by
 intro C w b d0 d1 d2 hat
 have _:=HCL
 have hk0:(Res.fail d0 d1 d2).kind=0:=rfl
 go_enter Tryz.func126,Tryz.ntmps126
 go_wp2_with (first|(go_at_call 62;first|(refine(zfE ‹_›).mono ?_;rintro e w' ⟨rfl,rfl⟩)|(refine(zfD ‹_›).mono ?_;rintro e w' ⟨⟨v,rfl⟩,rfl⟩))|(go_at_call 48;refine(zpp HCL _ _ _ _ _ _ ‹_›).mono ?_;rintro e w' ⟨v,rfl,hat⟩)|(go_at_call 51;refine(zgo HCL _ _ _ _ _ _ ‹_›).mono ?_;rintro e w' ⟨v,rfl,hat⟩)|(go_at_call 38;refine(HCL _ _ _ _ _ _ _ _ ‹_› zev zeu).mono ?_;rintro e w' ⟨v,rfl,hat⟩)|(go_at_call 95;first|(with_reducible refine(zfz ‹_› zet).mono ?_;rintro e w' ⟨rfl,hat⟩)))
 go_loopw [] (fun wr=>Hid (At C wr b (.fail d0 d1 d2))) (fun _=>0)
 case atStart=>assumption
 case round=>
  have hat:=hrel
  exact zan
theorem ziz (HCL:CloseC):F0 54:=by
 intro C w b d0 d1 d2 hat
 have _:=HCL
 have hk0:(Res.fail d0 d1 d2).kind=0:=rfl
 have hc8:=zft _ _ _ _ hat
 simp only[Res.bad] at hc8
 go_enter Tryz.func54,Tryz.ntmps54
 go_wp2_with (first|(go_at_call 62;first|(refine(zfE ‹_›).mono ?_;rintro e w' ⟨rfl,rfl⟩)|(refine(zfD ‹_›).mono ?_;rintro e w' ⟨⟨v,rfl⟩,rfl⟩))|(go_at_call 34;refine(zfG ‹_› _ zeu).mono ?_;rintro e w' ⟨rfl,hat⟩;have hc8:=zft _ _ _ _ hat;simp only[Res.bad] at hc8)|(go_at_call 95;first|(with_reducible refine(zfz ‹_› zet).mono ?_;rintro e w' ⟨rfl,hat⟩);have hc8:=zft _ _ _ _ hat;simp only[Res.bad] at hc8))
 go_loopw [] (fun wr=>Hid (At C wr b (.fail d0 d1 d2))) (fun _=>0)
 case atStart=>exact At.alloc (At.alloc (At.alloc hat _) _) _
 case round=>
  have hat:=hrel
  have hc8:=zft _ _ _ _ hat
  simp only[Res.bad] at hc8
  go_wp2_with (first|(go_at_call 32;refine(zfK ‹_› zeu).mono ?_;rintro e w' ⟨v,rfl,hat⟩;have hc8:=zft _ _ _ _ hat;simp only[Res.bad] at hc8)|(go_at_call 49;refine(X_f HCL _ _ _ _ _ _ _ ‹_›).mono ?_;rintro e w' ⟨v,rfl,hat⟩;have hc8:=zft _ _ _ _ hat;simp only[Res.bad] at hc8)|(go_at_call 34;refine(zfG ‹_› _ zeu).mono ?_;rintro e w' ⟨rfl,hat⟩;have hc8:=zft _ _ _ _ hat;simp only[Res.bad] at hc8)|(go_at_call 38;refine(HCL _ _ _ _ _ _ _ _ ‹_› zev zeu).mono ?_;rintro e w' ⟨v,rfl,hat⟩;have hc8:=zft _ _ _ _ hat;simp only[Res.bad] at hc8)|(go_at_call 95;first|(with_reducible refine(zfz ‹_› zet).mono ?_;rintro e w' ⟨rfl,hat⟩);have hc8:=zft _ _ _ _ hat;simp only[Res.bad] at hc8)|(go_at_call 62;first|(refine(zfE ‹_›).mono ?_;rintro e w' ⟨rfl,rfl⟩)|(refine(zfD ‹_›).mono ?_;rintro e w' ⟨⟨v,rfl⟩,rfl⟩)))
  all_goals exact zar
theorem zmE (HCL:CloseC):∀ (C:Keep) (w:World) (b:Nat) (d0 d1 d2:Int),Hid (At C w b (.fail d0 d1 d2))→Calls Tryz.prog 108 #[.pointer (some ⟨b,0,none⟩)] w fun e w'=>∃ (c:Int) (t:Bool),e=.returned (.tuple #[.int .i64 c,.bool t])∧Hid (At C w' b (.fail d0 d1 d2)):=by
 intro C w b d0 d1 d2 hat
 have _:=HCL
 have hk0:(Res.fail d0 d1 d2).kind=0:=rfl
 go_enter Tryz.func108,Tryz.ntmps108
 go_wp2_with (first|(go_at_call 62;first|(refine(zfE ‹_›).mono ?_;rintro e w' ⟨rfl,rfl⟩)|(refine(zfD ‹_›).mono ?_;rintro e w' ⟨⟨v,rfl⟩,rfl⟩))|(go_at_call 51;refine(zgo HCL _ _ _ _ _ _ ‹_›).mono ?_;rintro e w' ⟨v,rfl,hat⟩)|(go_at_call 95;first|(with_reducible refine(zfz ‹_› zet).mono ?_;rintro e w' ⟨rfl,hat⟩)))
 go_loopw [4] (fun p wr=>p=.int .i64 0∧Hid (At C wr b (.fail d0 d1 d2))) (fun _ _=>0)
 case atStart=>exact⟨rfl,by assumption⟩
 case round=>
  obtain⟨rfl,hat⟩:=hrel
  go_wp2_with (first|(go_at_call 62;first|(refine(zfE ‹_›).mono ?_;rintro e w' ⟨rfl,rfl⟩)|(refine(zfD ‹_›).mono ?_;rintro e w' ⟨⟨v,rfl⟩,rfl⟩))|(go_at_call 51;refine(zgo HCL _ _ _ _ _ _ ‹_›).mono ?_;rintro e w' ⟨v,rfl,hat⟩)|(go_at_call 95;first|(with_reducible refine(zfz ‹_› zet).mono ?_;rintro e w' ⟨rfl,hat⟩)))
  go_ret2
  exact⟨_,_,rfl,by assumption⟩
theorem zjr (HCL:CloseC):F0 52:=by
 intro C w b d0 d1 d2 hat
 have _:=HCL
 have hk0:(Res.fail d0 d1 d2).kind=0:=rfl
 go_enter Tryz.func52,Tryz.ntmps52
 go_wp2_with (first|(go_at_call 62;first|(refine(zfE ‹_›).mono ?_;rintro e w' ⟨rfl,rfl⟩)|(refine(zfD ‹_›).mono ?_;rintro e w' ⟨⟨v,rfl⟩,rfl⟩))|(go_at_call 54;refine(ziz HCL _ _ _ _ _ _ ‹_›).mono ?_;rintro e w' ⟨v,rfl,hat⟩)|(go_at_call 36;refine(zgU ‹_› zeu).mono ?_;rintro e w' ⟨v,rfl,hat⟩)|(go_at_call 38;refine(HCL _ _ _ _ _ _ _ _ ‹_› zev zeu).mono ?_;rintro e w' ⟨v,rfl,hat⟩)|(go_at_call 95;first|(with_reducible refine(zfz ‹_› zet).mono ?_;rintro e w' ⟨rfl,hat⟩)|(with_reducible refine(zjt ‹_› zet).mono ?_;rintro e w' ⟨rfl,hat⟩)))
 all_goals exact zar
theorem zix (HCL:CloseC):∀ (C:Keep) (w:World) (b:Nat) (d0 d1 d2 p:Int) (h:Bool),Hid (At C w b (.fail d0 d1 d2))→Calls Tryz.prog 94 #[.pointer (some ⟨b,0,none⟩),.int .i64 p,.bool h] w (Post C b (.fail d0 d1 d2)):=by
 intro C w b d0 d1 d2 p h hat
 have _:=HCL
 have hk0:(Res.fail d0 d1 d2).kind=0:=rfl
 go_enter Tryz.func94,Tryz.ntmps94
 go_wp2_with (first|(go_at_call 62;first|(refine(zfE ‹_›).mono ?_;rintro e w' ⟨rfl,rfl⟩)|(refine(zfD ‹_›).mono ?_;rintro e w' ⟨⟨v,rfl⟩,rfl⟩))|(go_at_call 124;refine(zhw HCL _ _ _ _ _ _ _ ‹_›).mono ?_;rintro e w' ⟨v,rfl,hat⟩)|(go_at_call 58;first|(refine(zgT ‹_› ‹_›).mono ?_;rintro e w' ⟨rfl,rfl⟩)|(refine(zgN ‹_›).mono ?_;rintro e w' ⟨rfl,rfl⟩))|(go_at_call 125;refine(zhO _ _).mono ?_;rintro e w' ⟨rfl,rfl⟩))
 go_loopw [] (fun wr=>Hid (At C wr b (.fail d0 d1 d2))) (fun _=>0)
 case atStart=>assumption
 case round=>
  have hat:=hrel
  exact zab
theorem zhi (HCL:CloseC):F0 127:=by
 intro C w b d0 d1 d2 hat
 have _:=HCL
 have hk0:(Res.fail d0 d1 d2).kind=0:=rfl
 go_enter Tryz.func127,Tryz.ntmps127
 exact zan
open Go.RowKit
theorem znC (z:Int):0≤precOf z∧precOf z≤5:=by
 unfold precOf
 repeat' split
 all_goals omega
theorem zjl {P:Nat→Prop} (h:∃ k,P k):∃ k,P k∧∀ j,P j→k≤j:=by
 obtain⟨k,hk⟩:=h
 induction k using Nat.strongRecOn with
 |ind k ih=>
  by_cases hj:∃ j,j<k∧P j
  ·obtain⟨j,hjk,hj⟩:=hj
   exact ih j hjk hj
  ·exact⟨k,hk,fun j hj'=>by
    rcases Nat.lt_or_ge j k with h|h
    ·exact absurd ⟨j,h,hj'⟩ hj
    ·exact h⟩
open Classical in
noncomputable def least (P:Nat→Prop):Nat:=if h:∃ k,P k then Classical.choose (zjl h) else 0
theorem zgc {P:Nat→Prop} {k:Nat} (h:P k):P (least P)∧least P≤k:=by
 have hx:∃ k,P k:=⟨k,h⟩
 unfold least
 rw[dif_pos hx]
 exact⟨(Classical.choose_spec (zjl hx)).1,(Classical.choose_spec (zjl hx)).2 k h⟩
def Lp (C:Keep) (b:Nat) (y:Res) (p:Pc) (w:World) (k:Nat):Prop:=∃ x,Hid (At C w b x)∧Hid (run k p x=some y)
noncomputable def lpOf (C:Keep) (b:Nat) (y:Res) (p:Pc) (w:World):Nat:=least (Lp C b y p w)
def Lq (C:Keep) (b:Nat) (y:Res) (p:Pc) (n:Nat) (w:World):Prop:=∃ k,k≤n∧Lp C b y p w k
section
variable {C:Keep} {w:World} {b n:Nat} {x y:Res} {p:Pc}
theorem Lq.at (hat:Hid (At C w b x)) (h:Hid (run n p x=some y)):Lq C b y p n w:=⟨n,Nat.le_refl _,x,hat,h⟩
theorem Lq.out (h:Lq C b y p n w):(∃ d0 d1 d2,y=.fail d0 d1 d2∧Hid (At C w b (.fail d0 d1 d2)))∨∃ k s,k<n∧lpOf C b y p w=k+1∧Hid (At C w b (.ok s))∧run (k+1) p (.ok s)=some y:=by
 obtain⟨k,hk,hp⟩:=h
 obtain⟨⟨x,hat,hr⟩,hle⟩:=zgc hp
 have he:least (Lp C b y p w)=lpOf C b y p w:=rfl
 rw[he] at hr hle
 generalize lpOf C b y p w=q at *
 exact zbT
theorem Lq.less {k:Nat} {w0:World} (hk:k≤n) (hat:Hid (At C w b x)) (h:Hid (run k p x=some y)) (hq:lpOf C b y p w0=k+1):Lq C b y p n w∧lpOf C b y p w<lpOf C b y p w0:=
 ⟨⟨k,hk,x,hat,h⟩,by have h2:lpOf C b y p w≤k:=(zgc (P:=Lp C b y p w) ⟨x,hat,h⟩).2;omega⟩
end
theorem zfw (s:St):(Res.ok s).bad=false:=rfl
theorem zfv (a b c:Int):(Res.fail a b c).bad=true:=rfl
theorem zhl {x:Res} {k:Int} (h:x.kind=k) (hk:k≠0):∃ t,x=.ok t:=by
 cases x with
 |fail=>exact absurd h.symm hk
 |ok t=>exact⟨t,rfl⟩
section
variable (a b c:Int)
theorem zgH {x y:Res} {c:Int} (h:rFail c x=some y):∃ d0 d1 d2,y=.fail d0 d1 d2:=by
 cases x with
 |fail a b c=>exact⟨a,b,c,(Option.some.inj h).symm⟩
 |ok s=>exact⟨_,_,_,zgA h⟩
theorem zle:rUp (.fail a b c)=some (.fail a b c):=rfl
theorem zkr (m k:Int):rClose m k (.fail a b c)=some (.fail a b c):=rfl
theorem zra:rName (.fail a b c)=some (.fail a b c):=rfl
theorem zkz:rQualified (.fail a b c)=some (.fail a b c):=rfl
end
section
variable {C:Keep} {w:World} {b:Nat} {x y:Res}
theorem zgW (HCL:CloseC) (h:Hid (At C w b x)) (hy:Hid (rName x=some y)):Calls Tryz.prog 48 #[.pointer (some ⟨b,0,none⟩)] w (Post C b y):=by
 have hy:=hy.out
 cases x with
 |fail d0 d1 d2=>
  obtain rfl:=Option.some.inj hy
  exact zpp HCL _ _ _ _ _ _ h
 |ok s=>
  obtain⟨z,hz,hy⟩:=bind_some hy
  cases z with
  |fail d0 d1 d2=>
   obtain rfl:=Option.some.inj hy
   go_enter Tryz.func48,Tryz.ntmps48
   go_wp2_with (first|(go_at_call 62;first|(refine(zfE ‹_›).mono ?_;rintro e w' ⟨rfl,rfl⟩)|(refine(zfD ‹_›).mono ?_;rintro e w' ⟨⟨v,rfl⟩,rfl⟩))|(go_at_call 48;refine(zgW HCL ‹_› zew).mono ?_;rintro e w' ⟨v,rfl,hat⟩)|(go_at_call 32;refine(zfK ‹_› zew).mono ?_;rintro e w' ⟨v,rfl,hat⟩)|(go_at_call 38;refine(HCL _ _ _ _ _ _ _ _ ‹_› zev zew).mono ?_;rintro e w' ⟨v,rfl,hat⟩)|(go_at_call 95;first|(with_reducible refine(zfC ‹_› ?hc).mono ?_;(case hc=>simp [Res.comes, *]);rintro e w' ⟨rfl,hat⟩)|(with_reducible refine(zfz ‹_› zex).mono ?_;rintro e w' ⟨rfl,hat⟩))|(go_at_call 34;refine(zfG ‹_› _ zew).mono ?_;rintro e w' ⟨rfl,hat⟩))
   all_goals exact zar
  |ok t=>
   have hc:=Lib.hid hy
   clear hy
   go_enter Tryz.func48,Tryz.ntmps48
   go_wp2_with (first|(go_at_call 62;first|(refine(zfE ‹_›).mono ?_;rintro e w' ⟨rfl,rfl⟩)|(refine(zfD ‹_›).mono ?_;rintro e w' ⟨⟨v,rfl⟩,rfl⟩))|(go_at_call 48;refine(zgW HCL ‹_› zew).mono ?_;rintro e w' ⟨v,rfl,hat⟩)|(go_at_call 32;refine(zfK ‹_› zew).mono ?_;rintro e w' ⟨v,rfl,hat⟩)|(go_at_call 38;refine(HCL _ _ _ _ _ _ _ _ ‹_› zev zew).mono ?_;rintro e w' ⟨v,rfl,hat⟩)|(go_at_call 95;first|(with_reducible refine(zfC ‹_› ?hc).mono ?_;(case hc=>simp [Res.comes, *]);rintro e w' ⟨rfl,hat⟩)|(with_reducible refine(zfz ‹_› zex).mono ?_;rintro e w' ⟨rfl,hat⟩))|(go_at_call 34;refine(zfG ‹_› _ zew).mono ?_;rintro e w' ⟨rfl,hat⟩))
   all_goals exact zar
theorem zgP (HCL:CloseC) (h:Hid (At C w b x)) (hy:Hid (rQualified x=some y)):Calls Tryz.prog 96 #[.pointer (some ⟨b,0,none⟩)] w (Post C b y):=by
 have hy:=hy.out
 cases x with
 |fail d0 d1 d2=>
  obtain rfl:=Option.some.inj hy
  exact zpT HCL _ _ _ _ _ _ h
 |ok s=>
  obtain⟨z,hz,hy⟩:=bind_some hy
  split at hy
  case isTrue hk=>
   obtain⟨u,hu,hy⟩:=bind_some hy
   obtain⟨v,hv,hy⟩:=bind_some hy
   have hc:=Lib.hid hy
   clear hy
   go_enter Tryz.func96,Tryz.ntmps96
   go_wp2_with (first|(go_at_call 62;first|(refine(zfE ‹_›).mono ?_;rintro e w' ⟨rfl,rfl⟩)|(refine(zfD ‹_›).mono ?_;rintro e w' ⟨⟨v,rfl⟩,rfl⟩))|(go_at_call 48;refine(zgW HCL ‹_› zew).mono ?_;rintro e w' ⟨v,rfl,hat⟩)|(go_at_call 32;refine(zfK ‹_› zew).mono ?_;rintro e w' ⟨v,rfl,hat⟩)|(go_at_call 38;refine(HCL _ _ _ _ _ _ _ _ ‹_› zev zew).mono ?_;rintro e w' ⟨v,rfl,hat⟩)|(go_at_call 95;first|(with_reducible refine(zfC ‹_› ?hc).mono ?_;(case hc=>simp [Res.comes, *]);rintro e w' ⟨rfl,hat⟩)|(with_reducible refine(zfz ‹_› zex).mono ?_;rintro e w' ⟨rfl,hat⟩))|(go_at_call 34;refine(zfG ‹_› _ zew).mono ?_;rintro e w' ⟨rfl,hat⟩))
   all_goals exact zar
  case isFalse hk=>
   obtain rfl:=Option.some.inj hy
   clear hy
   go_enter Tryz.func96,Tryz.ntmps96
   go_wp2_with (first|(go_at_call 62;first|(refine(zfE ‹_›).mono ?_;rintro e w' ⟨rfl,rfl⟩)|(refine(zfD ‹_›).mono ?_;rintro e w' ⟨⟨v,rfl⟩,rfl⟩))|(go_at_call 48;refine(zgW HCL ‹_› zew).mono ?_;rintro e w' ⟨v,rfl,hat⟩)|(go_at_call 32;refine(zfK ‹_› zew).mono ?_;rintro e w' ⟨v,rfl,hat⟩)|(go_at_call 38;refine(HCL _ _ _ _ _ _ _ _ ‹_› zev zew).mono ?_;rintro e w' ⟨v,rfl,hat⟩)|(go_at_call 95;first|(with_reducible refine(zfC ‹_› ?hc).mono ?_;(case hc=>simp [Res.comes, *]);rintro e w' ⟨rfl,hat⟩)|(with_reducible refine(zfz ‹_› zex).mono ?_;rintro e w' ⟨rfl,hat⟩))|(go_at_call 34;refine(zfG ‹_› _ zew).mono ?_;rintro e w' ⟨rfl,hat⟩))
   all_goals exact zar
end
end Go.Proofs.YtcekbbkidipbnaaGreat.rd
