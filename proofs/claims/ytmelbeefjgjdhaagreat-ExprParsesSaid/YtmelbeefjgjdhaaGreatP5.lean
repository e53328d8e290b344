/-
  Texts put together: Fd, Fe, Ff, Fg.
-/
import Derived.Test.YtmelbeefjgjdhaaGreatP4
set_option maxRecDepth 100000
set_option maxHeartbeats 8000000
namespace Go.Proofs.YtmelbeefjgjdhaaGreat.rd
open Go.RowKit
theorem refPrec_any (z:Int) (w:World):Calls Tryz.prog 125 #[.int .i64 z] w fun e w'=>e=.returned (.int .i64 (precOf z))∧w=w':=by
 go_enter Tryz.func125,Tryz.ntmps125
 go_wp2_with fail
 all_goals
  go_ret
  refine⟨?_,rfl⟩
  simp_all [precOf]
def CloseC:Prop:=∀ (C:Keep) (w:World) (b:Nat) (x y:Res) (m m' k:Int),Hid (At C w b x)→(x.bad=false→m=m')→Hid (rClose m' k x=some y)→Calls Tryz.prog 38 #[.pointer (some ⟨b,0,none⟩),.int .i64 m,.int .i64 k] w (Post C b y)
theorem bind_some {α β:Type} {o:Option α} {f:α→Option β} {y:β} (h:(o >>= f)=some y):∃ z,Hid (o=some z)∧f z=some y:=by
 cases o with
 |none=>cases h
 |some z=>exact⟨z,Lib.hid rfl,h⟩
theorem bind_iff {α β:Type} {o:Option α} {f:α→Option β} {y:β}:((o >>= f)=some y)↔∃ z,Hid (o=some z)∧f z=some y:=
 ⟨bind_some,fun⟨z,h1,h2⟩=>by rw[h1.out];exact h2⟩
theorem some_hid {α:Type} {a b:α}:Hid (some a=some b)↔b=a:=
 ⟨fun h=>(Option.some.inj h.out).symm,fun h=>Lib.hid (by rw[h])⟩
theorem run_fail (n:Nat) (p:Pc) (a b c:Int):run n p (.fail a b c)=some (.fail a b c):=by cases n <;> rfl
theorem run_hid (n:Nat) (p:Pc) (a b c:Int):Hid (run n p (.fail a b c)=some (.fail a b c)):=Lib.hid (run_fail n p a b c)
section
variable {C:Keep} {w:World} {b:Nat} {x y:Res}
theorem comes1_yes {k0:Int} (h:Hid (At C w b x)) (hc:x.comes [k0]=true):Calls Tryz.prog 95 #[.pointer (some ⟨b,0,none⟩),.slice (some ⟨w.heap.size,0,none⟩) 1 1] (w.alloc (.cells #[.int .i64 k0] 3)) fun e w'=>e=.returned (.bool true)∧Hid (At C w' b x):=by
 rw[← hc];exact comes_at h [k0] (by simp)
theorem comes1_no {k0:Int} (h:Hid (At C w b x)) (hc:x.comes [k0]=false):Calls Tryz.prog 95 #[.pointer (some ⟨b,0,none⟩),.slice (some ⟨w.heap.size,0,none⟩) 1 1] (w.alloc (.cells #[.int .i64 k0] 3)) fun e w'=>e=.returned (.bool false)∧Hid (At C w' b x):=by
 rw[← hc];exact comes_at h [k0] (by simp)
theorem comes2_yes {k0 k1:Int} (h:Hid (At C w b x)) (hc:x.comes [k0,k1]=true):Calls Tryz.prog 95 #[.pointer (some ⟨b,0,none⟩),.slice (some ⟨w.heap.size,0,none⟩) 2 2] (w.alloc (.cells #[.int .i64 k0,.int .i64 k1] 3)) fun e w'=>e=.returned (.bool true)∧Hid (At C w' b x):=by
 rw[← hc];exact comes_at h [k0,k1] (by simp)
theorem comes2_no {k0 k1:Int} (h:Hid (At C w b x)) (hc:x.comes [k0,k1]=false):Calls Tryz.prog 95 #[.pointer (some ⟨b,0,none⟩),.slice (some ⟨w.heap.size,0,none⟩) 2 2] (w.alloc (.cells #[.int .i64 k0,.int .i64 k1] 3)) fun e w'=>e=.returned (.bool false)∧Hid (At C w' b x):=by
 rw[← hc];exact comes_at h [k0,k1] (by simp)
theorem comes6_yes {k0 k1 k2 k3 k4 k5:Int} (h:Hid (At C w b x)) (hc:x.comes [k0,k1,k2,k3,k4,k5]=true):Calls Tryz.prog 95 #[.pointer (some ⟨b,0,none⟩),.slice (some ⟨w.heap.size,0,none⟩) 6 6] (w.alloc (.cells #[.int .i64 k0,.int .i64 k1,.int .i64 k2,.int .i64 k3,.int .i64 k4,.int .i64 k5] 3)) fun e w'=>e=.returned (.bool true)∧Hid (At C w' b x):=by
 rw[← hc];exact comes_at h [k0,k1,k2,k3,k4,k5] (by simp)
theorem comes6_no {k0 k1 k2 k3 k4 k5:Int} (h:Hid (At C w b x)) (hc:x.comes [k0,k1,k2,k3,k4,k5]=false):Calls Tryz.prog 95 #[.pointer (some ⟨b,0,none⟩),.slice (some ⟨w.heap.size,0,none⟩) 6 6] (w.alloc (.cells #[.int .i64 k0,.int .i64 k1,.int .i64 k2,.int .i64 k3,.int .i64 k4,.int .i64 k5] 3)) fun e w'=>e=.returned (.bool false)∧Hid (At C w' b x):=by
 rw[← hc];exact comes_at h [k0,k1,k2,k3,k4,k5] (by simp)
theorem comes7_yes {k0 k1 k2 k3 k4 k5 k6:Int} (h:Hid (At C w b x)) (hc:x.comes [k0,k1,k2,k3,k4,k5,k6]=true):Calls Tryz.prog 95 #[.pointer (some ⟨b,0,none⟩),.slice (some ⟨w.heap.size,0,none⟩) 7 7] (w.alloc (.cells #[.int .i64 k0,.int .i64 k1,.int .i64 k2,.int .i64 k3,.int .i64 k4,.int .i64 k5,.int .i64 k6] 3)) fun e w'=>e=.returned (.bool true)∧Hid (At C w' b x):=by
 rw[← hc];exact comes_at h [k0,k1,k2,k3,k4,k5,k6] (by simp)
theorem comes7_no {k0 k1 k2 k3 k4 k5 k6:Int} (h:Hid (At C w b x)) (hc:x.comes [k0,k1,k2,k3,k4,k5,k6]=false):Calls Tryz.prog 95 #[.pointer (some ⟨b,0,none⟩),.slice (some ⟨w.heap.size,0,none⟩) 7 7] (w.alloc (.cells #[.int .i64 k0,.int .i64 k1,.int .i64 k2,.int .i64 k3,.int .i64 k4,.int .i64 k5,.int .i64 k6] 3)) fun e w'=>e=.returned (.bool false)∧Hid (At C w' b x):=by
 rw[← hc];exact comes_at h [k0,k1,k2,k3,k4,k5,k6] (by simp)
theorem kind_is (h:Hid (At C w b x)) {k:Int} (hk:x.kind=k):Calls Tryz.prog 58 #[.pointer (some ⟨b,0,none⟩)] w fun e w'=>e=.returned (.int .i64 k)∧w=w':=by
 rw[← hk];exact kind_at h
theorem ahead_is (h:Hid (At C w b x)) (n:Nat) (hn:n≤4611686018427387904) {k:Int} (hk:x.ahead n=k):Calls Tryz.prog 60 #[.pointer (some ⟨b,0,none⟩),.int .i64 (n:Int)] w fun e w'=>e=.returned (.int .i64 k)∧w=w':=by
 rw[← hk];exact ahead_at h n hn
end
def C0 (f n:Nat) (p:Pc):Prop:=∀ (C:Keep) (w:World) (b:Nat) (x y:Res),Hid (At C w b x)→Hid (run n p x=some y)→Calls Tryz.prog f #[.pointer (some ⟨b,0,none⟩)] w (Post C b y)
def CB (f n:Nat) (p:Bool→Pc):Prop:=∀ (C:Keep) (w:World) (b:Nat) (x y:Res) (h:Bool),Hid (At C w b x)→Hid (run n (p h) x=some y)→Calls Tryz.prog f #[.pointer (some ⟨b,0,none⟩),.bool h] w (Post C b y)
def CM (f n:Nat) (p:Nat→Pc):Prop:=∀ (C:Keep) (w:World) (b:Nat) (x y:Res) (m:Int) (m':Nat),Hid (At C w b x)→(x.bad=false→m=(m':Int))→Hid (run n (p m') x=some y)→Calls Tryz.prog f #[.pointer (some ⟨b,0,none⟩),.int .i64 m] w (Post C b y)
def CBin (f n:Nat):Prop:=∀ (C:Keep) (w:World) (b:Nat) (x y:Res) (p:Int) (h:Bool),Hid (At C w b x)→Hid (run n (.binary p h) x=some y)→Calls Tryz.prog f #[.pointer (some ⟨b,0,none⟩),.int .i64 p,.bool h] w (Post C b y)
def CEnt (f n:Nat):Prop:=∀ (C:Keep) (w:World) (b:Nat) (x y:Res),Hid (At C w b x)→Hid (run n .entry x=some y)→Calls Tryz.prog f #[.pointer (some ⟨b,0,none⟩)] w (PostB C b y x.named)
def CUni (f n:Nat):Prop:=∀ (C:Keep) (w:World) (b:Nat) (x z y:Res),Hid (At C w b x)→Hid (run n .term x=some z)→Hid (run n .unionL z=some y)→Calls Tryz.prog f #[.pointer (some ⟨b,0,none⟩)] w fun e w'=>∃ (c:Int) (t:Bool),e=.returned (.tuple #[.int .i64 c,.bool t])∧Hid (At C w' b y)∧(y.bad=false→(decide (1<c) || t)=(z.kind == 26 || x.kind == 51))
structure All (n:Nat):Prop where
 X:CB 49 n .X
 binary:CBin 94 n
 unary:CB 124 n .unary
 primary:CB 143 n .primary
 period:CM 161 n .period
 index:CM 162 n .index
 cut:CM 179 n .cut
 call:CM 163 n .call
 value:C0 182 n .value
 values:C0 165 n .values
 operand:C0 160 n .operand
 flat:C0 178 n .flat
 type:C0 51 n .type
 array:CM 97 n .array
 items:CB 98 n .items
 field:C0 126 n .field
 element:C0 127 n .element
 union:CUni 108 n
 sig:C0 52 n .sig
 params:C0 54 n .params
 entry:CEnt 105 n
theorem bad_cell (C:Keep) (w:World) (b:Nat) (x:Res) (h:Hid (At C w b x)):w.cell? ⟨b,8,none⟩=some (.bool x.bad):=by
 obtain⟨vL,vR,vH,σ,D,hr,_,hi⟩:=h.out
 obtain⟨⟨_,_,_,_,_,_,_,_,b8⟩,_⟩:=nine_at hr.cells
 rw[b8]
 cases x with
 |fail=>rw[hi.1];rfl
 |ok s=>rw[hi.1];rfl
def F0 (f:Nat):Prop:=∀ (C:Keep) (w:World) (b:Nat) (d0 d1 d2:Int),Hid (At C w b (.fail d0 d1 d2))→Calls Tryz.prog f #[.pointer (some ⟨b,0,none⟩)] w (Post C b (.fail d0 d1 d2))
def FB (f:Nat):Prop:=∀ (C:Keep) (w:World) (b:Nat) (d0 d1 d2:Int) (h:Bool),Hid (At C w b (.fail d0 d1 d2))→Calls Tryz.prog f #[.pointer (some ⟨b,0,none⟩),.bool h] w (Post C b (.fail d0 d1 d2))
def FM (f:Nat):Prop:=∀ (C:Keep) (w:World) (b:Nat) (d0 d1 d2 m:Int),Hid (At C w b (.fail d0 d1 d2))→Calls Tryz.prog f #[.pointer (some ⟨b,0,none⟩),.int .i64 m] w (Post C b (.fail d0 d1 d2))
open Go.RowKit
theorem Name_f (HCL:CloseC):F0 48:=by
 intro C w b d0 d1 d2 hat
 have _:=HCL
 have hk0:(Res.fail d0 d1 d2).kind=0:=rfl
 go_enter Tryz.func48,Tryz.ntmps48
 go_wp2_with (first|(go_at_call 62;first|(refine(mark_at ‹_›).mono ?_;rintro e w' ⟨rfl,rfl⟩)|(refine(mark_bad ‹_›).mono ?_;rintro e w' ⟨⟨v,rfl⟩,rfl⟩))|(go_at_call 34;refine(expect_at ‹_› _ (by first|with_reducible assumption|exact Lib.hid rfl|assumption|exact run_hid _ _ _ _ _)).mono ?_;rintro e w' ⟨rfl,hat⟩)|(go_at_call 38;refine(HCL _ _ _ _ _ _ _ _ ‹_› (by first|exact fun _=>rfl|assumption|exact fun hb=>by cases hb) (by first|with_reducible assumption|exact Lib.hid rfl|assumption|exact run_hid _ _ _ _ _)).mono ?_;rintro e w' ⟨v,rfl,hat⟩))
 all_goals(first|go_end0|go_ret)
 all_goals exact⟨_,rfl,by assumption⟩
theorem qualified_f (HCL:CloseC):F0 96:=by
 intro C w b d0 d1 d2 hat
 have _:=HCL
 have hk0:(Res.fail d0 d1 d2).kind=0:=rfl
 go_enter Tryz.func96,Tryz.ntmps96
 go_wp2_with (first|(go_at_call 62;first|(refine(mark_at ‹_›).mono ?_;rintro e w' ⟨rfl,rfl⟩)|(refine(mark_bad ‹_›).mono ?_;rintro e w' ⟨⟨v,rfl⟩,rfl⟩))|(go_at_call 48;refine(Name_f HCL _ _ _ _ _ _ ‹_›).mono ?_;rintro e w' ⟨v,rfl,hat⟩)|(go_at_call 32;refine(take_at ‹_› (by first|with_reducible assumption|exact Lib.hid rfl|assumption|exact run_hid _ _ _ _ _)).mono ?_;rintro e w' ⟨v,rfl,hat⟩)|(go_at_call 38;refine(HCL _ _ _ _ _ _ _ _ ‹_› (by first|exact fun _=>rfl|assumption|exact fun hb=>by cases hb) (by first|with_reducible assumption|exact Lib.hid rfl|assumption|exact run_hid _ _ _ _ _)).mono ?_;rintro e w' ⟨v,rfl,hat⟩)|(go_at_call 95;first|(with_reducible refine(comes1_no ‹_› (by simp [Res.comes,hk0])).mono ?_;rintro e w' ⟨rfl,hat⟩)))
 all_goals(first|go_end0|go_ret)
 all_goals exact⟨_,rfl,by assumption⟩
theorem X_f (HCL:CloseC):FB 49:=by
 intro C w b d0 d1 d2 h hat
 have _:=HCL
 have hk0:(Res.fail d0 d1 d2).kind=0:=rfl
 go_enter Tryz.func49,Tryz.ntmps49
 go_wp2_with (first|(go_at_call 42;refine(down_at ‹_› (by first|with_reducible assumption|exact Lib.hid rfl|assumption|exact run_hid _ _ _ _ _)).mono ?_;rintro e w' ⟨rfl,hat⟩))
 all_goals(first|go_end0|go_ret)
 all_goals exact⟨_,rfl,by assumption⟩
theorem Type_f (HCL:CloseC):F0 51:=by
 intro C w b d0 d1 d2 hat
 have _:=HCL
 have hk0:(Res.fail d0 d1 d2).kind=0:=rfl
 go_enter Tryz.func51,Tryz.ntmps51
 go_wp2_with (first|(go_at_call 42;refine(down_at ‹_› (by first|with_reducible assumption|exact Lib.hid rfl|assumption|exact run_hid _ _ _ _ _)).mono ?_;rintro e w' ⟨rfl,hat⟩))
 all_goals(first|go_end0|go_ret)
 all_goals exact⟨_,rfl,by assumption⟩
theorem operand_f (HCL:CloseC):F0 160:=by
 intro C w b d0 d1 d2 hat
 have _:=HCL
 have hk0:(Res.fail d0 d1 d2).kind=0:=rfl
 go_enter Tryz.func160,Tryz.ntmps160
 go_wp2_with (first|(go_at_call 62;first|(refine(mark_at ‹_›).mono ?_;rintro e w' ⟨rfl,rfl⟩)|(refine(mark_bad ‹_›).mono ?_;rintro e w' ⟨⟨v,rfl⟩,rfl⟩))|(go_at_call 58;first|(refine(kind_is ‹_› ‹_›).mono ?_;rintro e w' ⟨rfl,rfl⟩)|(refine(kind_at ‹_›).mono ?_;rintro e w' ⟨rfl,rfl⟩))|(go_at_call 46;refine(fail_at ‹_› _ (by first|with_reducible assumption|exact Lib.hid rfl|assumption|exact run_hid _ _ _ _ _)).mono ?_;rintro e w' ⟨v,rfl,hat⟩))
 all_goals(first|go_end0|go_ret)
 all_goals exact⟨_,rfl,by assumption⟩
theorem primary_f (HCL:CloseC):FB 143:=by
 intro C w b d0 d1 d2 h hat
 have _:=HCL
 have hk0:(Res.fail d0 d1 d2).kind=0:=rfl
 have hc8:=bad_cell _ _ _ _ hat
 simp only[Res.bad] at hc8
 go_enter Tryz.func143,Tryz.ntmps143
 go_wp2_with (first|(go_at_call 62;first|(refine(mark_at ‹_›).mono ?_;rintro e w' ⟨rfl,rfl⟩)|(refine(mark_bad ‹_›).mono ?_;rintro e w' ⟨⟨v,rfl⟩,rfl⟩))|(go_at_call 160;refine(operand_f HCL _ _ _ _ _ _ ‹_›).mono ?_;rintro e w' ⟨v,rfl,hat⟩;have hc8:=bad_cell _ _ _ _ hat;simp only[Res.bad] at hc8))
 go_loopw [] (fun wr=>Hid (At C wr b (.fail d0 d1 d2))) (fun _=>0)
 case atStart=>assumption
 case round=>
  have hat:=hrel
  have hc8:=bad_cell _ _ _ _ hat
  simp only[Res.bad] at hc8
  go_wp2_with (first|(go_at_call 62;first|(refine(mark_at ‹_›).mono ?_;rintro e w' ⟨rfl,rfl⟩)|(refine(mark_bad ‹_›).mono ?_;rintro e w' ⟨⟨v,rfl⟩,rfl⟩))|(go_at_call 160;refine(operand_f HCL _ _ _ _ _ _ ‹_›).mono ?_;rintro e w' ⟨v,rfl,hat⟩;have hc8:=bad_cell _ _ _ _ hat;simp only[Res.bad] at hc8))
  all_goals(first|go_end0|go_ret)
  all_goals exact⟨_,rfl,by assumption⟩
theorem unary_f (HCL:CloseC):FB 124:=by
 intro C w b d0 d1 d2 h hat
 have _:=HCL
 have hk0:(Res.fail d0 d1 d2).kind=0:=rfl
 go_enter Tryz.func124,Tryz.ntmps124
 go_wp2_with (first|(go_at_call 62;first|(refine(mark_at ‹_›).mono ?_;rintro e w' ⟨rfl,rfl⟩)|(refine(mark_bad ‹_›).mono ?_;rintro e w' ⟨⟨v,rfl⟩,rfl⟩))|(go_at_call 143;refine(primary_f HCL _ _ _ _ _ _ _ ‹_›).mono ?_;rintro e w' ⟨v,rfl,hat⟩)|(go_at_call 95;first|(with_reducible refine(comes1_no ‹_› (by simp [Res.comes,hk0])).mono ?_;rintro e w' ⟨rfl,hat⟩)|(with_reducible refine(comes6_no ‹_› (by simp [Res.comes,hk0])).mono ?_;rintro e w' ⟨rfl,hat⟩)))
 all_goals(first|go_end0|go_ret)
 all_goals exact⟨_,rfl,by assumption⟩
open Go.RowKit
theorem cut_f (HCL:CloseC):FM 179:=by
 intro C w b d0 d1 d2 m hat
 have _:=HCL
 have hk0:(Res.fail d0 d1 d2).kind=0:=rfl
 go_enter Tryz.func179,Tryz.ntmps179
 go_wp2_with (first|(go_at_call 32;refine(take_at ‹_› (by first|with_reducible assumption|exact Lib.hid rfl|assumption|exact run_hid _ _ _ _ _)).mono ?_;rintro e w' ⟨v,rfl,hat⟩)|(go_at_call 36;refine(none_at ‹_› (by first|with_reducible assumption|exact Lib.hid rfl|assumption|exact run_hid _ _ _ _ _)).mono ?_;rintro e w' ⟨v,rfl,hat⟩)|(go_at_call 49;refine(X_f HCL _ _ _ _ _ _ _ ‹_›).mono ?_;rintro e w' ⟨v,rfl,hat⟩)|(go_at_call 46;refine(fail_at ‹_› _ (by first|with_reducible assumption|exact Lib.hid rfl|assumption|exact run_hid _ _ _ _ _)).mono ?_;rintro e w' ⟨v,rfl,hat⟩)|(go_at_call 34;refine(expect_at ‹_› _ (by first|with_reducible assumption|exact Lib.hid rfl|assumption|exact run_hid _ _ _ _ _)).mono ?_;rintro e w' ⟨rfl,hat⟩)|(go_at_call 38;refine(HCL _ _ _ _ _ _ _ _ ‹_› (by first|exact fun _=>rfl|assumption|exact fun hb=>by cases hb) (by first|with_reducible assumption|exact Lib.hid rfl|assumption|exact run_hid _ _ _ _ _)).mono ?_;rintro e w' ⟨v,rfl,hat⟩)|(go_at_call 95;first|(with_reducible refine(comes1_no ‹_› (by simp [Res.comes,hk0])).mono ?_;rintro e w' ⟨rfl,hat⟩)|(with_reducible refine(comes2_no ‹_› (by simp [Res.comes,hk0])).mono ?_;rintro e w' ⟨rfl,hat⟩)))
 all_goals(first|go_end0|go_ret)
 all_goals exact⟨_,rfl,by assumption⟩
theorem index_f (HCL:CloseC):FM 162:=by
 intro C w b d0 d1 d2 m hat
 have _:=HCL
 have hk0:(Res.fail d0 d1 d2).kind=0:=rfl
 go_enter Tryz.func162,Tryz.ntmps162
 go_wp2_with (first|(go_at_call 32;refine(take_at ‹_› (by first|with_reducible assumption|exact Lib.hid rfl|assumption|exact run_hid _ _ _ _ _)).mono ?_;rintro e w' ⟨v,rfl,hat⟩)|(go_at_call 49;refine(X_f HCL _ _ _ _ _ _ _ ‹_›).mono ?_;rintro e w' ⟨v,rfl,hat⟩)|(go_at_call 179;refine(cut_f HCL _ _ _ _ _ _ _ ‹_›).mono ?_;rintro e w' ⟨v,rfl,hat⟩)|(go_at_call 34;refine(expect_at ‹_› _ (by first|with_reducible assumption|exact Lib.hid rfl|assumption|exact run_hid _ _ _ _ _)).mono ?_;rintro e w' ⟨rfl,hat⟩)|(go_at_call 38;refine(HCL _ _ _ _ _ _ _ _ ‹_› (by first|exact fun _=>rfl|assumption|exact fun hb=>by cases hb) (by first|with_reducible assumption|exact Lib.hid rfl|assumption|exact run_hid _ _ _ _ _)).mono ?_;rintro e w' ⟨v,rfl,hat⟩)|(go_at_call 95;first|(with_reducible refine(comes1_no ‹_› (by simp [Res.comes,hk0])).mono ?_;rintro e w' ⟨rfl,hat⟩)))
 go_loopw [] (fun wr=>Hid (At C wr b (.fail d0 d1 d2))) (fun _=>0)
 case atStart=>assumption
 case round=>
  have hat:=hrel
  go_wp2_with (first|(go_at_call 32;refine(take_at ‹_› (by first|with_reducible assumption|exact Lib.hid rfl|assumption|exact run_hid _ _ _ _ _)).mono ?_;rintro e w' ⟨v,rfl,hat⟩)|(go_at_call 49;refine(X_f HCL _ _ _ _ _ _ _ ‹_›).mono ?_;rintro e w' ⟨v,rfl,hat⟩)|(go_at_call 179;refine(cut_f HCL _ _ _ _ _ _ _ ‹_›).mono ?_;rintro e w' ⟨v,rfl,hat⟩)|(go_at_call 34;refine(expect_at ‹_› _ (by first|with_reducible assumption|exact Lib.hid rfl|assumption|exact run_hid _ _ _ _ _)).mono ?_;rintro e w' ⟨rfl,hat⟩)|(go_at_call 38;refine(HCL _ _ _ _ _ _ _ _ ‹_› (by first|exact fun _=>rfl|assumption|exact fun hb=>by cases hb) (by first|with_reducible assumption|exact Lib.hid rfl|assumption|exact run_hid _ _ _ _ _)).mono ?_;rintro e w' ⟨v,rfl,hat⟩)|(go_at_call 95;first|(with_reducible refine(comes1_no ‹_› (by simp [Res.comes,hk0])).mono ?_;rintro e w' ⟨rfl,hat⟩)))
  all_goals(first|go_end0|go_ret)
  all_goals exact⟨_,rfl,by assumption⟩
theorem call_f (HCL:CloseC):FM 163:=by
 intro C w b d0 d1 d2 m hat
 have _:=HCL
 have hk0:(Res.fail d0 d1 d2).kind=0:=rfl
 have hc8:=bad_cell _ _ _ _ hat
 simp only[Res.bad] at hc8
 go_enter Tryz.func163,Tryz.ntmps163
 go_wp2_with (first|(go_at_call 32;refine(take_at ‹_› (by first|with_reducible assumption|exact Lib.hid rfl|assumption|exact run_hid _ _ _ _ _)).mono ?_;rintro e w' ⟨v,rfl,hat⟩;have hc8:=bad_cell _ _ _ _ hat;simp only[Res.bad] at hc8)|(go_at_call 49;refine(X_f HCL _ _ _ _ _ _ _ ‹_›).mono ?_;rintro e w' ⟨v,rfl,hat⟩;have hc8:=bad_cell _ _ _ _ hat;simp only[Res.bad] at hc8)|(go_at_call 34;refine(expect_at ‹_› _ (by first|with_reducible assumption|exact Lib.hid rfl|assumption|exact run_hid _ _ _ _ _)).mono ?_;rintro e w' ⟨rfl,hat⟩;have hc8:=bad_cell _ _ _ _ hat;simp only[Res.bad] at hc8)|(go_at_call 38;refine(HCL _ _ _ _ _ _ _ _ ‹_› (by first|exact fun _=>rfl|assumption|exact fun hb=>by cases hb) (by first|with_reducible assumption|exact Lib.hid rfl|assumption|exact run_hid _ _ _ _ _)).mono ?_;rintro e w' ⟨v,rfl,hat⟩;have hc8:=bad_cell _ _ _ _ hat;simp only[Res.bad] at hc8)|(go_at_call 95;first|(with_reducible refine(comes1_no ‹_› (by simp [Res.comes,hk0])).mono ?_;rintro e w' ⟨rfl,hat⟩);have hc8:=bad_cell _ _ _ _ hat;simp only[Res.bad] at hc8))
 go_loopw [] (fun wr=>Hid (At C wr b (.fail d0 d1 d2))) (fun _=>0)
 case atStart=>assumption
 case round=>
  have hat:=hrel
  have hc8:=bad_cell _ _ _ _ hat
  simp only[Res.bad] at hc8
  go_wp2_with (first|(go_at_call 32;refine(take_at ‹_› (by first|with_reducible assumption|exact Lib.hid rfl|assumption|exact run_hid _ _ _ _ _)).mono ?_;rintro e w' ⟨v,rfl,hat⟩;have hc8:=bad_cell _ _ _ _ hat;simp only[Res.bad] at hc8)|(go_at_call 49;refine(X_f HCL _ _ _ _ _ _ _ ‹_›).mono ?_;rintro e w' ⟨v,rfl,hat⟩;have hc8:=bad_cell _ _ _ _ hat;simp only[Res.bad] at hc8)|(go_at_call 34;refine(expect_at ‹_› _ (by first|with_reducible assumption|exact Lib.hid rfl|assumption|exact run_hid _ _ _ _ _)).mono ?_;rintro e w' ⟨rfl,hat⟩;have hc8:=bad_cell _ _ _ _ hat;simp only[Res.bad] at hc8)|(go_at_call 38;refine(HCL _ _ _ _ _ _ _ _ ‹_› (by first|exact fun _=>rfl|assumption|exact fun hb=>by cases hb) (by first|with_reducible assumption|exact Lib.hid rfl|assumption|exact run_hid _ _ _ _ _)).mono ?_;rintro e w' ⟨v,rfl,hat⟩;have hc8:=bad_cell _ _ _ _ hat;simp only[Res.bad] at hc8)|(go_at_call 95;first|(with_reducible refine(comes1_no ‹_› (by simp [Res.comes,hk0])).mono ?_;rintro e w' ⟨rfl,hat⟩);have hc8:=bad_cell _ _ _ _ hat;simp only[Res.bad] at hc8))
  all_goals(first|go_end0|go_ret)
  all_goals exact⟨_,rfl,by assumption⟩
theorem period_f (HCL:CloseC):FM 161:=by
 intro C w b d0 d1 d2 m hat
 have _:=HCL
 have hk0:(Res.fail d0 d1 d2).kind=0:=rfl
 go_enter Tryz.func161,Tryz.ntmps161
 go_wp2_with (first|(go_at_call 32;refine(take_at ‹_› (by first|with_reducible assumption|exact Lib.hid rfl|assumption|exact run_hid _ _ _ _ _)).mono ?_;rintro e w' ⟨v,rfl,hat⟩)|(go_at_call 48;refine(Name_f HCL _ _ _ _ _ _ ‹_›).mono ?_;rintro e w' ⟨v,rfl,hat⟩)|(go_at_call 38;refine(HCL _ _ _ _ _ _ _ _ ‹_› (by first|exact fun _=>rfl|assumption|exact fun hb=>by cases hb) (by first|with_reducible assumption|exact Lib.hid rfl|assumption|exact run_hid _ _ _ _ _)).mono ?_;rintro e w' ⟨v,rfl,hat⟩)|(go_at_call 51;refine(Type_f HCL _ _ _ _ _ _ ‹_›).mono ?_;rintro e w' ⟨v,rfl,hat⟩)|(go_at_call 34;refine(expect_at ‹_› _ (by first|with_reducible assumption|exact Lib.hid rfl|assumption|exact run_hid _ _ _ _ _)).mono ?_;rintro e w' ⟨rfl,hat⟩)|(go_at_call 46;refine(fail_at ‹_› _ (by first|with_reducible assumption|exact Lib.hid rfl|assumption|exact run_hid _ _ _ _ _)).mono ?_;rintro e w' ⟨v,rfl,hat⟩)|(go_at_call 95;first|(with_reducible refine(comes1_no ‹_› (by simp [Res.comes,hk0])).mono ?_;rintro e w' ⟨rfl,hat⟩)))
 all_goals(first|go_end0|go_ret)
 all_goals exact⟨_,rfl,by assumption⟩
theorem values_f (HCL:CloseC):F0 165:=by
 intro C w b d0 d1 d2 hat
 have _:=HCL
 have hk0:(Res.fail d0 d1 d2).kind=0:=rfl
 have hc8:=bad_cell _ _ _ _ hat
 simp only[Res.bad] at hc8
 go_enter Tryz.func165,Tryz.ntmps165
 go_wp2_with (first|(go_at_call 34;refine(expect_at ‹_› _ (by first|with_reducible assumption|exact Lib.hid rfl|assumption|exact run_hid _ _ _ _ _)).mono ?_;rintro e w' ⟨rfl,hat⟩;have hc8:=bad_cell _ _ _ _ hat;simp only[Res.bad] at hc8)|(go_at_call 95;first|(with_reducible refine(comes1_no ‹_› (by simp [Res.comes,hk0])).mono ?_;rintro e w' ⟨rfl,hat⟩);have hc8:=bad_cell _ _ _ _ hat;simp only[Res.bad] at hc8))
 go_loopw [] (fun wr=>Hid (At C wr b (.fail d0 d1 d2))) (fun _=>0)
 case atStart=>assumption
 case round=>
  have hat:=hrel
  have hc8:=bad_cell _ _ _ _ hat
  simp only[Res.bad] at hc8
  go_wp2_with (first|(go_at_call 34;refine(expect_at ‹_› _ (by first|with_reducible assumption|exact Lib.hid rfl|assumption|exact run_hid _ _ _ _ _)).mono ?_;rintro e w' ⟨rfl,hat⟩;have hc8:=bad_cell _ _ _ _ hat;simp only[Res.bad] at hc8)|(go_at_call 95;first|(with_reducible refine(comes1_no ‹_› (by simp [Res.comes,hk0])).mono ?_;rintro e w' ⟨rfl,hat⟩);have hc8:=bad_cell _ _ _ _ hat;simp only[Res.bad] at hc8))
  all_goals(first|go_end0|go_ret)
  all_goals exact⟨_,rfl,by assumption⟩
theorem value_f (HCL:CloseC):F0 182:=by
 intro C w b d0 d1 d2 hat
 have _:=HCL
 have hk0:(Res.fail d0 d1 d2).kind=0:=rfl
 go_enter Tryz.func182,Tryz.ntmps182
 go_wp2_with (first|(go_at_call 49;refine(X_f HCL _ _ _ _ _ _ _ ‹_›).mono ?_;rintro e w' ⟨v,rfl,hat⟩)|(go_at_call 95;first|(with_reducible refine(comes1_no ‹_› (by simp [Res.comes,hk0])).mono ?_;rintro e w' ⟨rfl,hat⟩)))
 all_goals(first|go_end0|go_ret)
 all_goals exact⟨_,rfl,by assumption⟩
theorem flat_f (HCL:CloseC):F0 178:=by
 intro C w b d0 d1 d2 hat
 have _:=HCL
 have hk0:(Res.fail d0 d1 d2).kind=0:=rfl
 have hc8:=bad_cell _ _ _ _ hat
 simp only[Res.bad] at hc8
 go_enter Tryz.func178,Tryz.ntmps178
 go_wp2_with (first|(go_at_call 62;first|(refine(mark_at ‹_›).mono ?_;rintro e w' ⟨rfl,rfl⟩)|(refine(mark_bad ‹_›).mono ?_;rintro e w' ⟨⟨v,rfl⟩,rfl⟩))|(go_at_call 34;refine(expect_at ‹_› _ (by first|with_reducible assumption|exact Lib.hid rfl|assumption|exact run_hid _ _ _ _ _)).mono ?_;rintro e w' ⟨rfl,hat⟩;have hc8:=bad_cell _ _ _ _ hat;simp only[Res.bad] at hc8)|(go_at_call 38;refine(HCL _ _ _ _ _ _ _ _ ‹_› (by first|exact fun _=>rfl|assumption|exact fun hb=>by cases hb) (by first|with_reducible assumption|exact Lib.hid rfl|assumption|exact run_hid _ _ _ _ _)).mono ?_;rintro e w' ⟨v,rfl,hat⟩;have hc8:=bad_cell _ _ _ _ hat;simp only[Res.bad] at hc8))
 go_loopw [3] (fun p wr=>p=.int .i64 1∧Hid (At C wr b (.fail d0 d1 d2))) (fun _ _=>0)
 case atStart=>exact⟨rfl,by assumption⟩
 case round=>
  obtain⟨rfl,hat⟩:=hrel
  have hc8:=bad_cell _ _ _ _ hat
  simp only[Res.bad] at hc8
  go_wp2_with (first|(go_at_call 62;first|(refine(mark_at ‹_›).mono ?_;rintro e w' ⟨rfl,rfl⟩)|(refine(mark_bad ‹_›).mono ?_;rintro e w' ⟨⟨v,rfl⟩,rfl⟩))|(go_at_call 34;refine(expect_at ‹_› _ (by first|with_reducible assumption|exact Lib.hid rfl|assumption|exact run_hid _ _ _ _ _)).mono ?_;rintro e w' ⟨rfl,hat⟩;have hc8:=bad_cell _ _ _ _ hat;simp only[Res.bad] at hc8)|(go_at_call 38;refine(HCL _ _ _ _ _ _ _ _ ‹_› (by first|exact fun _=>rfl|assumption|exact fun hb=>by cases hb) (by first|with_reducible assumption|exact Lib.hid rfl|assumption|exact run_hid _ _ _ _ _)).mono ?_;rintro e w' ⟨v,rfl,hat⟩;have hc8:=bad_cell _ _ _ _ hat;simp only[Res.bad] at hc8))
  all_goals(first|go_end0|go_ret)
  all_goals exact⟨_,rfl,by assumption⟩
theorem array_f (HCL:CloseC):FM 97:=by
 intro C w b d0 d1 d2 m hat
 have _:=HCL
 have hk0:(Res.fail d0 d1 d2).kind=0:=rfl
 go_enter Tryz.func97,Tryz.ntmps97
 go_wp2_with (first|(go_at_call 32;refine(take_at ‹_› (by first|with_reducible assumption|exact Lib.hid rfl|assumption|exact run_hid _ _ _ _ _)).mono ?_;rintro e w' ⟨v,rfl,hat⟩)|(go_at_call 49;refine(X_f HCL _ _ _ _ _ _ _ ‹_›).mono ?_;rintro e w' ⟨v,rfl,hat⟩)|(go_at_call 34;refine(expect_at ‹_› _ (by first|with_reducible assumption|exact Lib.hid rfl|assumption|exact run_hid _ _ _ _ _)).mono ?_;rintro e w' ⟨rfl,hat⟩)|(go_at_call 51;refine(Type_f HCL _ _ _ _ _ _ ‹_›).mono ?_;rintro e w' ⟨v,rfl,hat⟩)|(go_at_call 38;refine(HCL _ _ _ _ _ _ _ _ ‹_› (by first|exact fun _=>rfl|assumption|exact fun hb=>by cases hb) (by first|with_reducible assumption|exact Lib.hid rfl|assumption|exact run_hid _ _ _ _ _)).mono ?_;rintro e w' ⟨v,rfl,hat⟩)|(go_at_call 95;first|(with_reducible refine(comes1_no ‹_› (by simp [Res.comes,hk0])).mono ?_;rintro e w' ⟨rfl,hat⟩)))
 all_goals(first|go_end0|go_ret)
 all_goals exact⟨_,rfl,by assumption⟩
theorem items_f (HCL:CloseC):FB 98:=by
 intro C w b d0 d1 d2 h hat
 have _:=HCL
 have hk0:(Res.fail d0 d1 d2).kind=0:=rfl
 have hc8:=bad_cell _ _ _ _ hat
 simp only[Res.bad] at hc8
 go_enter Tryz.func98,Tryz.ntmps98
 go_wp2_with (first|(go_at_call 34;refine(expect_at ‹_› _ (by first|with_reducible assumption|exact Lib.hid rfl|assumption|exact run_hid _ _ _ _ _)).mono ?_;rintro e w' ⟨rfl,hat⟩;have hc8:=bad_cell _ _ _ _ hat;simp only[Res.bad] at hc8)|(go_at_call 95;first|(with_reducible refine(comes1_no ‹_› (by simp [Res.comes,hk0])).mono ?_;rintro e w' ⟨rfl,hat⟩);have hc8:=bad_cell _ _ _ _ hat;simp only[Res.bad] at hc8))
 go_loopw [] (fun wr=>Hid (At C wr b (.fail d0 d1 d2))) (fun _=>0)
 case atStart=>assumption
 case round=>
  have hat:=hrel
  have hc8:=bad_cell _ _ _ _ hat
  simp only[Res.bad] at hc8
  go_wp2_with (first|(go_at_call 34;refine(expect_at ‹_› _ (by first|with_reducible assumption|exact Lib.hid rfl|assumption|exact run_hid _ _ _ _ _)).mono ?_;rintro e w' ⟨rfl,hat⟩;have hc8:=bad_cell _ _ _ _ hat;simp only[Res.bad] at hc8)|(go_at_call 95;first|(with_reducible refine(comes1_no ‹_› (by simp [Res.comes,hk0])).mono ?_;rintro e w' ⟨rfl,hat⟩);have hc8:=bad_cell _ _ _ _ hat;simp only[Res.bad] at hc8))
  all_goals(first|go_end0|go_ret)
  all_goals exact⟨_,rfl,by assumption⟩
theorem field_f (HCL:CloseC):F0 126:=by
 intro C w b d0 d1 d2 hat
 have _:=HCL
 have hk0:(Res.fail d0 d1 d2).kind=0:=rfl
 go_enter Tryz.func126,Tryz.ntmps126
 go_wp2_with (first|(go_at_call 62;first|(refine(mark_at ‹_›).mono ?_;rintro e w' ⟨rfl,rfl⟩)|(refine(mark_bad ‹_›).mono ?_;rintro e w' ⟨⟨v,rfl⟩,rfl⟩))|(go_at_call 48;refine(Name_f HCL _ _ _ _ _ _ ‹_›).mono ?_;rintro e w' ⟨v,rfl,hat⟩)|(go_at_call 51;refine(Type_f HCL _ _ _ _ _ _ ‹_›).mono ?_;rintro e w' ⟨v,rfl,hat⟩)|(go_at_call 38;refine(HCL _ _ _ _ _ _ _ _ ‹_› (by first|exact fun _=>rfl|assumption|exact fun hb=>by cases hb) (by first|with_reducible assumption|exact Lib.hid rfl|assumption|exact run_hid _ _ _ _ _)).mono ?_;rintro e w' ⟨v,rfl,hat⟩)|(go_at_call 95;first|(with_reducible refine(comes1_no ‹_› (by simp [Res.comes,hk0])).mono ?_;rintro e w' ⟨rfl,hat⟩)))
 go_loopw [] (fun wr=>Hid (At C wr b (.fail d0 d1 d2))) (fun _=>0)
 case atStart=>assumption
 case round=>
  have hat:=hrel
  go_wp2_with (first|(go_at_call 62;first|(refine(mark_at ‹_›).mono ?_;rintro e w' ⟨rfl,rfl⟩)|(refine(mark_bad ‹_›).mono ?_;rintro e w' ⟨⟨v,rfl⟩,rfl⟩))|(go_at_call 48;refine(Name_f HCL _ _ _ _ _ _ ‹_›).mono ?_;rintro e w' ⟨v,rfl,hat⟩)|(go_at_call 51;refine(Type_f HCL _ _ _ _ _ _ ‹_›).mono ?_;rintro e w' ⟨v,rfl,hat⟩)|(go_at_call 38;refine(HCL _ _ _ _ _ _ _ _ ‹_› (by first|exact fun _=>rfl|assumption|exact fun hb=>by cases hb) (by first|with_reducible assumption|exact Lib.hid rfl|assumption|exact run_hid _ _ _ _ _)).mono ?_;rintro e w' ⟨v,rfl,hat⟩)|(go_at_call 95;first|(with_reducible refine(comes1_no ‹_› (by simp [Res.comes,hk0])).mono ?_;rintro e w' ⟨rfl,hat⟩)))
  all_goals(first|go_end0|go_ret)
  all_goals exact⟨_,rfl,by assumption⟩
theorem Params_f (HCL:CloseC):F0 54:=by
 intro C w b d0 d1 d2 hat
 have _:=HCL
 have hk0:(Res.fail d0 d1 d2).kind=0:=rfl
 have hc8:=bad_cell _ _ _ _ hat
 simp only[Res.bad] at hc8
 go_enter Tryz.func54,Tryz.ntmps54
 go_wp2_with (first|(go_at_call 62;first|(refine(mark_at ‹_›).mono ?_;rintro e w' ⟨rfl,rfl⟩)|(refine(mark_bad ‹_›).mono ?_;rintro e w' ⟨⟨v,rfl⟩,rfl⟩))|(go_at_call 34;refine(expect_at ‹_› _ (by first|with_reducible assumption|exact Lib.hid rfl|assumption|exact run_hid _ _ _ _ _)).mono ?_;rintro e w' ⟨rfl,hat⟩;have hc8:=bad_cell _ _ _ _ hat;simp only[Res.bad] at hc8)|(go_at_call 95;first|(with_reducible refine(comes1_no ‹_› (by simp [Res.comes,hk0])).mono ?_;rintro e w' ⟨rfl,hat⟩);have hc8:=bad_cell _ _ _ _ hat;simp only[Res.bad] at hc8))
 go_loopw [] (fun wr=>Hid (At C wr b (.fail d0 d1 d2))) (fun _=>0)
 case atStart=>exact At.alloc (At.alloc (At.alloc hat _) _) _
 case round=>
  have hat:=hrel
  have hc8:=bad_cell _ _ _ _ hat
  simp only[Res.bad] at hc8
  go_wp2_with (first|(go_at_call 62;first|(refine(mark_at ‹_›).mono ?_;rintro e w' ⟨rfl,rfl⟩)|(refine(mark_bad ‹_›).mono ?_;rintro e w' ⟨⟨v,rfl⟩,rfl⟩))|(go_at_call 34;refine(expect_at ‹_› _ (by first|with_reducible assumption|exact Lib.hid rfl|assumption|exact run_hid _ _ _ _ _)).mono ?_;rintro e w' ⟨rfl,hat⟩;have hc8:=bad_cell _ _ _ _ hat;simp only[Res.bad] at hc8)|(go_at_call 95;first|(with_reducible refine(comes1_no ‹_› (by simp [Res.comes,hk0])).mono ?_;rintro e w' ⟨rfl,hat⟩);have hc8:=bad_cell _ _ _ _ hat;simp only[Res.bad] at hc8))
  all_goals(first|go_end0|go_ret)
  all_goals exact⟨_,rfl,by assumption⟩
theorem union_f (HCL:CloseC):∀ (C:Keep) (w:World) (b:Nat) (d0 d1 d2:Int),Hid (At C w b (.fail d0 d1 d2))→Calls Tryz.prog 108 #[.pointer (some ⟨b,0,none⟩)] w fun e w'=>∃ (c:Int) (t:Bool),e=.returned (.tuple #[.int .i64 c,.bool t])∧Hid (At C w' b (.fail d0 d1 d2)):=by
 intro C w b d0 d1 d2 hat
 have _:=HCL
 have hk0:(Res.fail d0 d1 d2).kind=0:=rfl
 go_enter Tryz.func108,Tryz.ntmps108
 go_wp2_with (first|(go_at_call 62;first|(refine(mark_at ‹_›).mono ?_;rintro e w' ⟨rfl,rfl⟩)|(refine(mark_bad ‹_›).mono ?_;rintro e w' ⟨⟨v,rfl⟩,rfl⟩))|(go_at_call 51;refine(Type_f HCL _ _ _ _ _ _ ‹_›).mono ?_;rintro e w' ⟨v,rfl,hat⟩)|(go_at_call 95;first|(with_reducible refine(comes1_no ‹_› (by simp [Res.comes,hk0])).mono ?_;rintro e w' ⟨rfl,hat⟩)))
 go_loopw [4] (fun p wr=>p=.int .i64 0∧Hid (At C wr b (.fail d0 d1 d2))) (fun _ _=>0)
 case atStart=>exact⟨rfl,by assumption⟩
 case round=>
  obtain⟨rfl,hat⟩:=hrel
  go_wp2_with (first|(go_at_call 62;first|(refine(mark_at ‹_›).mono ?_;rintro e w' ⟨rfl,rfl⟩)|(refine(mark_bad ‹_›).mono ?_;rintro e w' ⟨⟨v,rfl⟩,rfl⟩))|(go_at_call 51;refine(Type_f HCL _ _ _ _ _ _ ‹_›).mono ?_;rintro e w' ⟨v,rfl,hat⟩)|(go_at_call 95;first|(with_reducible refine(comes1_no ‹_› (by simp [Res.comes,hk0])).mono ?_;rintro e w' ⟨rfl,hat⟩)))
  go_ret2
  exact⟨_,_,rfl,by assumption⟩
theorem Sig_f (HCL:CloseC):F0 52:=by
 intro C w b d0 d1 d2 hat
 have _:=HCL
 have hk0:(Res.fail d0 d1 d2).kind=0:=rfl
 go_enter Tryz.func52,Tryz.ntmps52
 go_wp2_with (first|(go_at_call 62;first|(refine(mark_at ‹_›).mono ?_;rintro e w' ⟨rfl,rfl⟩)|(refine(mark_bad ‹_›).mono ?_;rintro e w' ⟨⟨v,rfl⟩,rfl⟩))|(go_at_call 54;refine(Params_f HCL _ _ _ _ _ _ ‹_›).mono ?_;rintro e w' ⟨v,rfl,hat⟩)|(go_at_call 36;refine(none_at ‹_› (by first|with_reducible assumption|exact Lib.hid rfl|assumption|exact run_hid _ _ _ _ _)).mono ?_;rintro e w' ⟨v,rfl,hat⟩)|(go_at_call 38;refine(HCL _ _ _ _ _ _ _ _ ‹_› (by first|exact fun _=>rfl|assumption|exact fun hb=>by cases hb) (by first|with_reducible assumption|exact Lib.hid rfl|assumption|exact run_hid _ _ _ _ _)).mono ?_;rintro e w' ⟨v,rfl,hat⟩)|(go_at_call 95;first|(with_reducible refine(comes1_no ‹_› (by simp [Res.comes,hk0])).mono ?_;rintro e w' ⟨rfl,hat⟩)|(with_reducible refine(comes7_no ‹_› (by simp [Res.comes,hk0])).mono ?_;rintro e w' ⟨rfl,hat⟩)))
 all_goals(first|go_end0|go_ret)
 all_goals exact⟨_,rfl,by assumption⟩
theorem binary_f (HCL:CloseC):∀ (C:Keep) (w:World) (b:Nat) (d0 d1 d2 p:Int) (h:Bool),Hid (At C w b (.fail d0 d1 d2))→Calls Tryz.prog 94 #[.pointer (some ⟨b,0,none⟩),.int .i64 p,.bool h] w (Post C b (.fail d0 d1 d2)):=by
 intro C w b d0 d1 d2 p h hat
 have _:=HCL
 have hk0:(Res.fail d0 d1 d2).kind=0:=rfl
 go_enter Tryz.func94,Tryz.ntmps94
 go_wp2_with (first|(go_at_call 62;first|(refine(mark_at ‹_›).mono ?_;rintro e w' ⟨rfl,rfl⟩)|(refine(mark_bad ‹_›).mono ?_;rintro e w' ⟨⟨v,rfl⟩,rfl⟩))|(go_at_call 124;refine(unary_f HCL _ _ _ _ _ _ _ ‹_›).mono ?_;rintro e w' ⟨v,rfl,hat⟩)|(go_at_call 58;first|(refine(kind_is ‹_› ‹_›).mono ?_;rintro e w' ⟨rfl,rfl⟩)|(refine(kind_at ‹_›).mono ?_;rintro e w' ⟨rfl,rfl⟩))|(go_at_call 125;refine(refPrec_any _ _).mono ?_;rintro e w' ⟨rfl,rfl⟩))
 go_loopw [] (fun wr=>Hid (At C wr b (.fail d0 d1 d2))) (fun _=>0)
 case atStart=>assumption
 case round=>
  have hat:=hrel
  go_wp2_with (first|(go_at_call 62;first|(refine(mark_at ‹_›).mono ?_;rintro e w' ⟨rfl,rfl⟩)|(refine(mark_bad ‹_›).mono ?_;rintro e w' ⟨⟨v,rfl⟩,rfl⟩))|(go_at_call 124;refine(unary_f HCL _ _ _ _ _ _ _ ‹_›).mono ?_;rintro e w' ⟨v,rfl,hat⟩)|(go_at_call 58;first|(refine(kind_is ‹_› ‹_›).mono ?_;rintro e w' ⟨rfl,rfl⟩)|(refine(kind_at ‹_›).mono ?_;rintro e w' ⟨rfl,rfl⟩))|(go_at_call 125;refine(refPrec_any _ _).mono ?_;rintro e w' ⟨rfl,rfl⟩))
  all_goals(first|go_end0|go_ret)
  all_goals exact⟨_,rfl,by assumption⟩
theorem element_f (HCL:CloseC):F0 127:=by
 intro C w b d0 d1 d2 hat
 have _:=HCL
 have hk0:(Res.fail d0 d1 d2).kind=0:=rfl
 go_enter Tryz.func127,Tryz.ntmps127
 go_wp2_with (first|(go_at_call 62;first|(refine(mark_at ‹_›).mono ?_;rintro e w' ⟨rfl,rfl⟩)|(refine(mark_bad ‹_›).mono ?_;rintro e w' ⟨⟨v,rfl⟩,rfl⟩))|(go_at_call 38;refine(HCL _ _ _ _ _ _ _ _ ‹_› (by first|exact fun _=>rfl|assumption|exact fun hb=>by cases hb) (by first|with_reducible assumption|exact Lib.hid rfl|assumption|exact run_hid _ _ _ _ _)).mono ?_;rintro e w' ⟨v,rfl,hat⟩)|(go_at_call 108;refine(union_f HCL _ _ _ _ _ _ ‹_›).mono ?_;rintro e w' ⟨c,t,rfl,hat⟩)|(go_at_call 95;first|(with_reducible refine(comes1_no ‹_› (by simp [Res.comes,hk0])).mono ?_;rintro e w' ⟨rfl,hat⟩)))
 all_goals(first|go_end0|go_ret)
 all_goals exact⟨_,rfl,by assumption⟩
open Go.RowKit
theorem precOf_le (z:Int):0≤precOf z∧precOf z≤5:=by
 unfold precOf
 repeat' split
 all_goals omega
theorem exists_least {P:Nat→Prop} (h:∃ k,P k):∃ k,P k∧∀ j,P j→k≤j:=by
 obtain⟨k,hk⟩:=h
 induction k using Nat.strongRecOn with
 |ind k ih=>
  by_cases hj:∃ j,j<k∧P j
  ·obtain⟨j,hjk,hj⟩:=hj
   exact ih j hjk hj
  ·exact⟨k,hk,fun j hj'=>by
    rcases Nat.lt_or_ge j k with h|h
    ·exact absurd ⟨j,h,hj'⟩ hj
    ·exact h⟩
open Classical in
noncomputable def least (P:Nat→Prop):Nat:=if h:∃ k,P k then Classical.choose (exists_least h) else 0
theorem least_spec {P:Nat→Prop} {k:Nat} (h:P k):P (least P)∧least P≤k:=by
 have hx:∃ k,P k:=⟨k,h⟩
 unfold least
 rw[dif_pos hx]
 exact⟨(Classical.choose_spec (exists_least hx)).1,(Classical.choose_spec (exists_least hx)).2 k h⟩
def Lp (C:Keep) (b:Nat) (y:Res) (p:Pc) (w:World) (k:Nat):Prop:=∃ x,Hid (At C w b x)∧Hid (run k p x=some y)
noncomputable def lpOf (C:Keep) (b:Nat) (y:Res) (p:Pc) (w:World):Nat:=least (Lp C b y p w)
def Lq (C:Keep) (b:Nat) (y:Res) (p:Pc) (n:Nat) (w:World):Prop:=∃ k,k≤n∧Lp C b y p w k
section
variable {C:Keep} {w:World} {b n:Nat} {x y:Res} {p:Pc}
theorem Lq.at (hat:Hid (At C w b x)) (h:Hid (run n p x=some y)):Lq C b y p n w:=⟨n,Nat.le_refl _,x,hat,h⟩
theorem Lq.out (h:Lq C b y p n w):(∃ d0 d1 d2,y=.fail d0 d1 d2∧Hid (At C w b (.fail d0 d1 d2)))∨∃ k s,k<n∧lpOf C b y p w=k+1∧Hid (At C w b (.ok s))∧run (k+1) p (.ok s)=some y:=by
 obtain⟨k,hk,hp⟩:=h
 obtain⟨⟨x,hat,hr⟩,hle⟩:=least_spec hp
 have he:least (Lp C b y p w)=lpOf C b y p w:=rfl
 rw[he] at hr hle
 generalize lpOf C b y p w=q at *
 cases x with
 |fail d0 d1 d2=>
  have:=hr.out
  rw[run_fail] at this
  exact .inl ⟨d0,d1,d2,(Option.some.inj this).symm,hat⟩
 |ok s=>
  cases q with
  |zero=>exact absurd hr.out (by unfold run;simp)
  |succ q=>exact .inr ⟨q,s,by omega,rfl,hat,hr.out⟩
theorem Lq.less {k:Nat} {w0:World} (hk:k≤n) (hat:Hid (At C w b x)) (h:Hid (run k p x=some y)) (hq:lpOf C b y p w0=k+1):Lq C b y p n w∧lpOf C b y p w<lpOf C b y p w0:=
 ⟨⟨k,hk,x,hat,h⟩,by have h2:lpOf C b y p w≤k:=(least_spec (P:=Lp C b y p w) ⟨x,hat,h⟩).2;omega⟩
end
theorem bad_ok (s:St):(Res.ok s).bad=false:=rfl
theorem bad_fail (a b c:Int):(Res.fail a b c).bad=true:=rfl
theorem ok_of_kind {x:Res} {k:Int} (h:x.kind=k) (hk:k≠0):∃ t,x=.ok t:=by
 cases x with
 |fail=>exact absurd h.symm hk
 |ok t=>exact⟨t,rfl⟩
section
variable (a b c:Int)
theorem rFail_bad {x y:Res} {c:Int} (h:rFail c x=some y):∃ d0 d1 d2,y=.fail d0 d1 d2:=by
 cases x with
 |fail a b c=>exact⟨a,b,c,(Option.some.inj h).symm⟩
 |ok s=>exact⟨_,_,_,chk_fail h⟩
theorem rUp_f:rUp (.fail a b c)=some (.fail a b c):=rfl
theorem rClose_f (m k:Int):rClose m k (.fail a b c)=some (.fail a b c):=rfl
theorem rName_f:rName (.fail a b c)=some (.fail a b c):=rfl
theorem rQualified_f:rQualified (.fail a b c)=some (.fail a b c):=rfl
end
section
variable {C:Keep} {w:World} {b:Nat} {x y:Res}
theorem name_at (HCL:CloseC) (h:Hid (At C w b x)) (hy:Hid (rName x=some y)):Calls Tryz.prog 48 #[.pointer (some ⟨b,0,none⟩)] w (Post C b y):=by
 have hy:=hy.out
 cases x with
 |fail d0 d1 d2=>
  obtain rfl:=Option.some.inj hy
  exact Name_f HCL _ _ _ _ _ _ h
 |ok s=>
  obtain⟨z,hz,hy⟩:=bind_some hy
  cases z with
  |fail d0 d1 d2=>
   obtain rfl:=Option.some.inj hy
   go_enter Tryz.func48,Tryz.ntmps48
   go_wp2_with (first|(go_at_call 62;first|(refine(mark_at ‹_›).mono ?_;rintro e w' ⟨rfl,rfl⟩)|(refine(mark_bad ‹_›).mono ?_;rintro e w' ⟨⟨v,rfl⟩,rfl⟩))|(go_at_call 34;refine(expect_at ‹_› _ (by first|assumption|exact Lib.hid rfl|exact run_hid _ _ _ _ _)).mono ?_;rintro e w' ⟨rfl,hat⟩)|(go_at_call 38;refine(HCL _ _ _ _ _ _ _ _ ‹_› (by first|exact fun _=>rfl|assumption|exact fun hb=>by cases hb) (by first|assumption|exact Lib.hid rfl|exact run_hid _ _ _ _ _)).mono ?_;rintro e w' ⟨v,rfl,hat⟩))
   all_goals(first|go_end0|go_ret)
   all_goals exact⟨_,rfl,by assumption⟩
  |ok t=>
   have hc:=Lib.hid hy
   clear hy
   go_enter Tryz.func48,Tryz.ntmps48
   go_wp2_with (first|(go_at_call 62;first|(refine(mark_at ‹_›).mono ?_;rintro e w' ⟨rfl,rfl⟩)|(refine(mark_bad ‹_›).mono ?_;rintro e w' ⟨⟨v,rfl⟩,rfl⟩))|(go_at_call 34;refine(expect_at ‹_› _ (by first|assumption|exact Lib.hid rfl|exact run_hid _ _ _ _ _)).mono ?_;rintro e w' ⟨rfl,hat⟩)|(go_at_call 38;refine(HCL _ _ _ _ _ _ _ _ ‹_› (by first|exact fun _=>rfl|assumption|exact fun hb=>by cases hb) (by first|assumption|exact Lib.hid rfl|exact run_hid _ _ _ _ _)).mono ?_;rintro e w' ⟨v,rfl,hat⟩))
   all_goals(first|go_end0|go_ret)
   all_goals exact⟨_,rfl,by assumption⟩
theorem qualified_at (HCL:CloseC) (h:Hid (At C w b x)) (hy:Hid (rQualified x=some y)):Calls Tryz.prog 96 #[.pointer (some ⟨b,0,none⟩)] w (Post C b y):=by
 have hy:=hy.out
 cases x with
 |fail d0 d1 d2=>
  obtain rfl:=Option.some.inj hy
  exact qualified_f HCL _ _ _ _ _ _ h
 |ok s=>
  obtain⟨z,hz,hy⟩:=bind_some hy
  split at hy
  case isTrue hk=>
   obtain⟨u,hu,hy⟩:=bind_some hy
   obtain⟨v,hv,hy⟩:=bind_some hy
   have hc:=Lib.hid hy
   clear hy
   go_enter Tryz.func96,Tryz.ntmps96
   go_wp2_with (first|(go_at_call 62;first|(refine(mark_at ‹_›).mono ?_;rintro e w' ⟨rfl,rfl⟩)|(refine(mark_bad ‹_›).mono ?_;rintro e w' ⟨⟨v,rfl⟩,rfl⟩))|(go_at_call 48;refine(name_at HCL ‹_› (by first|assumption|exact Lib.hid rfl|exact run_hid _ _ _ _ _)).mono ?_;rintro e w' ⟨v,rfl,hat⟩)|(go_at_call 32;refine(take_at ‹_› (by first|assumption|exact Lib.hid rfl|exact run_hid _ _ _ _ _)).mono ?_;rintro e w' ⟨v,rfl,hat⟩)|(go_at_call 38;refine(HCL _ _ _ _ _ _ _ _ ‹_› (by first|exact fun _=>rfl|assumption|exact fun hb=>by cases hb) (by first|assumption|exact Lib.hid rfl|exact run_hid _ _ _ _ _)).mono ?_;rintro e w' ⟨v,rfl,hat⟩)|(go_at_call 95;first|(with_reducible refine(comes1_yes ‹_› ?hc).mono ?_;(case hc=>simp [Res.comes, *]);rintro e w' ⟨rfl,hat⟩)|(with_reducible refine(comes1_no ‹_› (by simp [Res.comes, *])).mono ?_;rintro e w' ⟨rfl,hat⟩)))
   all_goals(first|go_end0|go_ret)
   all_goals exact⟨_,rfl,by assumption⟩
  case isFalse hk=>
   obtain rfl:=Option.some.inj hy
   clear hy
   go_enter Tryz.func96,Tryz.ntmps96
   go_wp2_with (first|(go_at_call 62;first|(refine(mark_at ‹_›).mono ?_;rintro e w' ⟨rfl,rfl⟩)|(refine(mark_bad ‹_›).mono ?_;rintro e w' ⟨⟨v,rfl⟩,rfl⟩))|(go_at_call 48;refine(name_at HCL ‹_› (by first|assumption|exact Lib.hid rfl|exact run_hid _ _ _ _ _)).mono ?_;rintro e w' ⟨v,rfl,hat⟩)|(go_at_call 32;refine(take_at ‹_› (by first|assumption|exact Lib.hid rfl|exact run_hid _ _ _ _ _)).mono ?_;rintro e w' ⟨v,rfl,hat⟩)|(go_at_call 38;refine(HCL _ _ _ _ _ _ _ _ ‹_› (by first|exact fun _=>rfl|assumption|exact fun hb=>by cases hb) (by first|assumption|exact Lib.hid rfl|exact run_hid _ _ _ _ _)).mono ?_;rintro e w' ⟨v,rfl,hat⟩)|(go_at_call 95;first|(with_reducible refine(comes1_yes ‹_› ?hc).mono ?_;(case hc=>simp [Res.comes, *]);rintro e w' ⟨rfl,hat⟩)|(with_reducible refine(comes1_no ‹_› (by simp [Res.comes, *])).mono ?_;rintro e w' ⟨rfl,hat⟩)))
   all_goals(first|go_end0|go_ret)
   all_goals exact⟨_,rfl,by assumption⟩
end
end Go.Proofs.YtmelbeefjgjdhaaGreat.rd
