/-
  Texts put together: Fr, Fw, Ft, En.
-/
import Derived.Test.YtcekbbkidipbnaaGreatP32
import Derived.Test.YtcekbbkidipbnaaGreatP1
import Derived.Test.YtcekbbkidipbnaaGreatP28
import Derived.Test.YtcekbbkidipbnaaGreatP2
set_option maxRecDepth 100000
set_option maxHeartbeats 8000000
namespace Go.Proofs.YtcekbbkidipbnaaGreat.rd
open Go.RowKit
def sigK (L:List Tk):List Int:=(L.filter fun t=>sig t.k).map Tk.k
theorem zvz (L:List Tk):∀ n,(match L[nxt n L]? with|some t=>t.k|none=>0)=(sigK L)[n]?.getD 0:=by
 induction L with
 |nil=>intro n;simp [nxt,sigK]
 |cons t r ih=>
  intro n
  rw[nxt]
  cases hs:sig t.k with
  |true=>
   have e:sigK (t::r)=t.k::sigK r:=by simp [sigK,hs]
   rw[e,if_pos rfl]
   cases n with
   |zero=>simp
   |succ n=>
    rw[if_neg zdC,Nat.add_sub_cancel,Nat.add_comm 1,List.getElem?_cons_succ,List.getElem?_cons_succ]
    exact ih n
  |false=>
   have e:sigK (t::r)=sigK r:=by simp [sigK,hs]
   rw[e,if_neg zdF,Nat.add_comm 1,List.getElem?_cons_succ]
   exact ih n
theorem zme (x:Res) (n:Nat):x.ahead n=x.sigs[n]?.getD 0:=by
 cases x with
 |fail=>simp [Res.ahead,Res.sigs]
 |ok s=>
  have:=zvz (s.L.drop s.at') n
  simp only[List.getElem?_drop] at this
  exact this
theorem zuT (x:Res):∀ z∈x.sigs,10≤z:=by
 cases x with
 |fail=>simp [Res.sigs]
 |ok s=>
  intro z hz
  simp only[Res.sigs,List.mem_map,List.mem_filter] at hz
  obtain⟨t,⟨_,h⟩,rfl⟩:=hz
  exact of_decide_eq_true h
theorem ahead_some {x:Res} {n:Nat} (h:n<x.sigs.length):x.sigs.drop n=x.ahead n::x.sigs.drop (n+1)∧x.ahead n≠0:=by
 have e:x.ahead n=x.sigs[n]:=by rw[zme,List.getElem?_eq_getElem h];rfl
 refine⟨by rw[e];exact List.drop_eq_getElem_cons h,?_⟩
 have:=zuT x x.sigs[n] (List.getElem_mem h)
 omega
theorem ahead_none {x:Res} {n:Nat} (h:x.sigs.length≤n):x.sigs.drop n=[]∧x.ahead n=0:=
 ⟨List.drop_of_length_le h,by rw[zme,List.getElem?_eq_none h];rfl⟩
section
variable {C:Keep} {w:World} {b:Nat} {x y:Res}
theorem zvj (h:Hid (At C w b x)):x.sigs.length≤549755813888:=by
 obtain⟨vL,vR,vH,σ,D,hr,ho,hi⟩:=h.out
 exact zcb
theorem zsX (h:Hid (At C w b x)) (h1:x.ahead 1=58):Calls Tryz.prog 145 #[.pointer (some ⟨b,0,none⟩)] w fun e w'=>e=.returned (.int .i64 (behindOf 0 (x.sigs.drop 1)))∧w=w':=by
 have hfew:=zvj h
 obtain⟨res,hres⟩:∃ res,behindOf 0 (x.sigs.drop 1)=res:=⟨_,rfl⟩
 rw[hres]
 have HRES:=Lib.hid hres
 clear hres
 have HA:Hid (∀ n:Nat,n≤549755813890→Calls Tryz.prog 60 #[.pointer (some ⟨b,0,none⟩),.int .i64 (n:Int)] w fun e w'=>e=.returned (.int .i64 (x.ahead n))∧w=w'):=Lib.hid (fun n hn=>zgQ h n zdC)
 have HS:Hid (∀ n,n<x.sigs.length→x.sigs.drop n=x.ahead n::x.sigs.drop (n+1)∧x.ahead n≠0):=Lib.hid (fun n hn=>ahead_some hn)
 have HZ:Hid (∀ n,x.sigs.length≤n→x.sigs.drop n=[]∧x.ahead n=0):=Lib.hid (fun n hn=>ahead_none hn)
 have H1:=Lib.hid h1
 clear h h1
 generalize x.sigs=S at *
 generalize x.ahead=A at *
 go_enter Tryz.func145,Tryz.ntmps145
 go_wp2_with fail
 go_loopw [3,4] (fun q p wr=>∃ c k:Nat,1≤k∧k≤S.length+1∧c<k∧(k=1∨1≤c)∧q=.int .i64 (c:Int)∧p=.int .i64 (k:Int)∧behindOf c (S.drop k)=res∧wr=w) (fun _ p _=>S.length+1 - (intOf p).toNat)
 case atStart=>exact⟨0,1,by omega,by omega,by omega,by omega,rfl,rfl,HRES.out,rfl⟩
 case round=>
  obtain⟨c,k,hk1,hk2,hck,hc1,rfl,rfl,hbo,hw⟩:=hrel
  have hw2:=hw.symm
  subst hw2
  have HB:=Lib.hid hbo
  clear hw hbo
  rcases Nat.lt_or_ge k S.length with hlt|hge
  ·obtain⟨hd,hne⟩:=HS.out k hlt
   obtain⟨z,hz⟩:∃ z,A k=z:=⟨_,rfl⟩
   rw[hz] at hd hne
   have HAk:Hid (Calls Tryz.prog 60 #[.pointer (some ⟨b,0,none⟩),.int .i64 (k:Int)] w fun e w'=>e=.returned (.int .i64 z)∧w=w'):=Lib.hid (by rw[← hz];exact HA.out k zdC)
   rw[hd,behindOf] at HB
   have e0:(z == 0)=false:=beq_eq_false_iff_ne.2 hne
   have hz1:k=1→z=58:=fun e=>by rw[← hz,e];exact H1.out
   clear hd hz
   by_cases h58:z=58
   ·rw[if_pos h58] at HB
    subst h58
    go_wp2_with (go_at_call 60;refine HAk.out.mono ?_;rintro e w' ⟨rfl,rfl⟩)
    go_roundw
    case rel=>exact⟨c+1,k+1,by omega,by omega,by omega,by omega,by go_num,by go_num,HB.out,by trivial⟩
    case measure=>simp [intOf];omega
   ·rw[if_neg h58] at HB
    have e58:(z == 58)=false:=beq_eq_false_iff_ne.2 h58
    have hk2':k≠1:=fun e=>h58 (hz1 e)
    by_cases h63:z=63
    ·rw[if_pos h63] at HB
     subst h63
     by_cases hc:c≤1
     ·rw[if_pos hc] at HB
      obtain rfl:c=1:=by omega
      have HAk2:Hid (Calls Tryz.prog 60 #[.pointer (some ⟨b,0,none⟩),.int .i64 ((k:Int)+1)] w fun e w'=>e=.returned (.int .i64 res)∧w=w'):=Lib.hid (by
       have h2:=HA.out (k+1) zdC
       rw[show A (k+1)=res by
        rw[← HB.out]
        rcases Nat.lt_or_ge (k+1) S.length with h|h
        ·rw[(HS.out _ h).1];rfl
        ·rw[(HZ.out _ h).1,(HZ.out _ h).2];rfl] at h2
       exact h2)
      go_wp2_with (go_at_call 60;first|(with_reducible refine HAk2.out.mono ?_;rintro e w' ⟨rfl,rfl⟩)|(with_reducible refine HAk.out.mono ?_;rintro e w' ⟨rfl,rfl⟩))
      go_ret
      exact⟨rfl,rfl⟩
     ·rw[if_neg hc] at HB
      have ec:(((c:Int) - 1) == 0)=false:=beq_eq_false_iff_ne.2 zdC
      go_wp2_with (go_at_call 60;refine HAk.out.mono ?_;rintro e w' ⟨rfl,rfl⟩)
      go_roundw
      case rel=>exact⟨c - 1,k+1,by omega,by omega,by omega,by omega,by go_num,by go_num,HB.out,by trivial⟩
      case measure=>simp [intOf];omega
    ·rw[if_neg h63] at HB
     have e63:(z == 63)=false:=beq_eq_false_iff_ne.2 h63
     go_wp2_with (go_at_call 60;refine HAk.out.mono ?_;rintro e w' ⟨rfl,rfl⟩)
     go_roundw
     case rel=>exact⟨c,k+1,by omega,by omega,by omega,by omega,rfl,by go_num,HB.out,by trivial⟩
     case measure=>simp [intOf];omega
  ·obtain⟨hd,hz⟩:=HZ.out k hge
   rw[hd,behindOf] at HB
   have HAk:Hid (Calls Tryz.prog 60 #[.pointer (some ⟨b,0,none⟩),.int .i64 (k:Int)] w fun e w'=>e=.returned (.int .i64 0)∧w=w'):=Lib.hid (by rw[← hz];exact HA.out k zdC)
   clear hd hz
   go_wp2_with (go_at_call 60;refine HAk.out.mono ?_;rintro e w' ⟨rfl,rfl⟩)
   go_ret
   exact⟨by rw[← HB.out];rfl,rfl⟩
theorem zlW (h:Hid (At C w b x)):Calls Tryz.prog 133 #[.pointer (some ⟨b,0,none⟩)] w fun e w'=>e=.returned (.bool x.named)∧Hid (At C w' b x):=by
 have HX:Hid (x.named=if x.kind=10 then(if x.ahead 1=60∨x.ahead 1=62∨x.ahead 1=61 then false else if x.ahead 1=58 then(x.ahead 2 == 63 || (behindOf 0 (x.sigs.drop 1) != 0 && behindOf 0 (x.sigs.drop 1) != 60 && behindOf 0 (x.sigs.drop 1) != 62)) else true) else false):=Lib.hid rfl
 obtain⟨res,hres⟩:∃ res,x.named=res:=⟨_,rfl⟩
 rw[hres] at HX ⊢
 clear hres
 by_cases h10:x.kind=10
 ·rw[if_pos h10] at HX
  have HC1:Hid (∀ u,At C u b x→Calls Tryz.prog 60 #[.pointer (some ⟨b,0,none⟩),.int .i64 1] u fun e w'=>e=.returned (.int .i64 (x.ahead 1))∧u=w'):=Lib.hid (fun u hu=>zgQ (Lib.hid hu) 1 zdD)
  have HC2:Hid (∀ u,At C u b x→Calls Tryz.prog 60 #[.pointer (some ⟨b,0,none⟩),.int .i64 2] u fun e w'=>e=.returned (.int .i64 (x.ahead 2))∧u=w'):=Lib.hid (fun u hu=>zgQ (Lib.hid hu) 2 zdD)
  have HCB:Hid (∀ u,At C u b x→x.ahead 1=58→Calls Tryz.prog 145 #[.pointer (some ⟨b,0,none⟩)] u fun e w'=>e=.returned (.int .i64 (behindOf 0 (x.sigs.drop 1)))∧u=w'):=Lib.hid (fun u hu h1=>zsX (Lib.hid hu) h1)
  obtain⟨a1,ha1⟩:∃ a1,x.ahead 1=a1:=⟨_,rfl⟩
  obtain⟨a2,ha2⟩:∃ a2,x.ahead 2=a2:=⟨_,rfl⟩
  generalize behindOf 0 (x.sigs.drop 1)=bh at *
  rw[ha1] at HX HC1 HCB
  rw[ha2] at HX HC2
  clear ha1 ha2
  by_cases h60:a1=60
  ·rw[if_pos (.inl h60)] at HX
   subst h60
   exact zaV
  by_cases h62:a1=62
  ·rw[if_pos (.inr (.inl h62))] at HX
   subst h62
   clear h60
   exact zaV
  by_cases h61:a1=61
  ·rw[if_pos (.inr (.inr h61))] at HX
   subst h61
   clear h60 h62
   exact zaV
  rw[if_neg zdC] at HX
  have e60:(a1 == 60)=false:=beq_eq_false_iff_ne.2 h60
  have e61:(a1 == 61)=false:=beq_eq_false_iff_ne.2 h61
  have e62:(a1 == 62)=false:=beq_eq_false_iff_ne.2 h62
  by_cases h58:a1=58
  ·rw[if_pos h58] at HX
   subst h58
   clear h60 h61 h62
   have key:∀ p0 p1 p2 p3:Bool,(a2 == 63)=p0→(bh != 0)=p1→(bh != 60)=p2→(bh != 62)=p3→Calls Tryz.prog 133 #[.pointer (some ⟨b,0,none⟩)] w fun e w'=>e=.returned (.bool res)∧Hid (At C w' b x):=by
    intro p0 p1 p2 p3 hp0 hp1 hp2 hp3
    have q1:(bh == 0) = !p1:=by rw[← hp1];simp [bne]
    have q2:(bh == 60) = !p2:=by rw[← hp2];simp [bne]
    have q3:(bh == 62) = !p3:=by rw[← hp3];simp [bne]
    rw[hp0,hp1,hp2,hp3] at HX
    cases p0 <;> cases p1 <;> cases p2 <;> cases p3
    all_goals
     simp only[Bool.not_true,Bool.not_false] at q1 q2 q3
     go_enter Tryz.func133,Tryz.ntmps133
     go_wp2_with (first|(go_at_call 95;(with_reducible refine(zfC ‹_› ?hc).mono ?_;(case hc=>simp [Res.comes, *]);rintro e w' ⟨rfl,hat⟩))|(go_at_call 60;first|(with_reducible refine(HC1.out _ hat.out).mono ?_;rintro e w' ⟨rfl,rfl⟩)|(with_reducible refine(HC2.out _ hat.out).mono ?_;rintro e w' ⟨rfl,rfl⟩))|(go_at_call 145;refine(HCB.out _ hat.out (by first|trivial|rfl)).mono ?_;rintro e w' ⟨rfl,rfl⟩))
     go_ret
     exact⟨by rw[HX.out];rfl,by assumption⟩
   exact key _ _ _ _ rfl rfl rfl rfl
  ·rw[if_neg h58] at HX
   have e58:(a1 == 58)=false:=beq_eq_false_iff_ne.2 h58
   by_cases h0:a1=0
   ·subst h0
    clear h58 h60 h61 h62 e60 e61 e62 e58
    exact zaV
   ·have e0:(a1 == 0)=false:=beq_eq_false_iff_ne.2 h0
    clear h58 h60 h61 h62 h0
    exact zaV
 ·rw[if_neg h10] at HX
  go_enter Tryz.func133,Tryz.ntmps133
  go_wp2_with (first|(go_at_call 95;(with_reducible refine(zfz ‹_› ?hc).mono ?_;(case hc=>simp [Res.comes, *]);rintro e w' ⟨rfl,hat⟩)))
  go_ret
  exact⟨by rw[HX.out];rfl,by assumption⟩
end
open Go.RowKit
def bl:Kd Bool where
 c t:=[.bool t]
 k:=1
 e:=4
 t:=99
 z:=.bool false
 bytes:=1
 len _:=rfl
 one x u hu:=by simp only[List.mem_cons,List.not_mem_nil,or_false] at hu;subst hu;rfl
 ht:=Tryz.underlying99
 hi:=by kernel_rfl
 hz:=rfl
 hk:=by decide
 ht':=by kernel_rfl
 hs _:=by kernel_rfl
theorem At.kept {C:Keep} {w:World} {b:Nat} {x:Res} (h:At C w b x) (k:Nat) (hk:C.K k):w.heap[k]? = C.W.heap[k]? ∧ k<C.W.heap.size:=by
 obtain⟨vL,vR,vH,σ,D,hr,ho,hi⟩:=h
 exact⟨(ho.kept k hk).2.2.2.2,(ho.kept k hk).1⟩
theorem At.size {C:Keep} {w:World} {b:Nat} {x:Res} (h:At C w b x):C.W.heap.size≤w.heap.size:=by
 obtain⟨vL,vR,vH,σ,D,hr,ho,hi⟩:=h
 exact ho.size
theorem At.at {C:Keep} {w:World} {b:Nat} {x:Res} (h:At C w b x):b<w.heap.size:=by
 obtain⟨vL,vR,vH,σ,D,hr,ho,hi⟩:=h
 exact(Array.getElem?_eq_some_iff.1 hr.cells).1
theorem At.rebase {C C':Keep} {w w':World} {b:Nat} {x:Res} (h:At C w b x) (hsize:w.heap.size≤w'.heap.size)
  (hsame:∀ k,k<w.heap.size→w'.heap[k]? = w.heap[k]? ∨ (C.K k∧∃ cur e fz,w.heap[k]? = some (.cells cur e fz)∧e≠tk.e∧e≠nd.e))
  (hW:C'.W=w') (hK:∀ k,C'.K k→k<w'.heap.size∧(C.K k∨w.heap.size≤k)):At C' w' b x:=by
 obtain⟨vL,vR,vH,σ,D,hr,ho,hi⟩:=h
 have hbz:b<w.heap.size:=(Array.getElem?_eq_some_iff.1 hr.cells).1
 have hof:∀ k,k<w.heap.size→¬ C.K k→w'.heap[k]? = w.heap[k]?:=fun k hk hn=>by
  rcases hsame k hk with h|h
  ·exact h
  ·exact absurd h.1 hn
 have hdd:∀ k,D k→w'.heap[k]? = w.heap[k]?:=fun k hk=>by
  obtain⟨a1,_,_,_,cur,fz,a5⟩:=ho.dead k hk
  rcases hsame k a1 with h|⟨_,cur',e,fz',h,_,hne⟩
  ·exact h
  ·rw[a5] at h
   exact zca
 have hT:Mine tk w' 0 vL σ.L:=by
  exact zbF
 refine⟨vL,vR,vH,σ,D,⟨?_,hT,?_,?_,hr.read,hr.few⟩,?_,?_⟩
 ·rw[hof b hbz (fun hc=>(ho.kept b hc).2.1 rfl)];exact hr.cells
 ·exact hr.row.keep (fun k hk hz=>hof k hz (fun hc=>(ho.kept k hc).2.2.1 hk))
 ·exact hr.high.keep (fun k hk hz=>hof k hz (fun hc=>(ho.kept k hc).2.2.2.1 hk))
 ·refine⟨by rw[hW],by rw[hW],by rw[hW],by rw[hW];exact Nat.le_refl _,fun k hk=>?_,fun k hk=>?_⟩
  ·obtain⟨h1,h2⟩:=hK k hk
   rcases h2 with h2|h2
   ·obtain⟨_,a2,a3,a4,_⟩:=ho.kept k h2
    exact⟨by rw[hW];exact h1,a2,a3,a4,by rw[hW]⟩
   ·exact⟨by rw[hW];exact h1,by omega,fun e=>by have:=hr.row.lt k e;omega,fun e=>by have:=hr.high.lt k e;omega,by rw[hW]⟩
  ·obtain⟨a1,a2,a3,a4,a5⟩:=ho.dead k hk
   exact zdn
 ·cases x with
  |fail a b c=>exact hi
  |ok s=>
   exact zck
structure Ext (C C1:Keep) (B:Nat):Prop where
 os:C1.W.os=C.W.os
 tape:C1.W.tape=C.W.tape
 output:C1.W.output=C.W.output
 size:C.W.heap.size≤C1.W.heap.size
 base:C.W.heap.size≤B∧B≤C1.W.heap.size
 kept:∀ k,C.K k→k<B∧C1.K k∧C1.W.heap[k]? = C.W.heap[k]?
theorem At.back {C C1:Keep} {B:Nat} {w:World} {b:Nat} {x:Res} (he:Ext C C1 B) (h:At C1 w b x) (hz:∀ k,C.K k→k<C.W.heap.size):At C w b x:=by
 obtain⟨vL,vR,vH,σ,D,hr,ho,hi⟩:=h
 refine⟨vL,vR,vH,σ,D,hr,⟨ho.os.trans he.os,ho.tape.trans he.tape,ho.output.trans he.output,Nat.le_trans he.size ho.size,fun k hk=>?_,ho.dead⟩,hi⟩
 exact zdd
theorem Ext.start {C:Keep} {w w':World} {b:Nat} {x:Res} (h:At C w b x) (hb:Below w.heap.size w w'):Ext C ⟨w',fun k=>C.K k∨(w.heap.size≤k∧k<w'.heap.size)⟩ w.heap.size∧At ⟨w',fun k=>C.K k∨(w.heap.size≤k∧k<w'.heap.size)⟩ w' b x:=by
 have h':=h
 obtain⟨vL,vR,vH,σ,D,hr,ho,hi⟩:=h'
 refine⟨⟨hb.os.trans ho.os,hb.tape.trans ho.tape,hb.output.trans ho.output,Nat.le_trans ho.size hb.size,⟨ho.size,hb.size⟩,fun k hk=>?_⟩,h.rebase hb.size (fun k hk=>.inl (hb.block k hk)) rfl (fun k hk=>?_)⟩
 ·obtain⟨a1,_,_,_,a5⟩:=ho.kept k hk
  have:=ho.size
  exact⟨by omega,.inl hk,(hb.block k zdC).trans a5⟩
 ·rcases hk with hk|hk
  ·have:=(ho.kept k hk).1
   have:=ho.size
   have:=hb.size
   exact⟨by omega,.inl hk⟩
  ·exact⟨hk.2,.inr hk.1⟩
def Apart (v v2:Value):Prop:=∀ k,v.ownBlock=some k→v2.ownBlock≠some k
structure Held {α:Type} (C:Keep) (w:World) (B:Nat) (v:Value) (F:Kd α) (T:List α):Prop where
 mine:Mine F w B v T
 held:∀ k,v.ownBlock=some k→C.K k
theorem Held.call {α:Type} {F:Kd α} {C:Keep} {w w':World} {B b:Nat} {x y:Res} {v:Value} {T:List α} (h:Held C w B v F T) (h1:At C w b x) (h2:At C w' b y):Held C w' B v F T:=
 ⟨h.mine.keep (fun k hk _=>(h2.kept k (h.held k hk)).1.trans (h1.kept k (h.held k hk)).1.symm),h.held⟩
theorem Held.push {α:Type} {F:Kd α} {C C1:Keep} {w:World} {B b:Nat} {x:Res} {v:Value} {T:List α} (hne:F.e≠tk.e∧F.e≠nd.e) (he:Ext C C1 B) (hat:At C1 w b x) (h:Held C1 w B v F T) (hl:T.length≤1099511627776) (hby:F.bytes≤64) (a:α) :
  ∃ v' w',(∀ ty,(Builtin.append_ #[F.t,F.t] ty #[v,.slice (some ⟨w.heap.size,0,none⟩) 1 1]).run Tryz.prog (w.alloc (.cells (F.c a).toArray F.e))=.ok v' w') ∧
   ∃ C2,Ext C C2 B∧At C2 w' b x∧Held C2 w' B v' F (T ++ [a])∧∀ (β:Type) (G:Kd β) (v2:Value) (T2:List β),Held C1 w B v2 G T2→Apart v v2→Held C2 w' B v2 G T2∧Apart v' v2:=by
 have hu:Below w.heap.size w (w.alloc (.cells (F.c a).toArray F.e)):=(Below.refl _ _).alloc (Nat.le_refl _) _
 have hBw:B≤w.heap.size:=Nat.le_trans he.base.2 hat.size
 obtain⟨g,cap',w',h1,h2,h3,h4⟩:=zgS (h.mine.below hu) (heap_alloc_last w _) (Nat.le_trans hBw hu.size) zdN zeD
 have hsz:w.heap.size≤w'.heap.size:=Nat.le_trans hu.size h3.size
 have hz1:(w.alloc (.cells (F.c a).toArray F.e)).heap.size=w.heap.size+1:=World.size_alloc _ _
 have hsame:∀ k,k<w.heap.size→v.ownBlock≠some k→w'.heap[k]? = w.heap[k]?:=fun k hk hn=>(h3.block k zdC (fun e=>hn e.symm)).trans (hu.block k hk)
 have hB:∀ k,v.ownBlock=some k→B≤k:=fun k hk=>(World.ownsRow.lt h.mine k hk).1
 have hg:v.ownBlock=some g∨w.heap.size≤g:=by
  rcases h4 with h4|h4
  ·exact .inl h4
  ·exact .inr (by rw[h4,hz1];omega)
 refine⟨_,w',h1,⟨w',fun k=>C1.K k∨(w.heap.size≤k∧k<w'.heap.size)⟩,⟨?_,?_,?_,?_,?_,fun k hk=>?_⟩,hat.rebase hsz (fun k hk=>?_) rfl (fun k hk=>?_),⟨h2,fun k hk=>?_⟩,?_⟩
 ·obtain⟨vL,vR,vH,σ,D,hr,ho,hi⟩:=hat
  exact h3.os.trans (hu.os.trans (ho.os.trans he.os))
 ·obtain⟨vL,vR,vH,σ,D,hr,ho,hi⟩:=hat
  exact h3.tape.trans (hu.tape.trans (ho.tape.trans he.tape))
 ·obtain⟨vL,vR,vH,σ,D,hr,ho,hi⟩:=hat
  exact h3.output.trans (hu.output.trans (ho.output.trans he.output))
 ·exact Nat.le_trans he.size (Nat.le_trans hat.size hsz)
 ·exact⟨he.base.1,Nat.le_trans hBw hsz⟩
 ·obtain⟨a1,a2,a3⟩:=he.kept k hk
  exact zcT
 ·by_cases hk2:v.ownBlock=some k
  ·refine .inr ⟨h.held k hk2,?_⟩
   rcases h.mine.2 with⟨hv,_⟩|⟨q,cap,cur',hv,hq,hh,_⟩
   ·rw[hv] at hk2;cases hk2
   ·rw[hv] at hk2
    simp only[Value.ownBlock,Option.some.injEq] at hk2
    subst hk2
    exact⟨_,_,_,hh,hne.1,hne.2⟩
  ·exact .inl (hsame k hk hk2)
 ·rcases hk with hk|hk
  ·have:=(hat.kept k hk).2
   have:=hat.size
   exact⟨by omega,.inl hk⟩
  ·exact⟨hk.2,.inr hk.1⟩
 ·simp only[Value.ownBlock,Option.some.injEq] at hk
  exact zdx
 ·intro β G v2 T2 h5 h6
  exact zbW
theorem ziX {w:World} {g off:Nat} {T:List Bool} (h:Cells bl w g off T) (n:Nat) (hn:n<T.length):w.cell? ⟨g,off+n,none⟩=some (.bool T[n]):=by
 have:=h _ _ (zgn bl T n hn 0 zdD)
 simpa [bl] using this
theorem zgJ {α β γ:Type} {F:Kd α} {G:Kd β} {H:Kd γ} {C:Keep} {w w':World} {B b:Nat} {x y:Res} {v1 v2 v3:Value} {T1:List α} {T2:List β} {T3:List γ} (h:Hid (Held C w B v1 F T1∧Held C w B v2 G T2∧Held C w B v3 H T3)) (h1:Hid (At C w b x)) (h2:Hid (At C w' b y)):Hid (Held C w' B v1 F T1∧Held C w' B v2 G T2∧Held C w' B v3 H T3):=
 Lib.hid ⟨h.out.1.call h1.out h2.out,h.out.2.1.call h1.out h2.out,h.out.2.2.call h1.out h2.out⟩
open Go.RowKit
theorem ztA {n:Nat} (HCL:CloseC) (ih:∀ k,k≤n→All k):C0 127 (n+1) .element:=by
 have _:=HCL
 have _:=ih
 intro C w b x y hat hy
 have hy:=hy.out
 cases x with
 |fail d0 d1 d2=>
  rw[zfB] at hy
  obtain rfl:=Option.some.inj hy
  exact zhi HCL _ _ _ _ _ _ hat
 |ok s=>
  rw[run] at hy
  try dsimp only at hy
  split at hy
  ·iterate 16 (all_goals try(first|split at hy|(rw[zfu] at hy;obtain⟨z,hz,hy⟩:=hy;try(rw[zfF] at hz;subst hz))))
   all_goals(first|(obtain rfl:=Option.some.inj hy)|(replace hy:=Lib.hid hy))
   iterate 2 (all_goals try(rename _∧_=>ho;obtain⟨_,_⟩:=ho))
   iterate 7 (all_goals try(rename _∨_=>ho;rcases ho with ho|ho))
   all_goals(repeat (rename ¬ (_∨_)=>ho;rw[not_or] at ho;obtain⟨_,_⟩:=ho))
   all_goals go_enter Tryz.func127,Tryz.ntmps127
   all_goals exact zak
  ·rename ¬ (_∧_)=>hneg
   rw[zfu] at hy
   obtain⟨z1,hz1,hy⟩:=hy
   replace hy:=Lib.hid hy
   have hun:∃ k,k+1=n∨n=0:=⟨n - 1,by omega⟩
   cases n with
   |zero=>exact absurd hz1.out zeC
   |succ n=>
    have hz:=hz1.out
    rw[run] at hz
    try dsimp only at hz
    rw[zfu] at hz
    obtain⟨z2,hz2,hz3⟩:=hz
    replace hz3:=Lib.hid hz3
    clear hz1
    by_cases h10:(Res.ok s).kind=10
    ·have hneg2:=not_and.1 hneg h10
     clear hneg
     all_goals(try have a57:((Res.ok s).ahead 1 == 57)=false:=by simp [*])
     all_goals go_enter Tryz.func127,Tryz.ntmps127
     all_goals exact zak
    ·clear hneg
     all_goals go_enter Tryz.func127,Tryz.ntmps127
     all_goals exact zak
theorem zqY (HCL:CloseC):∀ (C:Keep) (w:World) (b:Nat) (d0 d1 d2:Int),Hid (At C w b (.fail d0 d1 d2))→Calls Tryz.prog 105 #[.pointer (some ⟨b,0,none⟩)] w fun e w'=>e=.returned (.bool false)∧Hid (At C w' b (.fail d0 d1 d2)):=by
 intro C w b d0 d1 d2 hat
 have hk0:(Res.fail d0 d1 d2).kind=0:=rfl
 have hnm:(Res.fail d0 d1 d2).named=false:=rfl
 go_enter Tryz.func105,Tryz.ntmps105
 exact zbs
theorem zwc {n:Nat} (HCL:CloseC) (ih:∀ k,k≤n→All k):CEnt 105 (n+1):=by
 have _:=HCL
 have _:=ih
 intro C w b x y hat hy
 have hy:=hy.out
 cases x with
 |fail d0 d1 d2=>
  rw[zfB] at hy
  obtain rfl:=Option.some.inj hy
  exact zqY HCL _ _ _ _ _ _ hat
 |ok s=>
  rw[run] at hy
  try dsimp only at hy
  obtain⟨nm,hnm⟩:∃ nm,(Res.ok s).named=nm:=⟨_,rfl⟩
  rw[hnm] at hy
  have HNM:=Lib.hid hnm
  cases nm with
  |true=>
   rw[if_pos rfl] at hy
   rw[zfu] at hy
   obtain⟨z,hz,hy⟩:=hy
   exact zaS
  |false=>
   rw[if_neg zdF] at hy
   rw[zfu] at hy
   obtain⟨z,hz,hy⟩:=hy
   rw[zfF] at hz
   subst hz
   exact zaS
open Go.RowKit
def lead:List Rn→Nat
 |[]=>0
 |t::r=>if sig t.k then 0 else lead r+1
def hiFrom (a:Int) (l:List Int):Int:=l.foldl (fun a x=>max a (x+1)) a
theorem zlf (R:List Rn):lead R≤R.length:=by
 induction R with
 |nil=>exact Nat.le_refl _
 |cons t r ih=>rw[lead,List.length_cons];split <;> omega
def clampR (m:Int) (n:Nat):Nat:=(max 0 (min m (n:Int))).toNat
def fromK (h:Int):List Rn→Int
 |[]=>h
 |t::_=>t.i
def toK (h:Int) (l:List Rn):Int:=match l.getLast? with|some t=>t.j|none=>h
theorem zhY (o:Option Addr) (n m c:Nat):(Value.slice o n c).ownBlock=(Value.slice o m c).ownBlock:=by cases o <;> rfl
theorem zvA (h:Int):∀ (l:List Rn) (hl:0<l.length),l[0].i=fromK h l
 |[],hl=>absurd hl zdF
 |_::_,_=>rfl
theorem Mine.nx {α:Type} {F:Kd α} {W W':World} {B b:Nat} {v vR vH vR' vH':Value} {T:List α} (h:Mine F W B v T) (hn:Nx W b vR vH W' vR' vH') (hne:∀ k,v.ownBlock=some k→k≠b∧vR.ownBlock≠some k∧vH.ownBlock≠some k) :
  Mine F W' B v T∧∀ k,v.ownBlock=some k→k≠b∧vR'.ownBlock≠some k∧vH'.ownBlock≠some k:=by
 refine⟨h.keep (fun k hk hl=>hn.block k hl (hne k hk).1 (hne k hk).2.1 (hne k hk).2.2),fun k hk=>⟨(hne k hk).1,fun e=>?_,fun e=>?_⟩⟩
 ·rcases hn.newR k e with e|e
  ·exact(hne k hk).2.1 e
  ·have:=h.lt k hk;omega
 ·rcases hn.newH k e with e|e
  ·exact(hne k hk).2.2 e
  ·have:=h.lt k hk;omega
theorem Mine.upto {α:Type} {F:Kd α} {w:World} {B:Nat} {o:Option Addr} {n cap:Nat} {T:List α} (h:Mine F w B (.slice o n cap) T) (j:Nat) (hj:j≤T.length):(∀ u,(Instr.slice F.t (.slice o n cap) none (some (.int .i64 (j:Int))) none).run Tryz.prog u=.ok (.slice o j cap) u)∧Mine F w B (.slice o j cap) (T.take j):=by
 have hl:(T.take j).length=j:=by rw[List.length_take];omega
 rcases h.2 with⟨hv,h0⟩|⟨g,cap',cur,hv,hg,hh,hnc,hcm,hcs,hct⟩
 ·simp only[Value.slice.injEq] at hv
  obtain⟨rfl,rfl,rfl⟩:=hv
  obtain rfl:j=0:=by omega
  refine⟨fun u=>?_,by rw[List.take_zero];exact Mine.nil _ _⟩
  rw[run_slice_h (P:=Tryz.prog) (w:=u) (t:=F.t) (a:=none) (len:=0) (cap:=0) (ht:=F.ht') .i64 ((0:Nat):Int) zdC zdC]
  rw[F.hs]
  rfl
 ·simp only[Value.slice.injEq] at hv
  obtain⟨rfl,rfl,rfl⟩:=hv
  refine⟨fun u=>?_,?_,.inr ⟨g,cap,cur,by rw[hl],hg,hh,by omega,hcm,hcs,?_⟩⟩
  ·rw[run_slice_h (P:=Tryz.prog) (w:=u) (t:=F.t) (a:=some ⟨g,0,none⟩) (len:=T.length) (cap:=cap) (ht:=F.ht') .i64 (j:Int) zdC zdC]
   rw[F.hs]
   simp [Addr.add,sliced]
  ·rw[zhx]
  ·have e:flat F T=flat F (T.take j) ++ flat F (T.drop j):=by rw[← ziD,List.take_append_drop]
   have hf:(flat F (T.take j)).length=(T.take j).length*F.k:=zhx _ _
   have h1:(T.take j).length*F.k≤T.length*F.k:=Nat.mul_le_mul_right _ zdC
   rw[show cur.toList.take ((T.take j).length*F.k)=(cur.toList.take (T.length*F.k)).take ((T.take j).length*F.k) by rw[List.take_take,Nat.min_eq_left h1],hct,e,← hf,List.take_left]
def Rd.closed (σ:Rd) (m:Nat) (N:Rn):Rd:={ σ with R:=σ.R.take m ++ [N],H:=σ.H.take m ++ [hiFrom 1 (σ.H.drop m)] }
def Rd.close (σ:Rd) (m:Nat) (N:Rn):Rd:=if 100<hiFrom 1 (σ.H.drop m) then(σ.closed m N).fail 202 else σ.closed m N
def Closes (W:World) (b:Nat) (vL vR vH:Value) (σ:Rd) (m:Nat) (kind:Int) (e:Ending) (W':World):Prop:=
 ∃ v vR' vH' ok ck,e=.returned v∧RdAt W' b vL vR' vH' (σ.close m ⟨kind,fromK σ.here (σ.R.drop m),toK σ.here (σ.R.drop m),ok,(σ.R.drop m).length,ck⟩)∧Nx W b vR vH W' vR' vH' ∧
  Mine nd W' (W.heap.size+1) (.slice ok (σ.R.drop m).length ck) (σ.R.drop m)∧∀ k,(Value.slice ok (σ.R.drop m).length ck).ownBlock=some k→k≠b∧vR'.ownBlock≠some k∧vH'.ownBlock≠some k
theorem zty {W:World} {b:Nat} {vL vR vH:Value} {σ:Rd} (h:RdAt W b vL vR vH σ) (m:Int) (kind:Int) (hHR:σ.H.length=σ.R.length) (hfew:σ.R.length≤1099511627776) (hf:σ.failed=false) (hHb:∀ x∈σ.H,0≤x∧x≤200) :
  Calls Tryz.prog 38 #[.pointer (some ⟨b,0,none⟩),.int .i64 m,.int .i64 kind] W (Closes W b vL vR vH σ (clampR m σ.R.length+lead (σ.R.drop (clampR m σ.R.length))) kind):=by
 have HRD:=Lib.hid h
 have HE:=Lib.hid (zkq h)
 obtain⟨⟨_,_,b2,b3,_,_,_,_,b8⟩,_⟩:=zgd h.cells
 rw[hf] at b8
 obtain⟨g,o,cap,hv,ho,_⟩:=h.row.shape
 have HO:=Lib.hid ho
 have HM:=Lib.hid h.row
 subst hv
 obtain⟨len,hlen⟩:∃ len,σ.R.length=len:=⟨_,rfl⟩
 rw[hlen] at HM b2 hfew hHR
 have HLN:=Lib.hid hlen
 clear h ho hlen hf
 go_enter Tryz.func38,Tryz.ntmps38
 go_step
 go_cut [] (fun wx=>wx=W)
 case first=>
  go_wp2_with fail
  all_goals go_meet
  all_goals rfl
 case rest=>
  subst hcut
  go_step
  go_step
  obtain⟨m0,hm0⟩:∃ m0,clampR m len=m0:=⟨_,rfl⟩
  have hm:m0≤len:=by rw[← hm0];unfold clampR;omega
  have hm0':(m0:Int)=max 0 (min m (len:Int)):=by rw[← hm0];unfold clampR;omega
  go_cut [1] (fun v wx=>v=.int .i64 (m0:Int)∧wx=wc)
  case first=>
   rcases Int.lt_or_le (len:Int) m with h1|h1
   ·have hmin:min m (len:Int)=(len:Int):=by omega
    have hp0:decide (m≤(len:Int))=false:=decide_eq_false zdC
    have hp1:decide ((len:Int)<m)=true:=decide_eq_true h1
    have hp2:decide (m<(len:Int))=false:=decide_eq_false zdC
    have HZ:=Lib.hid hm0'
    clear hm0 hm0'
    rcases Nat.eq_zero_or_pos len with h0|h0
    ·subst h0
     go_wp2_with fail
     all_goals go_meet
     all_goals exact⟨by have:=HZ.out;first|(congr 1;omega)|(simp;omega),rfl⟩
    ·have hq1:decide ((0:Int)<(len:Int))=true:=decide_eq_true zdC
     have hq2:decide (0<len)=true:=decide_eq_true h0
     have hq3:decide ((len:Int)<0)=false:=decide_eq_false zdC
     exact zbQ
   ·have hp0:decide (m≤(len:Int))=true:=decide_eq_true h1
    have hp1:decide ((len:Int)<m)=false:=decide_eq_false zdC
    have HZ:=Lib.hid hm0'
    clear hm0 hm0'
    rcases Int.lt_or_le 0 m with h0|h0
    ·have hq1:decide ((0:Int)<m)=true:=decide_eq_true h0
     have hq3:decide (m<0)=false:=decide_eq_false zdC
     have hq4:decide (m≤0)=false:=decide_eq_false zdC
     exact zbQ
    ·have hq1:decide ((0:Int)<m)=false:=decide_eq_false zdC
     have hq4:decide (m≤0)=true:=decide_eq_true h0
     exact zbQ
  case rest=>
   obtain⟨rfl,hwx⟩:=hcut
   have hwx2:=hwx.symm
   subst hwx2
   clear hwx
   obtain⟨m1,hm1⟩:∃ m1,m0+lead (σ.R.drop m0)=m1:=⟨_,rfl⟩
   have HM1:=Lib.hid hm1
   have hm1l:m1≤len:=by
    have:=zlf (σ.R.drop m0)
    rw[List.length_drop,HLN.out] at this
    omega
   have HM0:=Lib.hid hm0
   clear hm1 hm0 hm0'
   go_step
   go_step
   go_cut [1] (fun v wx=>v=.int .i64 (m1:Int)∧wx=wc)
   case first=>
    go_wp2_with fail
    go_loopw [1] (fun p wr=>∃ k:Nat,k≤len∧p=.int .i64 (k:Int)∧k+lead (σ.R.drop k)=m1∧wr=wc) (fun p _=>len - (intOf p).toNat)
    case atStart=>exact⟨m0,hm,rfl,HM1.out,rfl⟩
    case round=>
     obtain⟨k,hkl,rfl,hkm,hw⟩:=hrel
     have hw2:=hw.symm
     subst hw2
     have HK:=Lib.hid hkm
     clear hkm hw
     by_cases hlt:k<len
     ·have hltT:k<σ.R.length:=by rw[HLN.out];exact hlt
      have ho:=HO.out zdH
      subst ho
      obtain⟨c0,_,_,_⟩:=zgi HM.out.cells k hltT
      rw[Nat.zero_add] at c0
      rw[List.drop_eq_getElem_cons hltT,lead] at HK
      have hq0:(0:Int)≤(k:Int):=by omega
      have hd:decide ((k:Int)<(len:Int))=true:=decide_eq_true zdC
      have hd':decide (k<len)=true:=decide_eq_true hlt
      generalize σ.R[k]=t at *
      obtain⟨z,x1,x2,xo,xn,xc⟩:=t
      simp only[] at c0 HK
      clear hltT
      cases hs:sig z with
      |true=>
       rw[hs,if_pos rfl] at HK
       have hz:10≤z:=of_decide_eq_true hs
       have hd2:decide (z<10)=false:=decide_eq_false zdC
       clear hs hz
       exact zcV
      |false=>
       rw[hs,if_neg zdF] at HK
       have hz:¬ 10≤z:=of_decide_eq_false hs
       have hd2:decide (z<10)=true:=decide_eq_true zdC
       clear hs hz
       go_wp2_with fail
       exact zda
     ·have hd:decide ((k:Int)<(len:Int))=false:=decide_eq_false zdC
      have hd':decide (k<len)=false:=decide_eq_false hlt
      rw[List.drop_of_length_le zdG,lead] at HK
      exact zcV
   case rest=>
    obtain⟨rfl,hwx⟩:=hcut
    have hwx2:=hwx.symm
    subst hwx2
    clear hwx
    rename World=>W0
    have HE0:Hid (∀ u,Below W0.heap.size W0 u→Calls Tryz.prog 89 #[.pointer (some ⟨b,0,none⟩)] u fun e w'=>e=.returned (.int .i64 σ.here)∧u=w'):=Lib.hid (fun u hu=>zkq (by rw[HLN.out] at HRD;exact HRD.out.below hu))
    obtain⟨hr,hhr⟩:∃ hr,σ.here=hr:=⟨_,rfl⟩
    rw[hhr] at HE0
    have HHE:=Lib.hid hhr
    clear hhr HE
    go_step
    go_step
    go_cut [6] (fun v wx=>v=.pointer (some ⟨W0.heap.size,0,none⟩)∧wx.heap[W0.heap.size]? = some (.cells #[.int .i64 kind,.int .i64 hr,.int .i64 hr,.slice none 0 0] 43 (0,0))∧Below W0.heap.size W0 wx)
    case first=>
     go_wp2_with (go_at_call 89;refine(HE0.out _ ?_).mono ?_;(first|exact Below.refl _ _|exact(Below.refl _ _).alloc (Nat.le_refl _) _);rintro e w' ⟨rfl,rfl⟩)
     go_meet
     exact⟨rfl,heap_alloc_last _ _,(Below.refl _ _).alloc (Nat.le_refl _) _⟩
    case rest=>
     rename World=>W1
     obtain⟨rfl,hcell,hb⟩:=hcut
     go_step
     go_step
     go_cut [7] (fun v wx=>v=.int .i64 1∧wx=W1)
     case first=>
      go_wp2_with fail
      go_meet
      exact⟨rfl,rfl⟩
     case rest=>
      obtain⟨rfl,hwx⟩:=hcut
      have hwx2:=hwx.symm
      subst hwx2
      clear hwx
      go_step
      go_step
      obtain⟨B0,hB0⟩:∃ B0,W0.heap.size=B0:=⟨_,rfl⟩
      have hbB:b<B0:=by rw[← hB0];exact World.block_lt_of_cell? _ _ b2
      have HBW:=Lib.hid hb
      rw[hB0] at hcell hb HBW ⊢
      have hlt1:B0<W1.heap.size:=(Array.getElem?_eq_some_iff.1 hcell).1
      obtain⟨hi1,hhi1⟩:∃ hi1,hiFrom 1 (σ.H.drop m1)=hi1:=⟨_,rfl⟩
      have HHI:=Lib.hid hhi1
      have HCE:=Lib.hid hcell
      have HB0:=Lib.hid hB0
      rw[HLN.out] at HRD
      have HHR:=Lib.hid hHR
      have HHB:=Lib.hid hHb
      clear hhi1 hcell hb hB0 hHR hHb
      obtain⟨gh,oh,caph,hvh,hoh,_⟩:=HRD.out.high.shape
      subst hvh
      rw[HHR.out] at HRD b3
      have HOH:=Lib.hid hoh
      clear hoh
      go_cut [7] (fun v wx=>v=.int .i64 hi1∧∃ vK,wx.heap[B0]? = some (.cells #[.int .i64 kind,.int .i64 hr,.int .i64 hr,vK] 43 (0,0))∧Mine nd wx (B0+1) vK (σ.R.drop m1)∧Below B0 W0 wx)
      case first=>
       go_wp2_with fail
       go_loopw [7,8] (fun v p wr=>∃ (j:Nat) (hj:Int) (vK:Value),m1+j≤len∧p=.int .i64 ((m1+j:Nat):Int)∧v=.int .i64 hj∧0≤hj∧hj≤201∧hiFrom hj (σ.H.drop (m1+j))=hi1∧wr.heap[B0]? = some (.cells #[.int .i64 kind,.int .i64 hr,.int .i64 hr,vK] 43 (0,0))∧Mine nd wr (B0+1) vK ((σ.R.drop m1).take j)∧Below B0 W0 wr) (fun _ p _=>len - (intOf p).toNat)
       case atStart=>exact⟨0,1,_,by omega,rfl,rfl,by omega,by omega,HHI.out,HCE.out,by rw[List.take_zero];exact Mine.nil _ _,HBW.out⟩
       case round=>
        obtain⟨j,hj,vK,hjl,rfl,rfl,hh0,hh1,hhi,hck,hmk,hbk⟩:=hrel
        obtain⟨gk,ok,ck,hvk,_,_⟩:=hmk.shape
        obtain⟨nk,hnk⟩:∃ nk,((σ.R.drop m1).take j).length=nk:=⟨_,rfl⟩
        have hnk1:nk≤len:=by rw[← hnk,List.length_take,List.length_drop,HLN.out];omega
        subst hvk
        rw[hnk] at hck hmk
        have HNK:=Lib.hid hnk
        clear hnk
        have HCK:=Lib.hid hck
        have HMK:=Lib.hid hmk
        have HBK:=Lib.hid hbk
        have HHI2:=Lib.hid hhi
        have hr1:=HRD.out.below (hbk.mono zeE)
        have k2:wr.cell? ⟨b,2,none⟩=some (.slice o len cap):=(hbk.cell (p:=⟨b,2,none⟩) hbB).trans b2
        have k3:wr.cell? ⟨b,3,none⟩=some (.slice oh len caph):=(hbk.cell (p:=⟨b,3,none⟩) hbB).trans b3
        have e3:wr.cell? ⟨B0,3,none⟩=some (.slice ok nk ck):=by rw[cell_of_row _ _ 3 _ _ _ hck];rfl
        have ef3:wr.frozen? ⟨B0,3,none⟩=false:=frozen_of_row _ _ 3 _ _ hck
        have hBr:B0<wr.heap.size:=(Array.getElem?_eq_some_iff.1 hck).1
        obtain⟨p,hp⟩:∃ p,m1+j=p:=⟨_,rfl⟩
        rw[hp] at hjl HHI2 ⊢
        have HP:=Lib.hid hp
        clear hck hmk hbk hhi
        by_cases hlt:p<len
        ·have hltT:p<σ.R.length:=by rw[HLN.out];exact hlt
         have hltH:p<σ.H.length:=by rw[HHR.out];exact hlt
         have ho:=HO.out zdH
         have hoh:=HOH.out (by intro e;rw[e] at hltH;simp at hltH)
         subst ho hoh
         obtain⟨c0,c1,c2,c3⟩:=zgi hr1.row.cells p hltT
         have h0:=zgh hr1.high.cells p hltH
         rw[Nat.zero_add] at c0 c1 c2 c3 h0
         have hx:=HHB.out _ (List.getElem_mem hltH)
         rw[List.drop_eq_getElem_cons hltH] at HHI2
         obtain⟨t,ht⟩:∃ t,σ.R[p]=t:=⟨_,rfl⟩
         rw[ht] at c0 c1 c2 c3
         have htq:σ.R[p]? = some t:=by rw[List.getElem?_eq_getElem hltT,ht]
         have HT:=Lib.hid htq
         obtain⟨x,hxq⟩:∃ x,σ.H[p]=x:=⟨_,rfl⟩
         have HX:Hid (σ.H[p]=x):=Lib.hid hxq
         rw[hxq] at h0 hx HHI2
         clear hxq
         obtain⟨z,x1,x2,xo,xn,xc⟩:=t
         simp only[] at c0 c1 c2 c3
         have hq0:(0:Int)≤(p:Int):=by omega
         have hd:decide ((p:Int)<(len:Int))=true:=decide_eq_true zdC
         have hd':decide (p<len)=true:=decide_eq_true hlt
         clear ht htq hp hltT hr1
         have HA:Hid (∀ u,Below wr.heap.size wr u→∀ ad,u.heap[ad]? = some (.cells #[.int .i64 z,.int .i64 x1,.int .i64 x2,.slice xo xn xc] 43 (0,0))→∃ v' w',(∀ ty,(Builtin.append_ #[35,35] ty #[.slice ok nk ck,.slice (some ⟨ad,0,none⟩) 1 1]).run Tryz.prog u=.ok v' w') ∧
           ∃ g cap',v'=.slice (some ⟨g,0,none⟩) (nk+1) cap'∧w'.heap[B0]? = some (.cells #[.int .i64 kind,.int .i64 hr,.int .i64 hr,.slice ok nk ck] 43 (0,0))∧Mine nd w' (B0+1) (.slice (some ⟨g,0,none⟩) (nk+1) cap') ((σ.R.drop m1).take (j+1))∧Below B0 W0 w'):=Lib.hid (fun u hu ad had=>by
          obtain⟨g',cap',w',h1,h2,h3,_⟩:=zgS (F:=nd) (x:=⟨z,x1,x2,xo,xn,xc⟩) (HMK.out.below hu) had (by have:=hu.size;omega) (by rw[HNK.out];simp [maxLen];omega) (by show(_+1)*48≤_;rw[HNK.out];omega)
          rw[HNK.out] at h1 h2
          have hown:∀ k,(Value.slice ok nk ck).ownBlock=some k→B0+1≤k:=fun k hk=>(World.ownsRow.lt HMK.out k hk).1
          have hg:∀ k,k≤B0→w'.heap[k]? = wr.heap[k]?:=fun k hk=>(h3.block k (by have:=hu.size;omega) (fun e=>by have:=hown k e.symm;omega)).trans (hu.block k zdC)
          refine⟨_,w',h1,g',cap',rfl,(hg B0 (Nat.le_refl _)).trans HCK.out,?_,⟨h3.os.trans (hu.os.trans HBK.out.os),h3.tape.trans (hu.tape.trans HBK.out.tape),h3.output.trans (hu.output.trans HBK.out.output),Nat.le_trans HBK.out.size (Nat.le_trans hu.size h3.size),fun k hk=>(hg k zdC).trans (HBK.out.block k hk)⟩⟩
          rw[List.take_add_one,List.getElem?_drop,show m1+j=p from HP.out,HT.out]
          exact h2)
         have hx1:IntKind.i64.wrap (x+1)=x+1:=IntWalk.i64_in _ zdC
         have KB2:=Lib.hid (show b<wr.heap.size by omega)
         have hgr:g<wr.heap.size:=World.block_lt_of_cell? _ _ c0
         have hbr:b<wr.heap.size:=by omega
         go_wp2_with fail
         go_cut [] (fun wx=>∃ vK',wx.heap[B0]? = some (.cells #[.int .i64 kind,.int .i64 hr,.int .i64 hr,vK'] 43 (0,0))∧Mine nd wx (B0+1) vK' ((σ.R.drop m1).take (j+1))∧Below B0 W0 wx)
         case first=>
          go_region_law (refine zgy rfl _ _ _ _ rfl _ _ rfl rfl (HA.out _ ?_ _ ?_) ?_;(first|exact(Below.refl _ _).drew.alloc (Nat.le_refl _) _);(first|exact heap_alloc_last _ _);rintro v' w' ⟨g',cap',rfl,hc',hm',hb'⟩;have HC':=Lib.hid hc';have HM':=Lib.hid hm';have HB':=Lib.hid hb';have y3:=(show w'.cell? ⟨B0,3,none⟩=some (.slice ok nk ck) by rw[cell_of_row _ _ 3 _ _ _ hc'];rfl);have z3:=(show w'.frozen? ⟨B0,3,none⟩=false from frozen_of_row _ _ 3 _ _ hc');clear hc' hm' hb')
          all_goals(try go_wp2_with fail)
          all_goals go_meet
          all_goals exact⟨_,heap_setCell_same _ B0 3 _ _ _ HC'.out,HM'.out.keep (fun k hk _=>zfy _ _ _ _ _ (by have:=(World.ownsRow.lt HM'.out k hk).1;omega)),HB'.out.setCell (p:=⟨B0,3,none⟩) (Nat.le_refl _) _⟩
         case rest=>
          obtain⟨vK',hck',hmk',hbk'⟩:=hcut
          have HCK':=Lib.hid hck'
          have HMK':=Lib.hid hmk'
          have HBK':=Lib.hid hbk'
          have l3:wc.cell? ⟨b,3,none⟩=some (.slice (some ⟨gh,0,none⟩) len caph):=(hbk'.cell (p:=⟨b,3,none⟩) hbB).trans b3
          have l0:=zgh (HRD.out.below (hbk'.mono zeE)).high.cells p hltH
          rw[HX.out,Nat.zero_add] at l0
          clear hck' hmk' hbk'
          by_cases hmx:hj<x+1
          ·have hmd:decide (hj<x+1)=true:=decide_eq_true hmx
           have HMX:Hid (max hj (x+1)=x+1):=Lib.hid zdC
           go_wp2_with fail
           go_roundw
           case rel=>
            refine⟨j+1,x+1,vK',by have:=HP.out;omega,by have:=HP.out;go_num,(by first|rfl|rw[HMX.out]),by omega,by omega,?_,HCK'.out,HMK'.out,HBK'.out⟩
            exact zdf
           case measure=>simp [intOf];omega
          ·have hmd:decide (hj<x+1)=false:=decide_eq_false hmx
           have HMX:Hid (max hj (x+1)=hj):=Lib.hid zdC
           go_wp2_with fail
           go_roundw
           case rel=>
            refine⟨j+1,hj,vK',by have:=HP.out;omega,by have:=HP.out;go_num,(by first|rfl|rw[HMX.out]),by omega,by omega,?_,HCK'.out,HMK'.out,HBK'.out⟩
            exact zdf
           case measure=>simp [intOf];omega
        ·have hd:decide ((p:Int)<(len:Int))=false:=decide_eq_false zdC
         have hd':decide (p<len)=false:=decide_eq_false hlt
         have hpe:p=len:=by omega
         have h1:=HHI2.out
         rw[List.drop_of_length_le (by rw[HHR.out];omega)] at h1
         have h2:=HMK.out
         rw[List.take_of_length_le (by rw[List.length_drop,HLN.out];have:=HP.out;omega)] at h2
         have H1:=Lib.hid h1
         have H2:=Lib.hid h2
         clear h1 h2 hpe
         go_wp2_with fail
         go_meet
         exact⟨by rw[← H1.out];rfl,_,HCK.out,H2.out,HBK.out⟩
      case rest=>
       rename World=>W2
       obtain⟨rfl,vK,hck,hmk,hbk⟩:=hcut
       obtain⟨gk,ok,ck,hvk,hok,hgk1,hgk2⟩:=hmk.shape
       subst hvk
       obtain⟨nk,hnk⟩:∃ nk,(σ.R.drop m1).length=nk:=⟨_,rfl⟩
       have hnk1:nk≤len:=by rw[← hnk,List.length_drop,HLN.out];omega
       rw[hnk] at hck hmk
       have HNK:=Lib.hid hnk
       have HCK:=Lib.hid hck
       have HMK:=Lib.hid hmk
       have HBK:=Lib.hid hbk
       have HOK:=Lib.hid hok
       have HGK:=Lib.hid (And.intro hgk1 hgk2)
       have e3:W2.cell? ⟨B0,3,none⟩=some (.slice ok nk ck):=by rw[cell_of_row _ _ 3 _ _ _ hck];rfl
       have e1:W2.cell? ⟨B0,1,none⟩=some (.int .i64 hr):=by rw[cell_of_row _ _ 1 _ _ _ hck];rfl
       have e2:W2.cell? ⟨B0,2,none⟩=some (.int .i64 hr):=by rw[cell_of_row _ _ 2 _ _ _ hck];rfl
       have ef1:W2.frozen? ⟨B0,1,none⟩=false:=frozen_of_row _ _ 1 _ _ hck
       have ef2:W2.frozen? ⟨B0,2,none⟩=false:=frozen_of_row _ _ 2 _ _ hck
       have hBr:B0<W2.heap.size:=(Array.getElem?_eq_some_iff.1 hck).1
       obtain⟨iF,hiF⟩:∃ iF,fromK hr (σ.R.drop m1)=iF:=⟨_,rfl⟩
       obtain⟨iT,hiT⟩:∃ iT,toK hr (σ.R.drop m1)=iT:=⟨_,rfl⟩
       have HIF:=Lib.hid hiF
       have HIT:=Lib.hid hiT
       clear hnk hck hmk hbk hok hgk1 hgk2 hiF hiT
       go_step
       go_step
       go_cut [] (fun wx=>wx.heap[B0]? = some (.cells #[.int .i64 kind,.int .i64 iF,.int .i64 iT,.slice ok nk ck] 43 (0,0))∧Mine nd wx (B0+1) (.slice ok nk ck) (σ.R.drop m1)∧Below B0 W0 wx)
       case first=>
        rcases Nat.eq_zero_or_pos nk with h0|h0
        ·have hd0:decide ((0:Int)<(nk:Int))=false:=decide_eq_false zdC
         have hd1:decide (0<nk)=false:=decide_eq_false zdC
         have hnil:σ.R.drop m1=[]:=List.eq_nil_of_length_eq_zero (by rw[HNK.out];exact h0)
         have h1:iF=hr:=by rw[← HIF.out,hnil];rfl
         have h2:iT=hr:=by rw[← HIT.out,hnil];rfl
         have HE1:=Lib.hid (And.intro h1 h2)
         clear hnil h1 h2 h0
         go_wp2_with fail
         all_goals go_meet
         all_goals exact⟨by rw[HE1.out.1,HE1.out.2];exact HCK.out,HMK.out,HBK.out⟩
        ·have hd0:decide ((0:Int)<(nk:Int))=true:=decide_eq_true zdC
         have hd1:decide (0<nk)=true:=decide_eq_true h0
         have hlt0:0<(σ.R.drop m1).length:=by rw[HNK.out];exact h0
         have hltn:nk - 1<(σ.R.drop m1).length:=by rw[HNK.out];omega
         have ho:=HOK.out (by intro e;rw[e] at hlt0;simp at hlt0)
         subst ho
         obtain⟨_,c1,_,_⟩:=zgi HMK.out.cells 0 hlt0
         obtain⟨_,_,c2,_⟩:=zgi HMK.out.cells (nk - 1) hltn
         have h1:(σ.R.drop m1)[0].i=iF:=by
          rw[← HIF.out]
          exact zvA hr _ hlt0
         have h2:(σ.R.drop m1)[nk - 1].j=iT:=by
          rw[← HIT.out]
          unfold toK
          rw[List.getLast?_eq_getElem?,HNK.out,List.getElem?_eq_getElem hltn]
         rw[h1] at c1
         rw[h2,Nat.zero_add] at c2
         have c1':W2.cell? ⟨gk,1,none⟩=some (.int .i64 iF):=c1
         have hgB:=(HGK.out.1:B0+1≤gk)
         have hgB':(gk == B0)=false:=beq_eq_false_iff_ne.2 zdC
         have hgB'':(B0 == gk)=false:=beq_eq_false_iff_ne.2 zdC
         have hi0:(0:Int)≤(nk:Int) - 1:=by omega
         have hi1':(nk:Int) - 1<(nk:Int):=by omega
         have hi2:((nk:Int) - 1).toNat=nk - 1:=by omega
         clear c1 h1 h2
         go_wp2_with fail
         all_goals go_meet
         all_goals exact⟨heap_setCell_same _ B0 2 _ _ _ (heap_setCell_same _ B0 1 _ _ _ HCK.out),(HMK.out.keep (fun k hk _=>zfy _ _ _ _ _ (by have:=(World.ownsRow.lt HMK.out k hk).1;omega))).keep (fun k hk _=>zfy _ _ _ _ _ (by have:=(World.ownsRow.lt HMK.out k hk).1;omega)),(HBK.out.setCell (p:=⟨B0,1,none⟩) (Nat.le_refl _) _).setCell (p:=⟨B0,2,none⟩) (Nat.le_refl _) _⟩
       case rest=>
        rename World=>W3
        obtain⟨hck3,hmk3,hbk3⟩:=hcut
        have HMK3:=Lib.hid hmk3
        have HBK3:=Lib.hid hbk3
        have hr3:=HRD.out.below (hbk3.mono zeE)
        have HR3:=Lib.hid hr3
        obtain⟨⟨_,_,y2,y3,_,_,_,_,_⟩,hfz⟩:=zgd hr3.cells
        have f2:=hfz 2
        have f3:=hfz 3
        have d0:W3.cell? ⟨B0,0,none⟩=some (.int .i64 kind):=by rw[cell_of_row _ _ 0 _ _ _ hck3];rfl
        have d1:W3.cell? ⟨B0,1,none⟩=some (.int .i64 iF):=by rw[cell_of_row _ _ 1 _ _ _ hck3];rfl
        have d2:W3.cell? ⟨B0,2,none⟩=some (.int .i64 iT):=by rw[cell_of_row _ _ 2 _ _ _ hck3];rfl
        have d3:W3.cell? ⟨B0,3,none⟩=some (.slice ok nk ck):=by rw[cell_of_row _ _ 3 _ _ _ hck3];rfl
        obtain⟨hsR,hmR⟩:=hr3.row.upto m1 (by rw[HLN.out];exact hm1l)
        obtain⟨hsH,hmH⟩:=hr3.high.upto m1 (by rw[HHR.out];exact hm1l)
        have hsR':∀ u,(Instr.slice 35 (.slice o len cap) none (some (.int .i64 (m1:Int))) none).run Tryz.prog u=.ok (.slice o m1 cap) u:=hsR
        have hsH':∀ u,(Instr.slice 58 (.slice oh len caph) none (some (.int .i64 (m1:Int))) none).run Tryz.prog u=.ok (.slice oh m1 caph) u:=hsH
        clear hsR hsH
        have hb3:b<W3.heap.size:=(Array.getElem?_eq_some_iff.1 hr3.cells).1
        have hkb:b≠B0:=by omega
        have hRb:=hr3.row.ne hr3.cells zdD
        have hHb:=hr3.high.ne hr3.cells zdD
        obtain⟨W4,hW4⟩:∃ W4,(W3.setCell ⟨b,2,none⟩ (.slice o m1 cap)).setCell ⟨b,3,none⟩ (.slice oh m1 caph)=W4:=⟨_,rfl⟩
        have hs4:∀ k,k≠b→W4.heap[k]? = W3.heap[k]?:=fun k hk=>by rw[← hW4,zfy _ _ _ _ _ hk,zfy _ _ _ _ _ hk]
        have hz4:W4.heap.size=W3.heap.size:=by rw[← hW4,zfA,zfA]
        have HN4:Hid (Nx W0 b (.slice o len cap) (.slice oh len caph) W4 (.slice o m1 cap) (.slice oh m1 caph)):=Lib.hid (by
         have h1:Nx W0 b (.slice o len cap) (.slice oh len caph) W3 (.slice o len cap) (.slice oh len caph):=Nx.below (hbk3.mono zeE)
         refine h1.trans ⟨by rw[← hW4];rfl,by rw[← hW4];rfl,by rw[← hW4];rfl,by rw[hz4];exact Nat.le_refl _,fun k _ hk _ _=>hs4 k hk,fun k hk=>.inl ((zhY o m1 len cap).symm.trans hk),fun k hk=>.inl ((zhY oh m1 len caph).symm.trans hk)⟩)
        have HR4:Hid (RdAt W4 b vL (.slice o m1 cap) (.slice oh m1 caph) { σ with R:=σ.R.take m1,H:=σ.H.take m1 }):=Lib.hid ⟨by rw[← hW4];exact heap_setCell_same _ b 3 _ _ _ (heap_setCell_same _ b 2 _ _ _ hr3.cells),hr3.toks.off hr3.cells zdD (fun k _ hk=>hs4 k hk),hmR.keep (fun k hk _=>hs4 k (fun e=>hRb (by rw[e] at hk;exact(zhY o m1 len cap).symm.trans hk))),hmH.keep (fun k hk _=>hs4 k (fun e=>hHb (by rw[e] at hk;exact(zhY oh m1 len caph).symm.trans hk))),hr3.read,hr3.few⟩
        have HK4:Hid (Mine nd W4 (B0+1) (.slice ok nk ck) (σ.R.drop m1)∧∀ k,(Value.slice ok nk ck).ownBlock=some k→k≠b∧(Value.slice o m1 cap).ownBlock≠some k∧(Value.slice oh m1 caph).ownBlock≠some k):=Lib.hid (by
         have hge:∀ k,(Value.slice ok nk ck).ownBlock=some k→B0+1≤k:=fun k hk=>(World.ownsRow.lt hmk3 k hk).1
         refine⟨hmk3.keep (fun k hk _=>hs4 k (by have:=hge k hk;omega)),fun k hk=>⟨by have:=hge k hk;omega,fun e=>?_,fun e=>?_⟩⟩
         ·have h1:=HRD.out.row.lt k ((zhY o m1 len cap).symm.trans e);have h2:=hge k hk;have h3:=HB0.out;omega
         ·have h1:=HRD.out.high.lt k ((zhY oh m1 len caph).symm.trans e);have h2:=hge k hk;have h3:=HB0.out;omega)
        have hP:=Lib.hid (zkg HR4.out ⟨kind,iF,iT,ok,nk,ck⟩ hi1 (by show(σ.R.take m1).length≤_;rw[List.length_take];omega) (by show(σ.H.take m1).length≤_;rw[List.length_take];omega))
        have HW4:=Lib.hid hW4
        clear hmk3 hbk3 hr3 hfz hmR hmH hRb hHb hs4 hz4 hW4 hck3
        go_wp2_with (go_at_call 67;rw[HW4.out];refine hP.out.mono ?_;rintro e w5 ⟨v5,vR5,vH5,rfl,hr5,hn5⟩;have HR5:=Lib.hid hr5;have HN5:=Lib.hid hn5;clear hr5 hn5)
        all_goals
         have HE5:Hid (∃ wl,wl=W0.heap.size∧B0=wl):=Lib.hid ⟨_,rfl,HB0.out.symm⟩
         obtain⟨hk5,hk5'⟩:=HK4.out.1.nx HN5.out HK4.out.2
         have HK5:=Lib.hid (And.intro hk5 hk5')
         clear hk5 hk5' HE5
        ·rename 100<hi1=>hbig
         have HBG:=Lib.hid hbig
         clear hbig
         go_wp2_with (go_at_call 46;refine(zja HR5.out 202).mono ?_;rintro e w6 ⟨v6,vR6,vH6,rfl,hr6,hn6⟩;have HR6:=Lib.hid hr6;have HN6:=Lib.hid hn6;clear hr6 hn6)
         all_goals(first|go_end0|go_ret)
         obtain⟨hk6,hk6'⟩:=HK5.out.1.nx HN6.out HK5.out.2
         have hm1':clampR m σ.R.length+lead (σ.R.drop (clampR m σ.R.length))=m1:=by rw[HLN.out,HM0.out,HM1.out]
         unfold Closes
         rw[hm1',HHE.out,HIF.out,HIT.out,HNK.out,HB0.out,HLN.out,HHR.out]
         exact⟨_,vR6,vH6,ok,ck,rfl,by unfold Rd.close Rd.closed;rw[HHI.out,if_pos HBG.out];exact HR6.out,(HN4.out.trans HN5.out).trans HN6.out,hk6,hk6'⟩
        ·rename hi1≤100=>hbig
         go_end0
         have hm1':clampR m σ.R.length+lead (σ.R.drop (clampR m σ.R.length))=m1:=by rw[HLN.out,HM0.out,HM1.out]
         unfold Closes
         rw[hm1',HHE.out,HIF.out,HIT.out,HNK.out,HB0.out,HLN.out,HHR.out]
         exact⟨_,vR5,vH5,ok,ck,rfl,by unfold Rd.close Rd.closed;rw[HHI.out,if_neg zdC];exact HR5.out,HN4.out.trans HN5.out,HK5.out.1,HK5.out.2⟩
end Go.Proofs.YtcekbbkidipbnaaGreat.rd
