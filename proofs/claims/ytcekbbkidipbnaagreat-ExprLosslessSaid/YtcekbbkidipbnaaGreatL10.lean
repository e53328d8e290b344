/-
  Texts put together: Ic, Id.
-/
import Derived.Test.YtcekbbkidipbnaaGreatL5
import Derived.Test.YtcekbbkidipbnaaGreatL8
import Derived.Test.YtcekbbkidipbnaaGreatL4
set_option maxRecDepth 100000
set_option maxHeartbeats 8000000
namespace Go.Proofs.YtcekbbkidipbnaaGreat.rd
open Go.RowKit
structure HeldC {α:Type} (C:Keep) (w:World) (B:Nat) (v:Value) (F:Kd α) (T:List α):Prop where
 mine:Mine F w B v T
 held:∀ k,v.ownBlock=some k→C.K k
theorem HeldC.call {α:Type} {F:Kd α} {C C':Kc} {w w':World} {B b:Nat} {x y:Res} {v:Value} {T:List α} (h:HeldC C.k w B v F T) (h1:CAt C w b x) (hk:C'.k=C.k) (h2:CAt C' w' b y):HeldC C.k w' B v F T:=
 ⟨h.mine.keep (fun k hk' _=>(by have:=(h2.kept k (by rw[hk];exact h.held k hk')).1;rw[hk] at this;exact this:w'.heap[k]? = C.k.W.heap[k]?).trans (h1.kept k (h.held k hk')).1.symm),h.held⟩
theorem HeldC.push {α:Type} {F:Kd α} {C C1:Kc} {w:World} {B b:Nat} {x:Res} {v:Value} {T:List α} (hne:F.e≠tk.e∧F.e≠nd.e∧F.e≠it.e) (he:Ext C.k C1.k B) (hat:CAt C1 w b x) (h:HeldC C1.k w B v F T) (hl:T.length≤1099511627776) (hby:F.bytes≤64) (a:α) :
  ∃ v' w',(∀ ty,(Builtin.append_ #[F.t,F.t] ty #[v,.slice (some ⟨w.heap.size,0,none⟩) 1 1]).run Tryz.prog (w.alloc (.cells (F.c a).toArray F.e))=.ok v' w') ∧
   ∃ C2:Kc,Ext C.k C2.k B∧C2.low=C1.low∧CAt C2 w' b x∧HeldC C2.k w' B v' F (T ++ [a])∧∀ (β:Type) (G:Kd β) (v2:Value) (T2:List β),HeldC C1.k w B v2 G T2→Apart v v2→HeldC C2.k w' B v2 G T2∧Apart v' v2:=by
 have hu:Below w.heap.size w (w.alloc (.cells (F.c a).toArray F.e)):=(Below.refl _ _).alloc (Nat.le_refl _) _
 have hBw:B≤w.heap.size:=Nat.le_trans he.base.2 hat.size
 obtain⟨g,cap',w',h1,h2,h3,h4⟩:=app_lies (h.mine.below hu) (heap_alloc_last w _) (Nat.le_trans hBw hu.size) (by simp [maxLen];omega) (by have:=Nat.mul_le_mul (show T.length+1≤1099511627777 by omega) hby;omega)
 have hsz:w.heap.size≤w'.heap.size:=Nat.le_trans hu.size h3.size
 have hz1:(w.alloc (.cells (F.c a).toArray F.e)).heap.size=w.heap.size+1:=World.size_alloc _ _
 have hsame:∀ k,k<w.heap.size→v.ownBlock≠some k→w'.heap[k]? = w.heap[k]?:=fun k hk hn=>(h3.block k (by omega) (fun e=>hn e.symm)).trans (hu.block k hk)
 have hB:∀ k,v.ownBlock=some k→B≤k:=fun k hk=>(World.ownsRow.lt h.mine k hk).1
 have hg:v.ownBlock=some g∨w.heap.size≤g:=by
  rcases h4 with h4|h4
  ·exact .inl h4
  ·exact .inr (by rw[h4,hz1];omega)
 refine⟨_,w',h1,⟨⟨w',fun k=>C1.k.K k∨(w.heap.size≤k∧k<w'.heap.size)⟩,C1.low⟩,⟨?_,?_,?_,?_,?_,fun k hk=>?_⟩,rfl,hat.rebase hsz (fun k hk=>?_) rfl (fun k hk=>?_) rfl,⟨h2,fun k hk=>?_⟩,?_⟩
 ·obtain⟨vL,vS,vR,σ,D,hr,ho,hi⟩:=hat
  exact h3.os.trans (hu.os.trans (ho.os.trans he.os))
 ·obtain⟨vL,vS,vR,σ,D,hr,ho,hi⟩:=hat
  exact h3.tape.trans (hu.tape.trans (ho.tape.trans he.tape))
 ·obtain⟨vL,vS,vR,σ,D,hr,ho,hi⟩:=hat
  exact h3.output.trans (hu.output.trans (ho.output.trans he.output))
 ·exact Nat.le_trans he.size (Nat.le_trans hat.size hsz)
 ·exact⟨he.base.1,Nat.le_trans hBw hsz⟩
 ·obtain⟨a1,a2,a3⟩:=he.kept k hk
  obtain⟨b1,b2⟩:=hat.kept k a2
  exact⟨a1,.inl a2,(hsame k (by omega) (fun e=>by have:=hB k e;omega)).trans (b1.trans a3)⟩
 ·by_cases hk2:v.ownBlock=some k
  ·refine .inr ⟨h.held k hk2,?_⟩
   rcases h.mine.2 with⟨hv,_⟩|⟨q,cap,cur',hv,hq,hh,_⟩
   ·rw[hv] at hk2;cases hk2
   ·rw[hv] at hk2
    simp only[Value.ownBlock,Option.some.injEq] at hk2
    subst hk2
    exact⟨_,_,_,hh,hne.1,hne.2.1,hne.2.2⟩
  ·exact .inl (hsame k hk hk2)
 ·rcases hk with hk|hk
  ·have:=(hat.kept k hk).2
   have:=hat.size
   exact⟨by omega,.inl hk⟩
  ·exact⟨hk.2,.inr hk.1⟩
 ·simp only[Value.ownBlock,Option.some.injEq] at hk
  subst hk
  rcases hg with hg|hg
  ·exact .inl (h.held _ hg)
  ·exact .inr ⟨hg,h2.lt _ rfl⟩
 ·intro β G v2 T2 h5 h6
  refine⟨⟨h5.mine.keep (fun k hk hz=>hsame k hz (fun e=>h6 k e hk)),fun k hk=>.inl (h5.held k hk)⟩,fun k hk e=>?_⟩
  simp only[Value.ownBlock,Option.some.injEq] at hk
  subst hk
  rcases hg with hg|hg
  ·exact h6 _ hg e
  ·have:=h5.mine.lt _ e;omega
theorem HeldC.start {α:Type} {F:Kd α} {C:Keep} {w w':World} {B:Nat} {v:Value} {T:List α} (h:HeldC C w B v F T) (hb:Below w.heap.size w w'):HeldC ⟨w',fun k=>C.K k∨(w.heap.size≤k∧k<w'.heap.size)⟩ w' B v F T:=
 ⟨h.mine.below hb,fun k hk=>.inl (h.held k hk)⟩
theorem HeldC.same {α:Type} {F:Kd α} {C C':Keep} {w w':World} {B:Nat} {v:Value} {T:List α} (h:HeldC C w B v F T) (hs:∀ k,v.ownBlock=some k→w'.heap[k]? = w.heap[k]?) (hK:∀ k,C.K k→C'.K k):HeldC C' w' B v F T:=
 ⟨h.mine.keep (fun k hk _=>hs k hk),fun k hk=>hK k (h.held k hk)⟩
theorem Ext.trans {C C1 C2:Keep} {B B2:Nat} (h:Ext C C1 B) (h2:Ext C1 C2 B2):Ext C C2 B:=
 ⟨h2.os.trans h.os,h2.tape.trans h.tape,h2.output.trans h.output,Nat.le_trans h.size h2.size,⟨h.base.1,Nat.le_trans h.base.2 h2.size⟩,fun k hk=>by
  obtain⟨a1,a2,a3⟩:=h.kept k hk
  obtain⟨b1,b2,b3⟩:=h2.kept k a2
  exact⟨a1,b2,b3.trans a3⟩⟩
theorem cmark_raise {C:Kc} {w:World} {b:Nat} {x:Res} (h:Hid (CAt C w b x)):∃ v:Nat,C.low≤v∧v≤549755813889∧Hid (Calls Tryz.prog 61 #[.pointer (some ⟨b,0,none⟩)] w fun e w'=>e=.returned (.int .i64 (v:Int))∧w=w')∧Hid (CAt ⟨C.k,v⟩ w b x)∧(∀ s,x=.ok s→v=s.R.length):=by
 obtain⟨vL,vS,vR,σ,D,hr,ho,hi⟩:=h.out
 have hf:=c_few hi
 have hM:=Lib.hid (cmark_any hr)
 refine⟨σ.R.length,?_,by omega,hM,Lib.hid ⟨vL,vS,vR,σ,D,hr,ho,?_⟩,fun s e=>?_⟩
 ·cases x with
  |fail a0 a1 a2=>exact hi.2.2.2.2.2.2
  |ok s=>
   have:=hi.2.2.2.1.length
   rw[List.length_map] at this
   rw[this]
   exact hi.2.2.2.2.2.2.2.2.2
 ·cases x with
  |fail a0 a1 a2=>
   obtain⟨h1,h2,h3,h4,h5,h6,h7⟩:=hi
   exact⟨h1,h2,h3,h4,h5,h6,Nat.le_refl _⟩
  |ok s=>
   obtain⟨h1,h2,h3,h4,h5,h6,h7,h8,h9,h10⟩:=hi
   have:=h4.length
   rw[List.length_map] at this
   exact⟨h1,h2,h3,h4,h5,h6,h7,h8,h9,Nat.le_of_eq this⟩
 ·subst e
  have:=hi.2.2.2.1.length
  rw[List.length_map] at this
  exact this
theorem CAt.wrote {C:Kc} {w w':World} {b B1:Nat} {x:Res} (h:Hid (CAt C w b x)) (hK:C.k.K B1) (hc:∃ cur e fz,w.heap[B1]? = some (.cells cur e fz)∧e≠tk.e∧e≠nd.e∧e≠it.e) (hs:∀ k,k≠B1→w'.heap[k]? = w.heap[k]?) (hz:w'.heap.size=w.heap.size):Hid (CAt ⟨⟨w',C.k.K⟩,C.low⟩ w' b x):=
 Lib.hid (h.out.rebase (Nat.le_of_eq hz.symm) (fun k hk=>by
  by_cases e:k=B1
  ·subst e;exact .inr ⟨hK,hc⟩
  ·exact .inl (hs k e)) rfl (fun k hk=>⟨by have h1:=(h.out.kept k hk).2;have h2:=h.out.size;omega,.inl hk⟩) rfl)
structure En where
 (f t:Nat)
 k:Int
 is:Bool
def en:Kd En where
 c x:=[.int .i64 (x.f:Int),.int .i64 (x.t:Int),.int .i64 x.k,.bool x.is]
 k:=4
 e:=94
 t:=90
 z:=.agg #[.int .i64 0,.int .i64 0,.int .i64 0,.bool false]
 bytes:=32
 len _:=rfl
 one x u hu:=by simp only[List.mem_cons,List.not_mem_nil,or_false] at hu;rcases hu with rfl|rfl|rfl|rfl <;> rfl
 ht:=Tryz.underlying90
 hi:=by kernel_rfl
 hz:=rfl
 hk:=by decide
 ht':=by kernel_rfl
 hs _:=by kernel_rfl
theorem cells_en {w:World} {g off:Nat} {T:List En} (h:Cells en w g off T) (n:Nat) (hn:n<T.length):w.cell? ⟨g,off+n*4,none⟩=some (.int .i64 (T[n].f:Int))∧w.cell? ⟨g,off+n*4+1,none⟩=some (.int .i64 (T[n].t:Int))∧w.cell? ⟨g,off+n*4+2,none⟩=some (.int .i64 T[n].k)∧w.cell? ⟨g,off+n*4+3,none⟩=some (.bool T[n].is):=
 ⟨h _ _ (flat_at en T n hn 0 (by decide)),h _ _ (flat_at en T n hn 1 (by decide)),h _ _ (flat_at en T n hn 2 (by decide)),h _ _ (flat_at en T n hn 3 (by decide))⟩
open Go.RowKit
theorem csigs_few {C:Kc} {w:World} {b:Nat} {x:Res} (h:Hid (CAt C w b x)):x.sigs.length≤549755813888:=by
 obtain⟨vL,vS,vR,σ,D,hr,ho,hi⟩:=h.out
 cases x with
 |fail=>simp [Res.sigs]
 |ok s=>
  obtain⟨h1,h2,h3,h4,h5,h6,h7,h8,h9,h10⟩:=hi
  simp only[Res.sigs,List.length_map]
  have:=List.length_filter_le (fun t:Tk=>sig t.k) (s.L.drop s.at')
  rw[List.length_drop] at this
  omega
def behindB (z:Int):Bool:=z != 0 && z != 60 && z != 62
theorem ctypeBehind_at {C:Kc} {w:World} {b:Nat} {x:Res} (h:Hid (CAt C w b x)) (h1:x.ahead 1=58):Calls Tryz.prog 144 #[.pointer (some ⟨b,0,none⟩)] w fun e w'=>e=.returned (.bool (behindB (behindOf 0 (x.sigs.drop 1))))∧Hid (CAt C w' b x):=by
 have hfew:=csigs_few h
 have hb1:behindOf 0 (x.sigs.drop 1)=behindOf 1 (x.sigs.drop 2):=by
  have hlt:1<x.sigs.length:=by
   rcases Nat.lt_or_ge 1 x.sigs.length with h2|h2
   ·exact h2
   ·have:=(ahead_none h2).2;rw[this] at h1;cases h1
  rw[(ahead_some hlt).1,h1,behindOf,if_pos rfl]
 rw[hb1]
 obtain⟨B,hB⟩:∃ B,behindOf 1 (x.sigs.drop 2)=B:=⟨_,rfl⟩
 rw[hB]
 have HBB:=Lib.hid hB
 have hlt:2≤x.sigs.length:=by
  rcases Nat.lt_or_ge 1 x.sigs.length with h2|h2
  ·exact h2
  ·have:=(ahead_none h2).2;rw[this] at h1;cases h1
 clear hb1 hB h1
 have HA:Hid (∀ (n:Nat),n≤549755813890→∀ W,Hid (CAt C W b x)→Calls Tryz.prog 59 #[.pointer (some ⟨b,0,none⟩),.int .i64 (n:Int)] W fun e w'=>e=.returned (.int .i64 (x.ahead n))∧Hid (CAt C w' b x)):=Lib.hid (fun n hn W hW=>cahead_at hW n (by omega))
 have HS:Hid (∀ n,n<x.sigs.length→x.sigs.drop n=x.ahead n::x.sigs.drop (n+1)∧x.ahead n≠0):=Lib.hid (fun n hn=>ahead_some hn)
 have HZ:Hid (∀ n,x.sigs.length≤n→x.sigs.drop n=[]∧x.ahead n=0):=Lib.hid (fun n hn=>ahead_none hn)
 obtain⟨P,hP⟩:∃ P:World→Prop,(fun W=>Hid (CAt C W b x))=P:=⟨_,rfl⟩
 have HA2:Hid (∀ (n:Nat),n≤549755813890→∀ W,P W→Calls Tryz.prog 59 #[.pointer (some ⟨b,0,none⟩),.int .i64 (n:Int)] W fun e w'=>e=.returned (.int .i64 (x.ahead n))∧P w'):=Lib.hid (by rw[← hP];exact HA.out)
 have hP0:P w:=by rw[← hP];exact h
 have HFIN:Hid (∀ W,P W→Hid (CAt C W b x)):=Lib.hid (fun W hW=>by rw[← hP] at hW;exact hW)
 clear HA hP h
 obtain⟨S,hS⟩:∃ S,x.sigs=S:=⟨_,rfl⟩
 rw[hS] at HS HZ HBB hfew hlt
 clear hS
 obtain⟨A,hA⟩:∃ A:Nat→Int,x.ahead=A:=⟨_,rfl⟩
 rw[hA] at HA2 HS HZ
 clear hA
 go_enter Tryz.func144,Tryz.ntmps144
 go_wp2_with fail
 go_loopw [3,4] (fun p q wr=>∃ c k:Nat,2≤k∧k≤S.length∧c≤k∧p=.int .i64 (k:Int)∧q=.int .i64 (c:Int)∧((1≤c∧behindOf c (S.drop k)=B)∨(c=0∧A k=B))∧P wr) (fun p _ _=>S.length+1 - (intOf p).toNat)
 case atStart=>exact⟨1,2,by omega,by omega,by omega,rfl,rfl,.inl ⟨by omega,HBB.out⟩,hP0⟩
 case round=>
  clear hP0
  obtain⟨c,k,hk1,hk2,hck,rfl,rfl,hor,hP1⟩:=hrel
  rcases hor with⟨hc1,hbo⟩|⟨hc0,hAk0⟩
  ·have HB:=Lib.hid hbo
   have hd:decide (0<(c:Int))=true:=decide_eq_true (by omega)
   clear hbo
   rcases Nat.lt_or_ge k S.length with hlt2|hge
   ·obtain⟨hdr,hne⟩:=HS.out k hlt2
    obtain⟨z,hz⟩:∃ z,A k=z:=⟨_,rfl⟩
    rw[hz] at hdr hne
    have HAk:Hid (∀ W,P W→Calls Tryz.prog 59 #[.pointer (some ⟨b,0,none⟩),.int .i64 (k:Int)] W fun e w'=>e=.returned (.int .i64 z)∧P w'):=Lib.hid (by rw[← hz];exact HA2.out k (by omega))
    rw[hdr,behindOf] at HB
    have e0:(z == 0)=false:=beq_eq_false_iff_ne.2 hne
    clear hdr hz
    by_cases h58:z=58
    ·rw[if_pos h58] at HB
     subst h58
     go_wp2_with (go_at_call 59;(with_reducible refine(HAk.out _ ‹_›).mono ?_);rintro e w' ⟨rfl,hat⟩)
     go_roundw
     case rel=>exact⟨c+1,k+1,by omega,by omega,by omega,by go_num,by go_num,.inl ⟨by omega,HB.out⟩,by assumption⟩
     case measure=>simp [intOf];omega
    ·rw[if_neg h58] at HB
     have e58:(z == 58)=false:=beq_eq_false_iff_ne.2 h58
     by_cases h63:z=63
     ·rw[if_pos h63] at HB
      subst h63
      by_cases hc:c≤1
      ·rw[if_pos hc] at HB
       obtain rfl:c=1:=by omega
       have hA1:A (k+1)=B:=by
        rw[← HB.out]
        rcases Nat.lt_or_ge (k+1) S.length with h|h
        ·rw[(HS.out _ h).1];rfl
        ·rw[(HZ.out _ h).1,(HZ.out _ h).2];rfl
       have HA1:=Lib.hid hA1
       clear hA1
       go_wp2_with (go_at_call 59;(with_reducible refine(HAk.out _ ‹_›).mono ?_);rintro e w' ⟨rfl,hat⟩)
       go_roundw
       case rel=>exact⟨0,k+1,by omega,by omega,by omega,by go_num,by go_num,.inr ⟨rfl,HA1.out⟩,by assumption⟩
       case measure=>simp [intOf];omega
      ·rw[if_neg hc] at HB
       go_wp2_with (go_at_call 59;(with_reducible refine(HAk.out _ ‹_›).mono ?_);rintro e w' ⟨rfl,hat⟩)
       go_roundw
       case rel=>exact⟨c - 1,k+1,by omega,by omega,by omega,by go_num,by go_num,.inl ⟨by omega,HB.out⟩,by assumption⟩
       case measure=>simp [intOf];omega
     ·rw[if_neg h63] at HB
      have e63:(z == 63)=false:=beq_eq_false_iff_ne.2 h63
      go_wp2_with (go_at_call 59;(with_reducible refine(HAk.out _ ‹_›).mono ?_);rintro e w' ⟨rfl,hat⟩)
      go_roundw
      case rel=>exact⟨c,k+1,by omega,by omega,by omega,by go_num,rfl,.inl ⟨hc1,HB.out⟩,by assumption⟩
      case measure=>simp [intOf];omega
   ·obtain⟨hdr,hz⟩:=HZ.out k hge
    rw[hdr,behindOf] at HB
    have HAk:Hid (∀ W,P W→Calls Tryz.prog 59 #[.pointer (some ⟨b,0,none⟩),.int .i64 (k:Int)] W fun e w'=>e=.returned (.int .i64 0)∧P w'):=Lib.hid (by have:=HA2.out k (by omega);rw[hz] at this;exact this)
    clear hdr hz
    go_wp2_with (go_at_call 59;(with_reducible refine(HAk.out _ ‹_›).mono ?_);rintro e w' ⟨rfl,hat⟩)
    go_ret
    exact⟨by rw[← HB.out];rfl,HFIN.out _ ‹_›⟩
  ·subst hc0
   have HAk:Hid (∀ W,P W→Calls Tryz.prog 59 #[.pointer (some ⟨b,0,none⟩),.int .i64 (k:Int)] W fun e w'=>e=.returned (.int .i64 B)∧P w'):=Lib.hid (by have:=HA2.out k (by omega);rw[hAk0] at this;exact this)
   clear hAk0
   go_wp2_with (go_at_call 59;(with_reducible refine(HAk.out _ ‹_›).mono ?_);rintro e w' ⟨rfl,hat⟩)
   all_goals go_ret
   all_goals exact⟨by first|rfl|(simp_all [behindB];done),HFIN.out _ ‹_›⟩
theorem cahead1_at {C:Kc} {w:World} {b:Nat} {x:Res} (h:Hid (CAt C w b x)):Calls Tryz.prog 59 #[.pointer (some ⟨b,0,none⟩),.int .i64 1] w fun e w'=>e=.returned (.int .i64 (x.ahead 1))∧Hid (CAt C w' b x):=cahead_at h 1 (by decide)
theorem cahead1_is {C:Kc} {w:World} {b:Nat} {x:Res} (h:Hid (CAt C w b x)) {k:Int} (hk:x.ahead 1=k):Calls Tryz.prog 59 #[.pointer (some ⟨b,0,none⟩),.int .i64 1] w fun e w'=>e=.returned (.int .i64 k)∧Hid (CAt C w' b x):=by rw[← hk];exact cahead1_at h
theorem cahead2_at {C:Kc} {w:World} {b:Nat} {x:Res} (h:Hid (CAt C w b x)):Calls Tryz.prog 59 #[.pointer (some ⟨b,0,none⟩),.int .i64 2] w fun e w'=>e=.returned (.int .i64 (x.ahead 2))∧Hid (CAt C w' b x):=cahead_at h 2 (by decide)
theorem cahead2_is {C:Kc} {w:World} {b:Nat} {x:Res} (h:Hid (CAt C w b x)) {k:Int} (hk:x.ahead 2=k):Calls Tryz.prog 59 #[.pointer (some ⟨b,0,none⟩),.int .i64 2] w fun e w'=>e=.returned (.int .i64 k)∧Hid (CAt C w' b x):=by rw[← hk];exact cahead2_at h
theorem cnamed_at {C:Kc} {w:World} {b:Nat} {x:Res} (hat:Hid (CAt C w b x)):Calls Tryz.prog 128 #[.pointer (some ⟨b,0,none⟩)] w fun e w'=>e=.returned (.bool x.named)∧Hid (CAt C w' b x):=by
 have HX:x.named=if x.kind=10 then(if x.ahead 1=60∨x.ahead 1=62∨x.ahead 1=61 then false else if x.ahead 1=58 then(x.ahead 2 == 63 || behindB (behindOf 0 (x.sigs.drop 1))) else true) else false:=rfl
 by_cases h10:x.kind=10
 ·rw[if_pos h10] at HX
  by_cases h60:x.ahead 1=60
  ·rw[if_pos (.inl h60)] at HX
   go_enter Tryz.func128,Tryz.ntmps128
   go_wp2_with (first|(go_at_call 57;first|(refine(ckind_is ‹_› ‹_›).mono ?_;rintro e w' ⟨rfl,hat⟩)|(refine(ckind_at ‹_›).mono ?_;rintro e w' ⟨rfl,hat⟩))|(go_at_call 59;first|((with_reducible refine(cahead1_is ‹_› ‹_›).mono ?_);rintro e w' ⟨rfl,hat⟩)|((with_reducible refine(cahead1_at ‹_›).mono ?_);rintro e w' ⟨rfl,hat⟩)|((with_reducible refine(cahead2_is ‹_› ‹_›).mono ?_);rintro e w' ⟨rfl,hat⟩)|((with_reducible refine(cahead2_at ‹_›).mono ?_);rintro e w' ⟨rfl,hat⟩))|(go_at_call 144;refine(ctypeBehind_at ‹_› ‹_›).mono ?_;rintro e w' ⟨rfl,hat⟩))
   go_ret
   exact⟨by first|(rw[HX];done)|(rw[HX];rfl)|(rw[HX];simp [*];done),by assumption⟩
  by_cases h62:x.ahead 1=62
  ·rw[if_pos (.inr (.inl h62))] at HX
   go_enter Tryz.func128,Tryz.ntmps128
   go_wp2_with (first|(go_at_call 57;first|(refine(ckind_is ‹_› ‹_›).mono ?_;rintro e w' ⟨rfl,hat⟩)|(refine(ckind_at ‹_›).mono ?_;rintro e w' ⟨rfl,hat⟩))|(go_at_call 59;first|((with_reducible refine(cahead1_is ‹_› ‹_›).mono ?_);rintro e w' ⟨rfl,hat⟩)|((with_reducible refine(cahead1_at ‹_›).mono ?_);rintro e w' ⟨rfl,hat⟩)|((with_reducible refine(cahead2_is ‹_› ‹_›).mono ?_);rintro e w' ⟨rfl,hat⟩)|((with_reducible refine(cahead2_at ‹_›).mono ?_);rintro e w' ⟨rfl,hat⟩))|(go_at_call 144;refine(ctypeBehind_at ‹_› ‹_›).mono ?_;rintro e w' ⟨rfl,hat⟩))
   go_ret
   exact⟨by first|(rw[HX];done)|(rw[HX];rfl)|(rw[HX];simp [*];done),by assumption⟩
  by_cases h61:x.ahead 1=61
  ·rw[if_pos (.inr (.inr h61))] at HX
   go_enter Tryz.func128,Tryz.ntmps128
   go_wp2_with (first|(go_at_call 57;first|(refine(ckind_is ‹_› ‹_›).mono ?_;rintro e w' ⟨rfl,hat⟩)|(refine(ckind_at ‹_›).mono ?_;rintro e w' ⟨rfl,hat⟩))|(go_at_call 59;first|((with_reducible refine(cahead1_is ‹_› ‹_›).mono ?_);rintro e w' ⟨rfl,hat⟩)|((with_reducible refine(cahead1_at ‹_›).mono ?_);rintro e w' ⟨rfl,hat⟩)|((with_reducible refine(cahead2_is ‹_› ‹_›).mono ?_);rintro e w' ⟨rfl,hat⟩)|((with_reducible refine(cahead2_at ‹_›).mono ?_);rintro e w' ⟨rfl,hat⟩))|(go_at_call 144;refine(ctypeBehind_at ‹_› ‹_›).mono ?_;rintro e w' ⟨rfl,hat⟩))
   go_ret
   exact⟨by first|(rw[HX];done)|(rw[HX];rfl)|(rw[HX];simp [*];done),by assumption⟩
  rw[if_neg (by rintro(h|h|h);exact h60 h;exact h62 h;exact h61 h)] at HX
  have e60:(x.ahead 1 == 60)=false:=beq_eq_false_iff_ne.2 h60
  have e62:(x.ahead 1 == 62)=false:=beq_eq_false_iff_ne.2 h62
  have e61:(x.ahead 1 == 61)=false:=beq_eq_false_iff_ne.2 h61
  by_cases h58:x.ahead 1=58
  ·rw[if_pos h58] at HX
   by_cases h63:x.ahead 2=63
   ·rw[h63] at HX
    have HX:x.named=true:=HX
    go_enter Tryz.func128,Tryz.ntmps128
    go_wp2_with (first|(go_at_call 57;first|(refine(ckind_is ‹_› ‹_›).mono ?_;rintro e w' ⟨rfl,hat⟩)|(refine(ckind_at ‹_›).mono ?_;rintro e w' ⟨rfl,hat⟩))|(go_at_call 59;first|((with_reducible refine(cahead1_is ‹_› ‹_›).mono ?_);rintro e w' ⟨rfl,hat⟩)|((with_reducible refine(cahead1_at ‹_›).mono ?_);rintro e w' ⟨rfl,hat⟩)|((with_reducible refine(cahead2_is ‹_› ‹_›).mono ?_);rintro e w' ⟨rfl,hat⟩)|((with_reducible refine(cahead2_at ‹_›).mono ?_);rintro e w' ⟨rfl,hat⟩))|(go_at_call 144;refine(ctypeBehind_at ‹_› ‹_›).mono ?_;rintro e w' ⟨rfl,hat⟩))
    go_ret
    exact⟨by first|(rw[HX];done)|(rw[HX];rfl)|(rw[HX];simp [*];done),by assumption⟩
   ·have e63:(x.ahead 2 == 63)=false:=beq_eq_false_iff_ne.2 h63
    rw[e63,Bool.false_or] at HX
    go_enter Tryz.func128,Tryz.ntmps128
    go_wp2_with (first|(go_at_call 57;first|(refine(ckind_is ‹_› ‹_›).mono ?_;rintro e w' ⟨rfl,hat⟩)|(refine(ckind_at ‹_›).mono ?_;rintro e w' ⟨rfl,hat⟩))|(go_at_call 59;first|((with_reducible refine(cahead1_is ‹_› ‹_›).mono ?_);rintro e w' ⟨rfl,hat⟩)|((with_reducible refine(cahead1_at ‹_›).mono ?_);rintro e w' ⟨rfl,hat⟩)|((with_reducible refine(cahead2_is ‹_› ‹_›).mono ?_);rintro e w' ⟨rfl,hat⟩)|((with_reducible refine(cahead2_at ‹_›).mono ?_);rintro e w' ⟨rfl,hat⟩))|(go_at_call 144;refine(ctypeBehind_at ‹_› ‹_›).mono ?_;rintro e w' ⟨rfl,hat⟩))
    go_ret
    exact⟨by first|(rw[HX];done)|(rw[HX];rfl)|(rw[HX];simp [*];done),by assumption⟩
  ·rw[if_neg h58] at HX
   have e58:(x.ahead 1 == 58)=false:=beq_eq_false_iff_ne.2 h58
   go_enter Tryz.func128,Tryz.ntmps128
   go_wp2_with (first|(go_at_call 57;first|(refine(ckind_is ‹_› ‹_›).mono ?_;rintro e w' ⟨rfl,hat⟩)|(refine(ckind_at ‹_›).mono ?_;rintro e w' ⟨rfl,hat⟩))|(go_at_call 59;first|((with_reducible refine(cahead1_is ‹_› ‹_›).mono ?_);rintro e w' ⟨rfl,hat⟩)|((with_reducible refine(cahead1_at ‹_›).mono ?_);rintro e w' ⟨rfl,hat⟩)|((with_reducible refine(cahead2_is ‹_› ‹_›).mono ?_);rintro e w' ⟨rfl,hat⟩)|((with_reducible refine(cahead2_at ‹_›).mono ?_);rintro e w' ⟨rfl,hat⟩))|(go_at_call 144;refine(ctypeBehind_at ‹_› ‹_›).mono ?_;rintro e w' ⟨rfl,hat⟩))
   go_ret
   exact⟨by first|(rw[HX];done)|(rw[HX];rfl)|(rw[HX];simp [*];done),by assumption⟩
 ·rw[if_neg h10] at HX
  have e10:(x.kind == 10)=false:=beq_eq_false_iff_ne.2 h10
  go_enter Tryz.func128,Tryz.ntmps128
  go_wp2_with (first|(go_at_call 57;first|(refine(ckind_is ‹_› ‹_›).mono ?_;rintro e w' ⟨rfl,hat⟩)|(refine(ckind_at ‹_›).mono ?_;rintro e w' ⟨rfl,hat⟩))|(go_at_call 59;first|((with_reducible refine(cahead1_is ‹_› ‹_›).mono ?_);rintro e w' ⟨rfl,hat⟩)|((with_reducible refine(cahead1_at ‹_›).mono ?_);rintro e w' ⟨rfl,hat⟩)|((with_reducible refine(cahead2_is ‹_› ‹_›).mono ?_);rintro e w' ⟨rfl,hat⟩)|((with_reducible refine(cahead2_at ‹_›).mono ?_);rintro e w' ⟨rfl,hat⟩))|(go_at_call 144;refine(ctypeBehind_at ‹_› ‹_›).mono ?_;rintro e w' ⟨rfl,hat⟩))
  go_ret
  exact⟨by first|(rw[HX];done)|(rw[HX];rfl)|(rw[HX];simp [*];done),by assumption⟩
theorem cdotted_s {n:Nat} {C:Kc} {w:World} {b:Nat} {x y:Res} (hat:Hid (CAt C w b x)) (h3:Hid ((if x.kind=56 then(rTake x >>= fun u=>run n .type u >>= fun v=>rClose x.len 234 v) else run n .type x)=some y)) (ih:∀ k,k≤n→AllC k):Calls Tryz.prog 129 #[.pointer (some ⟨b,0,none⟩)] w (CPost C b y):=by
 have HF:Hid (CFun C b 23 (#[.pointer (some ⟨b,0,none⟩)] ++ #[]) (run n .type)):=Lib.hid (fun w x y h hy=>by rw[Array.append_empty];exact(ih n (by omega)).type _ _ _ _ _ h hy)
 have hy:=h3.out
 clear h3
 by_cases h56:x.kind=56
 ·obtain⟨s,rfl⟩:=ok_of_kind h56 (by decide)
  rw[if_pos h56] at hy
  rw[show(Res.ok s).len=s.R.length from rfl] at hy
  iterate 16 (all_goals try(first|split at hy|(rw[bind_iff] at hy;obtain⟨z,hz,hy⟩:=hy;try(rw[some_hid] at hz;subst hz))))
  all_goals(first|(obtain rfl:=Option.some.inj hy)|(replace hy:=Lib.hid hy))
  iterate 2 (all_goals try(rename _∧_=>ho;obtain⟨_,_⟩:=ho))
  iterate 7 (all_goals try(rename _∨_=>ho;rcases ho with ho|ho))
  all_goals(repeat (rename ¬ (_∨_)=>ho;rw[not_or] at ho;obtain⟨_,_⟩:=ho))
  all_goals go_enter Tryz.func129,Tryz.ntmps129
  all_goals go_wp2_with (first|(go_at_call 57;first|(refine(ckind_is ‹_› ‹_›).mono ?_;rintro e w' ⟨rfl,hat⟩)|(refine(ckind_at ‹_›).mono ?_;rintro e w' ⟨rfl,hat⟩))|(go_at_call 23;first|(refine((ih _ ?hk).type _ _ _ _ _ ‹_› ‹_›).mono ?_;(case hk=>omega);rintro e w' ⟨v,rfl,hat⟩)|(refine(cType_f _ _ _ _ _ _ ‹_›).mono ?_;rintro e w' ⟨v,rfl,hat⟩))|(go_at_call 73;(with_reducible refine(wrapped_any (C:=C) (A:=#[.pointer (some ⟨b,0,none⟩)]) (B:=#[]) (g:=run n .type) Type_enters HF.out ‹_› ‹_› ‹_› ‹_›).mono ?_);rintro e w' ⟨v,rfl,hat⟩))
  all_goals(first|go_end0|go_ret)
  all_goals exact⟨_,rfl,by assumption⟩
 ·rw[if_neg h56] at hy
  have e56:(x.kind == 56)=false:=beq_eq_false_iff_ne.2 h56
  replace hy:=Lib.hid hy
  all_goals go_enter Tryz.func129,Tryz.ntmps129
  all_goals go_wp2_with (first|(go_at_call 57;first|(refine(ckind_is ‹_› ‹_›).mono ?_;rintro e w' ⟨rfl,hat⟩)|(refine(ckind_at ‹_›).mono ?_;rintro e w' ⟨rfl,hat⟩))|(go_at_call 23;first|(refine((ih _ ?hk).type _ _ _ _ _ ‹_› ‹_›).mono ?_;(case hk=>omega);rintro e w' ⟨v,rfl,hat⟩)|(refine(cType_f _ _ _ _ _ _ ‹_›).mono ?_;rintro e w' ⟨v,rfl,hat⟩))|(go_at_call 73;(with_reducible refine(wrapped_any (C:=C) (A:=#[.pointer (some ⟨b,0,none⟩)]) (B:=#[]) (g:=run n .type) Type_enters HF.out ‹_› ‹_› ‹_› ‹_›).mono ?_);rintro e w' ⟨v,rfl,hat⟩))
  all_goals(first|go_end0|go_ret)
  all_goals exact⟨_,rfl,by assumption⟩
end Go.Proofs.YtcekbbkidipbnaaGreat.rd
