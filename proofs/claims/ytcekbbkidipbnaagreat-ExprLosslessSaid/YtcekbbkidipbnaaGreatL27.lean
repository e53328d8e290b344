/-
  Texts put together: Lc, Ld.
-/
import Derived.Test.YtcekbbkidipbnaaGreatL20
import Derived.Test.YtcekbbkidipbnaaGreatL25
import Derived.Test.YtcekbbkidipbnaaGreatL26
import Derived.Test.YtcekbbkidipbnaaGreatL24
set_option maxRecDepth 100000
set_option maxHeartbeats 8000000
namespace Go.Proofs.YtcekbbkidipbnaaGreat.lx
open Go Go.Proofs.YtcekbbkidipbnaaGreat.tok
def g_ (l:List UInt8) (i:Nat):Nat:=(l.getD i 0).toNat
theorem get_b (l:List UInt8) (i:Nat):(B l).get! i=l.getD i 0:=by
 show(l.toArray)[i]! = l.getD i 0
 by_cases h:i<l.length
 ·rw[getElem!_pos _ _ (by simpa using h)]
  simp [List.getD,h]
 ·rw[getElem!_neg _ _ (by simpa using h)]
  simp [List.getD,h]
  rfl
def decL (l:List UInt8):Nat × Nat:=Lib.decodeN l.length (g_ l 0) (g_ l 1) (g_ l 2) (g_ l 3)
theorem dec_b (l:List UInt8):Utf8.decode (B l) 0=decL l:=by
 rw[dec.decode_bytes,get_b,get_b,get_b,get_b,Nat.sub_zero,bsize]
 rfl
theorem dec_same {n n' b0 b1 b2 b3 b1' b2' b3':Nat}
  (k1:((1<n∧b1 / 64=2)↔(1<n'∧b1' / 64=2))∧((1<n∧b1 / 64=2)→b1=b1'))
  (k2:(1<n∧b1 / 64=2)→((2<n∧b2 / 64=2)↔(2<n'∧b2' / 64=2))∧((2<n∧b2 / 64=2)→b2=b2'))
  (k3:(1<n∧b1 / 64=2)→(2<n∧b2 / 64=2)→((3<n∧b3 / 64=2)↔(3<n'∧b3' / 64=2))∧((3<n∧b3 / 64=2)→b3=b3')) :
  Lib.decodeN n b0 b1 b2 b3=Lib.decodeN n' b0 b1' b2' b3':=by
 unfold Lib.decodeN
 by_cases a:b0<128
 ·rw[if_pos a,if_pos a]
 rw[if_neg a,if_neg a]
 by_cases c1:1<n∧b1 / 64=2
 ·have c1':=k1.1.1 c1
  have e1:=k1.2 c1
  subst e1
  by_cases c2:2<n∧b2 / 64=2
  ·have c2':=(k2 c1).1.1 c2
   have e2:=(k2 c1).2 c2
   subst e2
   by_cases c3:3<n∧b3 / 64=2
   ·have c3':=(k3 c1 c2).1.1 c3
    have e3:=(k3 c1 c2).2 c3
    subst e3
    simp only[eq_true c1,eq_true c1',eq_true c2,eq_true c2',eq_true c3,eq_true c3']
   ·have c3':¬ (3<n'∧b3' / 64=2):=fun h=>c3 ((k3 c1 c2).1.2 h)
    simp only[eq_true c1,eq_true c1',eq_true c2,eq_true c2',eq_false c3,eq_false c3',and_false,if_false]
  ·have c2':¬ (2<n'∧b2' / 64=2):=fun h=>c2 ((k2 c1).1.2 h)
   simp only[eq_true c1,eq_true c1',eq_false c2,eq_false c2',and_false,false_and,if_false]
 ·have c1':¬ (1<n'∧b1' / 64=2):=fun h=>c1 (k1.1.2 h)
  simp only[eq_false c1,eq_false c1',and_false,false_and,if_false]
theorem dec_near (a x y:List UInt8) (h:4≤a.length):decL (a ++ x)=decL (a ++ y):=by
 have e:∀ (w:List UInt8) (i:Nat),i<4→g_ (a ++ w) i=g_ a i:=fun w i hi=>by
  unfold g_;rw[List.getD_eq_getElem?_getD,List.getD_eq_getElem?_getD,List.getElem?_append_left (by omega)]
 unfold decL
 rw[e x 0 (by omega),e x 1 (by omega),e x 2 (by omega),e x 3 (by omega),e y 0 (by omega),e y 1 (by omega),e y 2 (by omega),e y 3 (by omega)]
 have hx:(a ++ x).length=a.length+x.length:=List.length_append
 have hy:(a ++ y).length=a.length+y.length:=List.length_append
 refine dec_same ⟨?_,fun _=>rfl⟩ (fun _=>⟨?_,fun _=>rfl⟩) (fun _ _=>⟨?_,fun _=>rfl⟩) <;> omega
theorem dec_stop (r y:List UInt8) (hr:r≠[]) (hy:g_ y 0 / 64≠2):decL (r ++ y)=decL r:=by
 have e:∀ (i:Nat),i<r.length→g_ (r ++ y) i=g_ r i:=fun i hi=>by
  unfold g_;rw[List.getD_eq_getElem?_getD,List.getD_eq_getElem?_getD,List.getElem?_append_left hi]
 have f:g_ (r ++ y) r.length=g_ y 0:=by
  unfold g_;rw[List.getD_eq_getElem?_getD,List.getD_eq_getElem?_getD,List.getElem?_append_right (Nat.le_refl _),Nat.sub_self]
 have hl:(r ++ y).length=r.length+y.length:=List.length_append
 have h0:0<r.length:=by cases r with|nil=>exact absurd rfl hr|cons=>simp
 unfold decL
 rw[e 0 h0]
 by_cases h1:r.length=1
 ·rw[h1] at f
  rw[f]
  exact dec_same ⟨by omega,by omega⟩ (by omega) (by omega)
 have e1:=e 1 (by omega)
 rw[e1]
 by_cases h2:r.length=2
 ·rw[h2] at f
  rw[f]
  exact dec_same ⟨by omega,fun _=>rfl⟩ (by omega) (by omega)
 have e2:=e 2 (by omega)
 rw[e2]
 by_cases h3:r.length=3
 ·rw[h3] at f
  rw[f]
  exact dec_same ⟨by omega,fun _=>rfl⟩ (fun _=>⟨by omega,fun _=>rfl⟩) (by omega)
 have e3:=e 3 (by omega)
 rw[e3]
 exact dec_same ⟨by omega,fun _=>rfl⟩ (fun _=>⟨by omega,fun _=>rfl⟩) (fun _ _=>⟨by omega,fun _=>rfl⟩)
def chrOf (l:List UInt8):Nat:=(decL l).2
def saidOf (l:List UInt8):Bool:=decide (dec.faultZ (decL l).1 (decL l).2 1≠0)
theorem chrOf_b (l:List UInt8):dec.wideAt (B l) 0=chrOf l∧dec.runeAt (B l) 0=(decL l).1:=by
 unfold dec.wideAt dec.runeAt
 rw[dec_b]
 exact⟨rfl,rfl⟩
theorem best_len (s:List UInt8) (k:Nat):(best s k).2≤s.length∧(0<(best s k).2→20≤(best s k).1):=by
 induction k with
 |zero=>simp [best]
 |succ k ih=>
  unfold best
  split
  ·rename_i h
   exact⟨(List.isPrefixOf_iff_prefix.1 h.2).length_le,fun _=>by simp⟩
  ·exact ih
theorem best_near (a x y:List UInt8) (h:3≤a.length) (k:Nat):best (a ++ x) k=best (a ++ y) k:=by
 induction k with
 |zero=>rfl
 |succ k ih=>
  have hs:=sign_short k
  unfold best
  rw[ih,pre_near (p:=signs.getD k []) x y (by omega)]
theorem sign_feed (k:Nat):(10:UInt8)∉signs.getD k []:=by
 by_cases h:k<46
 ·have:∀ j:Fin 46,(10:UInt8)∉signs.getD j.val []:=by decide
  exact this ⟨k,h⟩
 ·rw[List.getD_eq_getElem?_getD,List.getElem?_eq_none (by rw[signs_length];omega)];simp
theorem best_feed (r y:List UInt8) (k:Nat):best (r ++ 10::y) k=best r k:=by
 induction k with
 |zero=>rfl
 |succ k ih=>
  unfold best
  rw[ih,pre_feed (sign_feed k)]
theorem uq_place (l:List UInt8) (hl:l≠[]):∀ (n p:Nat) (acc:List UInt8),l.length - p≤n→((uqAt l p acc).2.1≠0→(uqAt l p acc).2.2<l.length)∧(uqAt l p acc).2.1≠105:=by
 have h0:0<l.length:=by cases l with|nil=>exact absurd rfl hl|cons=>simp
 intro n
 induction n with
 |zero=>intro p acc h;rw[uqAt_past (by omega)];exact⟨fun _=>h0,by decide⟩
 |succ n ih=>
  intro p acc h
  by_cases hp:p<l.length
  ·rw[uqAt_step hp]
   split
   ·split
    ·exact⟨fun _=>hp,show(108:Int)≠105 by decide⟩
    ·exact ih _ _ (by omega)
   ·split
    ·split
     ·exact⟨fun h=>absurd rfl h,show(0:Int)≠105 by decide⟩
     ·exact⟨fun _=>h0,by decide⟩
    ·split
     ·exact⟨fun _=>h0,by decide⟩
     ·exact ih _ _ (by omega)
  ·rw[uqAt_past (by omega)];exact⟨fun _=>h0,by decide⟩
theorem unq_place (l:List UInt8):((unqOf l).2.1≠0→l≠[]→(unqOf l).2.2<l.length)∧(unqOf l).2.1≠105:=by
 by_cases hl:l=[]
 ·subst hl;exact⟨fun _ h=>absurd rfl h,by decide⟩
 have h0:0<l.length:=by cases l with|nil=>exact absurd rfl hl|cons=>simp
 unfold unqOf
 split
 ·unfold rawOf
  split
  ·exact⟨fun h=>absurd rfl h,show(0:Int)≠105 by decide⟩
  ·exact⟨fun _ _=>h0,by decide⟩
 ·split
  ·have:=uq_place l hl _ 1 [] (Nat.le_refl _)
   exact⟨fun h _=>this.1 h,this.2⟩
  ·exact⟨fun _ _=>h0,by decide⟩
theorem fin_place (l:List UInt8) (u:Int) (n:Nat):((finOf l u n).2.1=107∨(finOf l u n).2.1=0)∧(finOf l u n).2.2=0:=by
 unfold finOf
 split
 ·exact⟨.inl rfl,rfl⟩
 ·exact⟨.inr rfl,rfl⟩
theorem rn_place (l:List UInt8):((runeOf l).2.1≠0→l≠[]→(runeOf l).2.2<l.length)∧(runeOf l).2.1≠105:=by
 by_cases h2:l.length<2
 ·rw[rune_short h2]
  exact⟨fun _ hl=>by cases l with|nil=>exact absurd rfl hl|cons=>simp,by decide⟩
 ·rw[rune_long (by omega)]
  have f:=fin_place l
  repeat' split
  all_goals first|exact⟨fun _ _=>by show 1<_;omega,by decide⟩|exact⟨fun _ _=>by show 0<_;omega,by decide⟩|exact⟨fun _ _=>by rw[(f _ _).2];omega,by rcases(f _ _).1 with e|e <;> rw[e] <;> decide⟩
def lang:Lang where
 kw:=kwOf
 num l:=(numOf l).2.2
 op:=opOf
 str l:=((unqOf l).2.1,(unqOf l).2.2)
 rune l:=((runeOf l).2.1,(runeOf l).2.2)
 chr:=chrOf
 said:=saidOf
 kw_kind r:=by unfold kwOf;split <;> omega
 op_len r:=by
  unfold opOf
  split
  ·rename_i h;have:=(List.isPrefixOf_iff_prefix.1 h).length_le;simpa using this
  ·exact(best_len r 46).1
 op_kind r:=by
  unfold opOf
  split
  ·intro _;decide
  ·intro h;have:=(best_len r 46).2 h;omega
 op_near a x y h:=by
  unfold opOf
  rw[pre_near (p:=[59]) x y (by simp;omega),best_near a x y h]
 op_feed r y:=by
  unfold opOf
  rw[pre_feed (p:=[59]) (by decide),best_feed]
 chr_pos r:=by
  have:=dec.wide_pos (B r) 0
  rwa [(chrOf_b r).1] at this
 chr_len r hr:=by
  have:=dec.wide_le (B r) 0 (by rw[bsize];cases r with|nil=>exact absurd rfl hr|cons=>simp)
  rwa [(chrOf_b r).1,bsize,Nat.zero_add] at this
 chr_near a x y h:=by
  unfold chrOf saidOf
  rw[dec_near a x y h]
  exact⟨rfl,rfl⟩
 chr_feed r y hr:=by
  unfold chrOf saidOf
  rw[dec_stop r (10::y) hr (show(10:UInt8).toNat / 64≠2 by decide)]
  exact⟨rfl,rfl⟩
 str_place r:=(unq_place r).1
 rune_place r:=(rn_place r).1
 str_code r:=(unq_place r).2
 rune_code r:=(rn_place r).2
open Go.RowKit Go.Proofs.YtcekbbkidipbnaaGreat.tok
end Go.Proofs.YtcekbbkidipbnaaGreat.lx
