/-
  Texts put together: Lists, Key, Oper, Name, Kinds, Cuts.
-/
import Derived.Test.YtcekbbkidipbnaaGreatRows
import Derived.Handy
import Derived.Deep.DeepFit
import Derived.Lib.Hide
import Derived.WalkKit
import Derived.Laws.Rows
import Derived.Deep.WholeRow
import Derived.Lib.Strings
import Derived.BigQuiet
import Derived.Deep.QuietTactic
import Derived.WalkSpells
set_option maxRecDepth 100000
set_option maxHeartbeats 8000000
namespace Go.Proofs.YtcekbbkidipbnaaGreat.tok
open Go.RowKit
def B (l:List UInt8):ByteArray:=⟨l.toArray⟩
def signs:List (List UInt8):=[[43],[45],[42],[47],[37],[38],[124],[94],[60,60],[62,62],[38,94],
 [43,61],[45,61],[42,61],[47,61],[37,61],[38,61],[124,61],[94,61],[60,60,61],[62,62,61],[38,94,61],
 [38,38],[124,124],[43,43],[45,45],[61,61],[60],[62],[61],[33],[126],
 [33,61],[60,61],[62,61],[58,61],[46,46,46],
 [40],[91],[123],[44],[46],[41],[93],[125],[58]]
def words:List (List UInt8):=[[98,114,101,97,107],[99,97,115,101],[99,111,110,115,116],[99,111,110,116,105,110,117,101],[100,101,102,97,117,108,116],[100,101,102,101,114],[101,108,115,101],
 [102,97,108,108,116,104,114,111,117,103,104],[102,111,114],[102,117,110,99],[105,102],[105,109,112,111,114,116],[105,110,116,101,114,102,97,99,101],[109,97,112],
 [112,97,99,107,97,103,101],[114,97,110,103,101],[114,101,116,117,114,110],[115,116,114,117,99,116],[115,119,105,116,99,104],[116,121,112,101],[118,97,114]]
open Go.RowKit
theorem bdata (l:List UInt8):(B l).data.toList=l:=by simp [B]
theorem blist (l:List UInt8):(B l).toList=l:=by rw[Lib.toList_data,bdata]
theorem bsize (l:List UInt8):(B l).size=l.length:=by simp [B,ByteArray.size]
theorem sdata (s:ByteArray):s.data.toList.length=s.size:=by rw[Array.length_toList];rfl
def kwOf (l:List UInt8):Int:=if words.idxOf l<21 then 70+(words.idxOf l:Nat) else 0
theorem idx_here {l:List (List UInt8)} {s:List UInt8}:∀ {k:Nat},k<l.length→l.getD k []=s→(∀ j,j<k→l.getD j []≠s)→l.idxOf s=k:=by
 induction l with
 |nil=>intro k h;simp at h
 |cons a l ih=>
  intro k h hk hb
  cases k with
  |zero=>simp at hk;simp [hk]
  |succ k=>
   have h0:=hb 0 (by omega)
   simp at h0
   rw[List.idxOf_cons,show(a == s)=false by simpa using h0,cond_false]
   rw[ih (k:=k) (by simpa using h) (by simpa using hk) (fun j hj=>by have:=hb (j+1) (by omega);simpa using this)]
theorem idx_none {l:List (List UInt8)} {s:List UInt8} (hb:∀ j,j<l.length→l.getD j []≠s):l.idxOf s=l.length:=by
 induction l with
 |nil=>rfl
 |cons a l ih=>
  have h0:=hb 0 (by simp)
  simp at h0
  rw[List.idxOf_cons,show(a == s)=false by simpa using h0,cond_false]
  rw[ih (fun j hj=>by have:=hb (j+1) (by simpa using hj);simpa using this)]
  rfl
theorem words_length:words.length=21:=by decide
theorem signs_length:signs.length=46:=by decide
open Go.RowKit
def best (s:List UInt8):Nat→Nat × Nat
 |0=>(0,0)
 |k+1=>if (best s k).2<(signs.getD k []).length∧Lib.hasPrefix s (signs.getD k [])=true then(20+k,(signs.getD k []).length) else best s k
def opOf (s:List UInt8):Nat × Nat:=if Lib.hasPrefix s [59]=true then(15,1) else best s 46
theorem sign_short (k:Nat):(signs.getD k []).length≤3:=by
 by_cases h:k<46
 ·have:∀ j:Fin 46,(signs.getD j.val []).length≤3:=by decide
  exact this ⟨k,h⟩
 ·rw[List.getD_eq_getElem?_getD,List.getElem?_eq_none (by rw[signs_length];omega)];simp
theorem best_le (s:List UInt8) (k:Nat):(best s k).1≤20+k∧(best s k).2≤3:=by
 induction k with
 |zero=>simp [best]
 |succ k ih=>
  have:=sign_short k
  unfold best
  split
  ·exact⟨by simp,this⟩
  ·omega
theorem best_yes {s:List UInt8} {k:Nat} (h:(best s k).2<(signs.getD k []).length) (h':Lib.hasPrefix s (signs.getD k [])=true):best s (k+1)=(20+k,(signs.getD k []).length):=by
 rw[best,if_pos ⟨h,h'⟩]
theorem best_no {s:List UInt8} {k:Nat} (h:¬ ((best s k).2<(signs.getD k []).length∧Lib.hasPrefix s (signs.getD k [])=true)):best s (k+1)=best s k:=by
 rw[best,if_neg h]
open Go.RowKit
theorem two_bounds (z:Int) (a b:Int):(a≤z∧z≤b)∨decide (a≤z)=false∨(decide (a≤z)=true∧decide (z≤b)=false):=by
 by_cases h:a≤z
 ·by_cases h':z≤b
  ·exact .inl ⟨h,h'⟩
  ·exact .inr (.inr ⟨decide_eq_true h,decide_eq_false h'⟩)
 ·exact .inr (.inl (decide_eq_false h))
open Go.RowKit
def endsOf (z:Int):Bool:=[10,11,12,13,14,70,73,77,86,44,45,62,63,64].contains z
theorem refEnds_any (z:Int) (w:World):Calls Tryz.prog 111 #[.int .i64 z] w fun e w'=>e=.returned (.bool (endsOf z))∧w=w':=by
 go_enter Tryz.func111,Tryz.ntmps111
 go_wp2_with fail
 all_goals
  go_ret
  refine⟨?_,rfl⟩
  simp_all [endsOf]
open Go.RowKit
theorem own_below {w w':World} {B0 B' e size n:Nat} {v:Value} {xs:List Value} (h:w.ownsRow B0 e size v n xs) (hb:Below B' w w') (hB:∀ k,v.ownBlock=some k→k<B'):w'.ownsRow B0 e size v n xs:=by
 refine⟨h.1,?_⟩
 rcases h.2 with hn|⟨g,cap,cur,rfl,hg,hgg,rest⟩
 ·exact .inl hn
 ·exact .inr ⟨g,cap,cur,rfl,hg,by rw[hb.block g (hB g rfl)];exact hgg,rest⟩
theorem one_new (w:World) (x:Value) (t:TypeId):∀ j u,[x][j]? = some u→(w.alloc (.cells #[x] t)).cell? ((⟨w.heap.size,0,none⟩:Addr).add j)=some u:=by
 intro j u hj
 match j,hj with
 |0,hj=>simp at hj;subst hj;simp [Addr.add]
 |(j+1),hj=>simp at hj
theorem infoS:(Tryz.prog.info? 9).map (fun i=>(i.zero,i.size,i.bytes))=some (some (.string .empty),1,16):=by kernel_rfl
def Texts (w:World) (B0:Nat) (v:Value) (l:List (List UInt8)):Prop:=w.ownsRow B0 9 1 v l.length (l.map fun x=>Value.string (B x))
theorem Texts.shape {w:World} {B0:Nat} {v:Value} {l:List (List UInt8)} (h:Texts w B0 v l) (h0:0<l.length) :
  ∃ g cap,v=.slice (some ⟨g,0,none⟩) l.length cap∧∀ j,j<l.length→w.cell? ⟨g,j,none⟩=some (.string (B (l.getD j []))):=by
 rcases h.2 with⟨_,b⟩|⟨g,cap,cur,rfl,hB,hg,hc,_⟩
 ·omega
 ·refine⟨g,cap,rfl,fun j hj=>?_⟩
  have e:((⟨g,0,none⟩:Addr).add j)=⟨g,j,none⟩:=by rw[Addr.add_lit,Nat.zero_add]
  rw[← e]
  exact World.ownsRow.cells h (g:=g) rfl j _ (by simp [hj])
def cutStep (st:List (List UInt8) × List UInt8) (c:UInt8):List (List UInt8) × List UInt8:=if c=32 then(st.1 ++ [st.2],[]) else(st.1,st.2 ++ [c])
def cutTo (l:List UInt8) (k:Nat):List (List UInt8) × List UInt8:=(l.take k).foldl cutStep ([],[])
def cutL (l:List UInt8):List (List UInt8):=let st:=l.foldl cutStep ([],[]);st.1 ++ [st.2]
theorem cutTo_succ {l:List UInt8} {k:Nat} (h:k<l.length):cutTo l (k+1)=cutStep (cutTo l k) l[k]:=by
 unfold cutTo
 rw[List.take_succ_eq_append_getElem h,List.foldl_append]
 rfl
theorem cutTo_few (l:List UInt8) (k:Nat) (h:k≤l.length):(cutTo l k).1.length≤k∧(cutTo l k).2.length≤k:=by
 induction k with
 |zero=>simp [cutTo]
 |succ k ih=>
  have:=ih (by omega)
  rw[cutTo_succ (by omega)]
  unfold cutStep
  split <;> simp <;> omega
theorem cutL_eq {l:List UInt8} {k:Nat} (h:l.length≤k):cutL l=(cutTo l k).1 ++ [(cutTo l k).2]:=by
 unfold cutTo
 rw[List.take_of_length_le h]
 rfl
theorem b_append (x y:List UInt8):B x ++ B y=B (x ++ y):=by
 apply ByteArray.ext
 simp [B]
theorem b_extract (s:ByteArray) (i j:Nat):s.extract i j=B ((s.data.toList.drop i).take (j - i)):=Lib.extract_eq s i j
theorem at_data {s:ByteArray} {i:Nat} (h:i<s.size):s.data.toList[i]'(by rw[sdata];exact h)=s[i]:=rfl
theorem b_one {s:ByteArray} {i:Nat} (h:i<s.size):s.extract i (i+1)=B [s[i]]:=by
 have h':i<s.data.toList.length:=by rw[sdata];exact h
 rw[b_extract,List.drop_eq_getElem_cons h',at_data h,show i+1 - i=1 by omega]
 rfl
theorem slice_one (s:ByteArray) (i:Nat) (h:i<s.size) (c:UInt8) (hc:s[i]=c) (u:World) :
  (Instr.slice 9 (.string s) (some (.int .i64 (i:Int))) (some (.int .i64 ((i:Int)+1))) none).run Tryz.prog u=.ok (.string (B [c])) u:=by
 rw[← hc,← b_one h]
 exact run_slice_string (P:=Tryz.prog) u 9 s .i64 .i64 i ((i:Int)+1) Tryz.underlying9 (by omega) (by omega) (by omega)
theorem byte_eq {c d:UInt8} (h:c=d):((c.toNat:Int) == (d.toNat:Int))=true:=by rw[h];simp
theorem byte_ne {c d:UInt8} (h:c≠d):((c.toNat:Int) == (d.toNat:Int))=false:=by
 rw[beq_eq_false_iff_ne]
 exact fun e=>h (UInt8.toNat_inj.1 (by omega))
theorem byte_eq' {c d:UInt8} (h:c=d):((c.toNat:Int) != (d.toNat:Int))=false:=by rw[h];simp
theorem byte_ne' {c d:UInt8} (h:c≠d):((c.toNat:Int) != (d.toNat:Int))=true:=by rw[bne,byte_ne h];rfl
def MadeTexts (l:List (List UInt8)) (w:World) (e:Ending) (w':World):Prop:=∃ v,e=.returned v∧Texts w' w.heap.size v l∧Below w.heap.size w w'
theorem cut_more {w wr w2:World} {o:Obj} {v v':Value} {out:List (List UInt8)} {x:List UInt8} (hb:Below w.heap.size w wr) (hown:Texts wr w.heap.size v out)
  (hown2:w2.ownsRow w.heap.size 9 1 v' (out.length+1) ((out.map fun x=>Value.string (B x)) ++ [.string (B x)])) (hg:(wr.alloc o).grownBy w2 v.ownBlock) :
  Texts w2 w.heap.size v' (out ++ [x])∧Below w.heap.size w w2:=by
 have hlt:=World.ownsRow.lt hown
 refine⟨?_,(hb.alloc hb.size o).grown hg (by simp;have:=hb.size;omega) (fun k hk=>(hlt k hk).1)⟩
 unfold Texts
 rw[List.length_append,List.map_append]
 exact hown2
theorem cut_any (s:ByteArray) (w:World) (hs:s.size≤4096):Calls Tryz.prog 183 #[.string s] w (MadeTexts (cutL s.data.toList) w):=by
 obtain⟨i0,hi,hz0,hz1,hz2⟩:=info_parts infoS
 go_enter Tryz.func183,Tryz.ntmps183
 go_wp2
 go_loopw [3,4,5] (fun v x i wr=>∃ k:Nat,k≤s.size∧i=.int .i64 k∧x=.string (B (cutTo s.data.toList k).2)∧Texts wr w.heap.size v (cutTo s.data.toList k).1∧Below w.heap.size w wr) (fun _ _ i _=>s.size - (intOf i).toNat)
 case atStart=>exact⟨0,Nat.zero_le _,rfl,rfl,World.ownsRow_nil _ _ _ _,Below.refl _ _⟩
 case round=>
  obtain⟨k,hk,rfl,rfl,hown,hb⟩:=hrel
  have hsd:=sdata s
  obtain⟨hf1,hf2⟩:=cutTo_few s.data.toList k (by omega)
  have hsz:=hb.size
  have HO:=Lib.hid hown
  have HB:=Lib.hid hb
  clear hown hb
  by_cases hlt:k<s.size
  ·have HN:=Lib.hid (cutTo_succ (l:=s.data.toList) (k:=k) (by omega))
   obtain⟨c,hc⟩:∃ c,s[k]'hlt=c:=⟨_,rfl⟩
   have hsl:=slice_one s k hlt c hc
   rw[at_data hlt,hc] at HN
   obtain⟨out,x,hox⟩:∃ out x,cutTo s.data.toList k=(out,x):=⟨_,_,rfl⟩
   rw[hox] at HN HO hf1 hf2 ⊢
   simp only[] at HO hf1 hf2
   clear hox
   have HD:=Lib.hid hsd
   clear hsd
   by_cases h32:c=32
   ·have hcz:((c.toNat:Int) != 32)=false:=byte_eq' h32
    have HC:=Lib.hid h32
    clear h32
    go_wp2_with (at_builtin;refine wpList_append_own _ rfl _ _ 123 rfl w.heap.size 9 i0 (.string .empty) 1 16 Tryz.underlying123 hi hz0 hz1 hz2 rfl (by decide) _ _ _ rfl (World.ownsRow.alloc HO.out _) ⟨wr.heap.size,0,none⟩ 1 1 [.string (B x)] rfl rfl ?c1 ?c2 ?c3 ?c4 ?c5 ?_)
    case c1=>exact one_new wr _ _
    case c2=>intro u hu;simp only[List.mem_cons,List.not_mem_nil,or_false] at hu;subst hu;rfl
    case c3=>unfold maxLen;omega
    case c4=>omega
    case c5=>simp;omega
    intro v' w2 hown2 hg _
    have HR:=Lib.hid (cut_more HB.out HO.out hown2 hg)
    clear hown2 hg HO HB
    go_wp2
    go_roundw
    case rel=>exact⟨k+1,by omega,by go_num,by rw[HN.out,cutStep,if_pos HC.out];rfl,by rw[HN.out,cutStep,if_pos HC.out];exact HR.out.1,HR.out.2⟩
    case measure=>simp [intOf];omega
   ·have hcz:((c.toNat:Int) != 32)=true:=byte_ne' (d:=32) h32
    have hbx:(B x).size≤4096:=by rw[bsize];omega
    have hbc:(B [c]).size≤1:=by rw[bsize];simp
    have HC:=Lib.hid h32
    clear h32
    go_wp2
    go_roundw
    case rel=>exact⟨k+1,by omega,by go_num,by rw[HN.out,cutStep,if_neg HC.out,b_append],by rw[HN.out,cutStep,if_neg HC.out];exact HO.out,HB.out⟩
    case measure=>simp [intOf];omega
  ·obtain⟨out,x,hox⟩:∃ out x,cutTo s.data.toList k=(out,x):=⟨_,_,rfl⟩
   have HE:Hid (cutL s.data.toList=out ++ [x]):=Lib.hid (by rw[cutL_eq (k:=k) (by omega),hox])
   rw[hox] at HO hf1 hf2 ⊢
   simp only[] at HO hf1 hf2
   clear hox hsd
   go_wp2_with (at_builtin;refine wpList_append_own _ rfl _ _ 123 rfl w.heap.size 9 i0 (.string .empty) 1 16 Tryz.underlying123 hi hz0 hz1 hz2 rfl (by decide) _ _ _ rfl (World.ownsRow.alloc HO.out _) ⟨wr.heap.size,0,none⟩ 1 1 [.string (B x)] rfl rfl ?c1 ?c2 ?c3 ?c4 ?c5 ?_)
   case c1=>exact one_new wr _ _
   case c2=>intro u hu;simp only[List.mem_cons,List.not_mem_nil,or_false] at hu;subst hu;rfl
   case c3=>unfold maxLen;omega
   case c4=>omega
   case c5=>simp;omega
   intro v' w2 hown2 hg _
   have HR:=Lib.hid (cut_more HB.out HO.out hown2 hg)
   clear hown2 hg HO HB
   go_wp2
   go_ret
   exact⟨_,rfl,by rw[HE.out];exact HR.out.1,HR.out.2⟩
end Go.Proofs.YtcekbbkidipbnaaGreat.tok
