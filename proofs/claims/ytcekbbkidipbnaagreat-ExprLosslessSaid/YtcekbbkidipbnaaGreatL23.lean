/-
  Texts put together: Digit, Join, Digits.
-/
import Derived.Test.YtcekbbkidipbnaaGreatL21
import Derived.Laws.IdiomStrings
import Derived.Laws.BytesString
import Derived.Test.YtcekbbkidipbnaaGreatRows
import Derived.Lib.Strings
import Derived.Lib.UnsafeStr
import Derived.Lib.Small
set_option maxRecDepth 100000
set_option maxHeartbeats 8000000
namespace Go.Proofs.YtcekbbkidipbnaaGreat.tok
open Go.RowKit
def digZ (c none:Int):Int:=if 48≤c∧c≤57 then c - 48 else if 97≤c∧c≤102 then c - 87 else if 65≤c∧c≤70 then c - 55 else none
theorem digZ_bounds (c n:Int) (h:16≤n):0≤digZ c n∧(digZ c n≤15∨digZ c n=n):=by
 unfold digZ
 split
 ·omega
 ·split
  ·omega
  ·split <;> omega
theorem digZ_lt (c n m b:Int) (hn:16≤n) (hm:16≤m) (hb:b≤16):(digZ c n<b↔digZ c m<b):=by
 unfold digZ
 split
 ·exact Iff.rfl
 ·split
  ·exact Iff.rfl
  ·split
   ·exact Iff.rfl
   ·omega
theorem digZ_same (c n m:Int) (h:digZ c n<16) (hn:16≤n):digZ c n=digZ c m:=by
 unfold digZ at h ⊢
 split
 ·rfl
 ·split
  ·rfl
  ·split
   ·rfl
   ·rename_i a b d
    rw[if_neg a,if_neg b,if_neg d] at h
    omega
theorem side' (z a b:Int) (h:¬ (a≤z∧z≤b)):decide (a≤z)=false∨(decide (a≤z)=true∧decide (z≤b)=false):=(two_bounds z a b).resolve_left h
theorem refDigit_any (c:Int) (w:World) (h0:0≤c) (h255:c≤255):Calls Tryz.prog 184 #[.int .u8 c] w fun e w'=>e=.returned (.int .i64 (digZ c 99))∧w=w':=by
 by_cases h1:48≤c∧c≤57
 ·have HE:Hid (digZ c 99=c - 48):=Lib.hid (by rw[digZ,if_pos h1])
  obtain⟨a,b⟩:=h1
  go_enter Tryz.func184,Tryz.ntmps184
  go_wp2_with fail
  go_ret
  exact⟨by rw[HE.out];rfl,rfl⟩
 by_cases h2:97≤c∧c≤102
 ·have HE:Hid (digZ c 99=c - 97+10):=Lib.hid (by rw[digZ,if_neg h1,if_pos h2];omega)
  obtain⟨a,b⟩:=h2
  rcases side' c 48 57 h1 with h1|⟨h1,h1'⟩
  all_goals
   go_enter Tryz.func184,Tryz.ntmps184
   go_wp2_with fail
   go_ret
   exact⟨by rw[HE.out];rfl,rfl⟩
 by_cases h3:65≤c∧c≤70
 ·have HE:Hid (digZ c 99=c - 65+10):=Lib.hid (by rw[digZ,if_neg h1,if_neg h2,if_pos h3];omega)
  obtain⟨a,b⟩:=h3
  rcases side' c 48 57 h1 with h1|⟨h1,h1'⟩ <;> rcases side' c 97 102 h2 with h2|⟨h2,h2'⟩
  all_goals
   go_enter Tryz.func184,Tryz.ntmps184
   go_wp2_with fail
   go_ret
   exact⟨by rw[HE.out];rfl,rfl⟩
 have HE:Hid (digZ c 99=99):=Lib.hid (by rw[digZ,if_neg h1,if_neg h2,if_neg h3])
 rcases side' c 48 57 h1 with h1|⟨h1,h1'⟩ <;> rcases side' c 97 102 h2 with h2|⟨h2,h2'⟩ <;> rcases side' c 65 70 h3 with h3|⟨h3,h3'⟩
 all_goals
  go_enter Tryz.func184,Tryz.ntmps184
  go_wp2_with fail
  go_ret
  exact⟨by rw[HE.out];rfl,rfl⟩
def prefixOf:List UInt8→Nat × Nat
 |a::c::_=>if a=48 then(if c=98∨c=66 then(2,2) else if c=111∨c=79 then(8,2) else if c=120∨c=88 then(16,2) else(8,1)) else(10,0)
 |_=>(10,0)
theorem prefix_short {l:List UInt8} (h:l.length<2):prefixOf l=(10,0):=by
 match l,h with
 |[],_=>rfl
 |[_],_=>rfl
theorem prefix_long {l:List UInt8} (h:1<l.length):prefixOf l=if l[0]=48 then(if l[1]=98∨l[1]=66 then(2,2) else if l[1]=111∨l[1]=79 then(8,2) else if l[1]=120∨l[1]=88 then(16,2) else(8,1)) else(10,0):=by
 match l,h with
 |a::c::_,_=>rfl
theorem prefix_le (l:List UInt8):(prefixOf l).2≤l.length∧(prefixOf l).1≤16:=by
 by_cases h:l.length<2
 ·rw[prefix_short h];simp
 ·rw[prefix_long (by omega)]
  split
  ·split
   ·simp;omega
   ·split
    ·simp;omega
    ·split <;> (simp;omega)
  ·simp
open Go.RowKit
def Bytes (w:World) (B0:Nat) (v:Value) (l:List UInt8):Prop:=w.ownsRow B0 5 1 v l.length (Lib.byteCells l)
theorem Bytes.nil (w:World) (B0:Nat):Bytes w B0 (.slice none 0 0) []:=World.ownsRow_nil _ _ _ _
theorem Bytes.string {w:World} {B0:Nat} {v:Value} {l:List UInt8} (h:Bytes w B0 v l):(convert 141 9 v).run Tryz.prog w=.ok (.string (B l)) w:=by
 rcases h.2 with⟨rfl,b⟩|⟨g,cap,cur,rfl,hB,hg,hc,_⟩
 ·have:l=[]:=List.eq_nil_of_length_eq_zero b
  subst this
  rw[run_convert_bytes_string w _ _ _ _ _ _ Tryz.underlying141 Tryz.underlying5 Tryz.underlying9]
  simp [Conv.bytesToString]
  rfl
 ·refine run_convert_bytes_back w _ _ _ ⟨g,0,none⟩ cap l Tryz.underlying141 Tryz.underlying5 Tryz.underlying9 (fun j hj=>?_)
  exact World.ownsRow.cells h (g:=g) rfl j _ (by simp [Lib.byteCells,hj])
theorem Bytes.more {w wr w2:World} {o:Obj} {v v':Value} {l:List UInt8} {c:UInt8} (hb:Below w.heap.size w wr) (hown:Bytes wr w.heap.size v l)
  (hown2:w2.ownsRow w.heap.size 5 1 v' (l.length+1) (Lib.byteCells l ++ [.int .u8 (c.toNat:Int)])) (hg:(wr.alloc o).grownBy w2 v.ownBlock) :
  Bytes w2 w.heap.size v' (l ++ [c])∧Below w.heap.size w w2:=by
 have hlt:=World.ownsRow.lt hown
 refine⟨?_,(hb.alloc hb.size o).grown hg (by simp;have:=hb.size;omega) (fun k hk=>(hlt k hk).1)⟩
 unfold Bytes
 rw[List.length_append]
 have e:Lib.byteCells (l ++ [c])=Lib.byteCells l ++ [.int .u8 (c.toNat:Int)]:=by simp [Lib.byteCells]
 rw[e]
 exact hown2
def isDig (base:Int) (c:UInt8):Bool:=decide (digZ (c.toNat:Int) 16<base)
def jStep (base:Int):Option (List UInt8 × Bool)→UInt8→Option (List UInt8 × Bool)
 |none,_=>none
 |some (d,a),c=>if isDig base c then some (d ++ [c],false) else if c=95∧a=false then some (d,true) else none
def jTo (base:Int) (l:List UInt8) (k:Nat):Option (List UInt8 × Bool):=(l.take k).foldl (jStep base) (some ([],true))
theorem jTo_succ {base:Int} {l:List UInt8} {k:Nat} (h:k<l.length):jTo base l (k+1)=jStep base (jTo base l k) l[k]:=by
 unfold jTo
 rw[List.take_succ_eq_append_getElem h,List.foldl_append]
 rfl
theorem jTo_none {base:Int} {l:List UInt8} {k:Nat} (h:jTo base l k=none):∀ n,k+n≤l.length→jTo base l (k+n)=none:=by
 intro n
 induction n with
 |zero=>intro _;exact h
 |succ n ih=>
  intro hn
  rw[← Nat.add_assoc,jTo_succ (by omega),ih (by omega)]
  rfl
theorem jTo_end {base:Int} {l:List UInt8} {k:Nat} (hk:k≤l.length) (h:jTo base l k=none):jTo base l l.length=none:=by
 have:=jTo_none h (l.length - k) (by omega)
 rwa [show k+(l.length - k)=l.length by omega] at this
theorem jTo_few {base:Int} {l:List UInt8} (k:Nat):∀ d a,k≤l.length→jTo base l k=some (d,a)→d.length≤k:=by
 induction k with
 |zero=>intro d a _ h;simp [jTo] at h;simp [← h.1]
 |succ k ih=>
  intro d a hk h
  rw[jTo_succ (by omega)] at h
  cases hp:jTo base l k with
  |none=>rw[hp] at h;simp [jStep] at h
  |some p=>
   obtain⟨d',a'⟩:=p
   have:=ih d' a' (by omega) hp
   rw[hp] at h
   simp only[jStep] at h
   split at h
   ·simp at h;rw[← h.1];simp;omega
   ·split at h
    ·simp at h;rw[← h.1];omega
    ·simp at h
open Go.RowKit
theorem slice_from (s:ByteArray) (n:Nat) (h:n≤s.size) (u:World) :
  (Instr.slice 9 (.string s) (some (.int .i64 (n:Int))) none none).run Tryz.prog u=.ok (.string (B (s.data.toList.drop n))) u:=by
 have e:s.extract n s.size=B (s.data.toList.drop n):=by
  rw[b_extract,List.take_of_length_le (by rw[List.length_drop,sdata];omega)]
 rw[← e]
 exact run_slice_string_l (P:=Tryz.prog) (w:=u) (t:=9) (s:=s) (ht:=Tryz.underlying9) .i64 (n:Int) (by omega) (by omega)
theorem index_at (s:ByteArray) (z:Int) (k:Nat) (hz:z=(k:Int)) (h:k<s.size) (u:World):(Instr.index 9 (.string s) (.int .i64 z)).run Tryz.prog u=.ok (.int .u8 (s[k].toNat:Int)) u:=by
 subst hz
 simp [Instr.index,asIntOf,run_underlying Tryz.underlying9,h]
def restOf (l:List UInt8):List UInt8:=if 0<(prefixOf l).2 then Lib.trimPrefix (l.drop (prefixOf l).2) [95] else l.drop (prefixOf l).2
def numOf (l:List UInt8):Nat × List UInt8 × Bool:=
 match jTo (prefixOf l).1 (restOf l) (restOf l).length with
 |some (d,false)=>((prefixOf l).1,d,true)
 |_=>(0,[],false)
def Triple (b:Nat) (d:List UInt8) (ok:Bool) (w:World) (e:Ending) (w':World):Prop:=e=.returned (.tuple #[.int .i64 b,.string (B d),.bool ok])∧Below w.heap.size w w'
end Go.Proofs.YtcekbbkidipbnaaGreat.tok
