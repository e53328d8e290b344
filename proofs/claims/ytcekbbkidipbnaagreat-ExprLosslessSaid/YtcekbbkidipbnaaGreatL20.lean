/-
  Texts put together: Lx, Ly, Lz.
-/
import Derived.Lib.Strings
import Derived.Lib.IndexMore
set_option maxRecDepth 100000
set_option maxHeartbeats 8000000
namespace Go.Proofs.YtcekbbkidipbnaaGreat.lx
open Go
structure Lang where
 kw:List UInt8→Int
 num:List UInt8→Bool
 op:List UInt8→Nat × Nat
 str:List UInt8→Int × Nat
 rune:List UInt8→Int × Nat
 chr:List UInt8→Nat
 said:List UInt8→Bool
 kw_kind:∀ r,kw r=0∨70≤kw r
 op_len:∀ r,(op r).2≤r.length
 op_kind:∀ r,0<(op r).2→15≤(op r).1∧(op r).1≠16
 op_near:∀ a x y,3≤a.length→op (a ++ x)=op (a ++ y)
 op_feed:∀ r y,op (r ++ 10::y)=op r
 chr_pos:∀ r,1≤chr r
 chr_len:∀ r,r≠[]→chr r≤r.length
 chr_near:∀ a x y,4≤a.length→chr (a ++ x)=chr (a ++ y)∧said (a ++ x)=said (a ++ y)
 chr_feed:∀ r y,r≠[]→chr (r ++ 10::y)=chr r∧said (r ++ 10::y)=said r
 str_place:∀ r,(str r).1≠0→r≠[]→(str r).2<r.length
 rune_place:∀ r,(rune r).1≠0→r≠[]→(rune r).2<r.length
 str_code:∀ r,(str r).1≠105
 rune_code:∀ r,(rune r).1≠105
def isBl (c:UInt8):Bool:=c == 32 || c == 9 || c == 13
def noFeed (c:UInt8):Bool:=c != 10
def isLt (c:UInt8):Bool:=(65≤c && c≤90) || (97≤c && c≤122) || c == 95
def isDg (c:UInt8):Bool:=48≤c && c≤57
def isWd (c:UInt8):Bool:=isLt c || isDg c
def runL (p:UInt8→Bool):List UInt8→Nat
 |[]=>0
 |c::r=>if p c then runL p r+1 else 0
def lit (q:UInt8):List UInt8→Nat × Bool
 |[]=>(0,false)
 |[c]=>if c=q then(1,true) else if c=10 then(0,false) else(1,false)
 |c::d::r=>if c=q then(1,true) else if c=10 then(0,false) else if c=92 then
   (if d=10 then(1,false) else((lit q r).1+2,(lit q r).2)) else((lit q (d::r)).1+1,(lit q (d::r)).2)
structure Nx where
 kind:Int
 width:Nat
 code:Int
 off:Nat
 dw:Nat
def right (kind:Int) (w:Nat):Nx:=⟨kind,w,0,0,0⟩
def wrong (kind:Int) (w:Nat) (code:Int):Nx:=⟨kind,w,code,0,w⟩
def closedL (kind code:Int) (n:Nat) (clo r:List UInt8):Nx:=
 if Lib.index (r.drop n) clo<0 then wrong kind r.length code else right kind (n+(Lib.index (r.drop n) clo).toNat+clo.length)
def quotedL (f:List UInt8→Int × Nat) (kind code:Int) (q:UInt8) (r:List UInt8):Nx:=
 let w:=1+(lit q (r.drop 1)).1
 if (lit q (r.drop 1)).2=false then wrong kind w code
 else if (f (r.take w)).1=0 then right kind w else⟨kind,w,(f (r.take w)).1,(f (r.take w)).2,1⟩
def mark:List UInt8:=[239,187,191]
variable (L:Lang)
def wordL (r:List UInt8):Nx:=right (if L.kw (r.take (runL isWd r))=0 then 10 else L.kw (r.take (runL isWd r))) (runL isWd r)
def numL (r:List UInt8):Nx:=if L.num (r.take (runL isWd r))=true then right 11 (runL isWd r) else wrong 11 (runL isWd r) 109
def signL (r:List UInt8):Nx:=
 if 0<(L.op r).2 then right (L.op r).1 (L.op r).2 else if L.said r=true then right 5 (L.chr r) else wrong 5 (L.chr r) 104
def cls (z:Bool):List UInt8→Nat
 |[]=>0
 |c::r=>
  if (z && Lib.hasPrefix (c::r) mark)=true then 1
  else if isBl c=true then 2
  else if c=10 then 3
  else if Lib.hasPrefix (c::r) [47,47]=true then 4
  else if Lib.hasPrefix (c::r) [47,42]=true then 5
  else if isLt c=true then 6
  else if isDg c=true then 7
  else if c=34 then 8
  else if c=39 then 9
  else if c=96 then 10
  else 11
def nxOf (k:Nat) (r:List UInt8):Nx:=match k with
 |1=>right 1 3
 |2=>right 1 (runL isBl r)
 |3=>right 2 1
 |4=>right 3 (runL noFeed r)
 |5=>closedL 4 105 2 [42,47] r
 |6=>wordL L r
 |7=>numL L r
 |8=>quotedL L.str 13 106 34 r
 |9=>quotedL L.rune 12 107 39 r
 |10=>closedL 14 106 1 [96] r
 |11=>signL L r
 |_=>right 0 1
def nx (z:Bool) (r:List UInt8):Nx:=nxOf L (cls z r) r
section
variable {L}
theorem runL_len (p:UInt8→Bool) (r:List UInt8):runL p r≤r.length:=by
 induction r with
 |nil=>simp [runL]
 |cons c r ih=>simp only[runL,List.length_cons];split <;> omega
theorem runL_pos {p:UInt8→Bool} {c:UInt8} {r:List UInt8} (h:p c=true):1≤runL p (c::r):=by simp [runL,h]
theorem lit_len (q:UInt8) (r:List UInt8):(lit q r).1≤r.length:=by
 fun_induction lit q r <;> simp_all <;> omega
theorem pre_near {a p:List UInt8} (x y:List UInt8) (h:p.length≤a.length):Lib.hasPrefix (a ++ x) p=Lib.hasPrefix (a ++ y) p:=by
 have one:∀ w:List UInt8,Lib.hasPrefix (a ++ w) p=Lib.hasPrefix a p:=by
  intro w
  unfold Lib.hasPrefix
  rw[Bool.eq_iff_iff,List.isPrefixOf_iff_prefix,List.isPrefixOf_iff_prefix]
  exact⟨fun hp=>List.prefix_of_prefix_length_le hp (List.prefix_append _ _) h,fun hp=>hp.trans (List.prefix_append _ _)⟩
 rw[one,one]
theorem pre_feed {p:List UInt8} (hp:(10:UInt8)∉p) (r y:List UInt8):Lib.hasPrefix (r ++ 10::y) p=Lib.hasPrefix r p:=by
 unfold Lib.hasPrefix
 induction p generalizing r with
 |nil=>cases r <;> rfl
 |cons a p ih=>
  simp only[List.mem_cons,not_or] at hp
  cases r with
  |nil=>
   show((a == 10) && _)=false
   rw[show(a == (10:UInt8))=false from beq_eq_false_iff_ne.2 (fun e=>hp.1 e.symm)]
   rfl
  |cons c r=>
   show((a == c) && p.isPrefixOf (r ++ 10::y))=((a == c) && p.isPrefixOf r)
   rw[ih hp.2]
theorem cls_le (z:Bool) (c:UInt8) (r:List UInt8):1≤cls z (c::r)∧cls z (c::r)≤11:=by
 rw[cls]
 repeat' split
 all_goals decide
end
open Go
variable {L:Lang}
theorem right_width (k:Int) (w:Nat):(right k w).width=w:=rfl
theorem wrong_width (k:Int) (w:Nat) (c:Int):(wrong k w c).width=w:=rfl
theorem quoted_width (f:List UInt8→Int × Nat) (kind code:Int) (q:UInt8) (r:List UInt8):(quotedL f kind code q r).width=1+(lit q (r.drop 1)).1∧(quotedL f kind code q r).kind=kind:=by
 unfold quotedL
 simp only
 repeat' split
 all_goals exact⟨rfl,rfl⟩
structure Clue (z:Bool) (c:UInt8) (r:List UInt8) (k:Nat):Prop where
 one:k=1→Lib.hasPrefix r mark=true∧z=true
 two:k=2→isBl c=true
 three:k=3→c=10
 four:k=4→Lib.hasPrefix r [47,47]=true∧noFeed c=true
 five:k=5→Lib.hasPrefix r [47,42]=true
 six:k=6→isLt c=true
 seven:k=7→isDg c=true
 eight:k=8→c=34
 nine:k=9→c=39
 ten:k=10→c=96
 eleven:k=11→isLt c=false∧isDg c=false∧isBl c=false∧c≠10∧(z && Lib.hasPrefix r mark)=false
theorem cls_clue (z:Bool) (c:UInt8) (b:List UInt8):Clue z c (c::b) (cls z (c::b)):=by
 rw[cls]
 by_cases h1:(z && Lib.hasPrefix (c::b) mark)=true
 ·rw[if_pos h1];rw[Bool.and_eq_true] at h1;constructor <;> intro h <;> first|omega|exact⟨h1.2,h1.1⟩
 rw[if_neg h1]
 by_cases h2:isBl c=true
 ·rw[if_pos h2];constructor <;> intro h <;> first|omega|exact h2
 rw[if_neg h2]
 by_cases h3:c=10
 ·rw[if_pos h3];constructor <;> intro h <;> first|omega|exact h3
 rw[if_neg h3]
 by_cases h4:Lib.hasPrefix (c::b) [47,47]=true
 ·rw[if_pos h4];constructor <;> intro h <;> first|omega|exact⟨h4,by unfold noFeed;simpa using h3⟩
 rw[if_neg h4]
 by_cases h5:Lib.hasPrefix (c::b) [47,42]=true
 ·rw[if_pos h5];constructor <;> intro h <;> first|omega|exact h5
 rw[if_neg h5]
 by_cases h6:isLt c=true
 ·rw[if_pos h6];constructor <;> intro h <;> first|omega|exact h6
 rw[if_neg h6]
 by_cases h7:isDg c=true
 ·rw[if_pos h7];constructor <;> intro h <;> first|omega|exact h7
 rw[if_neg h7]
 by_cases h8:c=34
 ·rw[if_pos h8];constructor <;> intro h <;> first|omega|exact h8
 rw[if_neg h8]
 by_cases h9:c=39
 ·rw[if_pos h9];constructor <;> intro h <;> first|omega|exact h9
 rw[if_neg h9]
 by_cases h10:c=96
 ·rw[if_pos h10];constructor <;> intro h <;> first|omega|exact h10
 rw[if_neg h10]
 constructor <;> intro h <;> first|omega|exact⟨by simpa using h6,by simpa using h7,by simpa using h2,h3,by simpa using h1⟩
structure Sized (n:Nx) (r:List UInt8):Prop where
 pos:1≤n.width
 len:n.width≤r.length
 said:n.code≠0→n.off+n.dw≤r.length
 kind:n.kind≠16∧1≤n.kind
theorem closed_sized {kind code:Int} {n:Nat} {clo r:List UInt8} (hn:n≤r.length) (h1:1≤n) (hk:kind≠16∧1≤kind):Sized (closedL kind code n clo r) r:=by
 unfold closedL
 split
 ·exact⟨by simp only[wrong_width];omega,Nat.le_refl _,fun _=>by simp [wrong],hk⟩
 ·rename_i c
  have:=Lib.index_room (r.drop n) clo (by omega)
  rw[List.length_drop] at this
  exact⟨by simp only[right_width];omega,by simp only[right_width];omega,fun h=>absurd rfl h,hk⟩
theorem quoted_sized {f:List UInt8→Int × Nat} {kind code:Int} {q:UInt8} {r:List UInt8} (hf:∀ r,(f r).1≠0→r≠[]→(f r).2<r.length) (h1:1≤r.length) (hk:kind≠16∧1≤kind):Sized (quotedL f kind code q r) r:=by
 have hl:=lit_len q (r.drop 1)
 rw[List.length_drop] at hl
 obtain⟨hw,hkk⟩:=quoted_width f kind code q r
 refine⟨by omega,by omega,?_,by rw[hkk];exact hk⟩
 unfold quotedL
 simp only
 split
 ·intro _;show 0+(1+(lit q (r.drop 1)).1)≤_;omega
 ·split
  ·intro h;exact absurd rfl h
  ·rename_i c
   intro _
   have:=hf (r.take (1+(lit q (r.drop 1)).1)) c (by intro e;have:=congrArg List.length e;rw[List.length_take,List.length_nil] at this;omega)
   rw[List.length_take] at this
   show(f (r.take (1+(lit q (r.drop 1)).1))).2+1≤_
   omega
theorem nx_sized (z:Bool) (c:UInt8) (b:List UInt8):Sized (nx L z (c::b)) (c::b):=by
 unfold nx
 have hk:=cls_le z c b
 have hc:=cls_clue z c b
 obtain⟨k,hkk⟩:∃ k,cls z (c::b)=k:=⟨_,rfl⟩
 rw[hkk] at hk hc ⊢
 have h1:k=1→3≤(c::b).length:=fun e=>by
  have:=(List.isPrefixOf_iff_prefix.1 (hc.one e).1).length_le
  simpa [mark] using this
 have h2:=hc.two
 have h4:=fun e=>(hc.four e).2
 have h5:k=5→2≤(c::b).length:=fun e=>by
  have:=(List.isPrefixOf_iff_prefix.1 (hc.five e)).length_le
  simpa using this
 have h6:k=6∨k=7→isWd c=true:=fun e=>by
  unfold isWd
  rcases e with e|e
  ·rw[hc.six e];rfl
  ·rw[hc.seven e];simp
 clear hkk hc
 match k,hk,h1,h2,h4,h5,h6 with
 |1,_,h1,_,_,_,_=>exact⟨by simp [nxOf,right],h1 rfl,fun h=>absurd rfl h,by simp [nxOf,right]⟩
 |2,_,_,h2,_,_,_=>exact⟨runL_pos (h2 rfl),runL_len _ _,fun h=>absurd rfl h,by simp [nxOf,right]⟩
 |3,_,_,_,_,_,_=>exact⟨by simp [nxOf,right],by simp [nxOf,right],fun h=>absurd rfl h,by simp [nxOf,right]⟩
 |4,_,_,_,h4,_,_=>exact⟨runL_pos (h4 rfl),runL_len _ _,fun h=>absurd rfl h,by simp [nxOf,right]⟩
 |5,_,_,_,_,h5,_=>exact closed_sized (h5 rfl) (by omega) (by decide)
 |6,_,_,_,_,_,h6=>
  refine⟨runL_pos (h6 (.inl rfl)),runL_len _ _,fun h=>absurd rfl h,?_⟩
  have:=L.kw_kind ((c::b).take (runL isWd (c::b)))
  show(if _ then _ else _)≠_∧_≤(if _ then _ else _)
  split
  ·decide
  ·omega
 |7,_,_,_,_,_,h6=>
  have hp:=runL_pos (p:=isWd) (r:=b) (h6 (.inr rfl))
  have hl:=runL_len isWd (c::b)
  show Sized (numL L (c::b)) _
  unfold numL
  split
  ·exact⟨hp,hl,fun h=>absurd rfl h,by simp [right]⟩
  ·exact⟨hp,hl,fun _=>by simpa [wrong] using hl,by simp [wrong]⟩
 |8,_,_,_,_,_,_=>exact quoted_sized L.str_place (by simp) (by decide)
 |9,_,_,_,_,_,_=>exact quoted_sized L.rune_place (by simp) (by decide)
 |10,_,_,_,_,_,_=>exact closed_sized (by simp) (by omega) (by decide)
 |11,_,_,_,_,_,_=>
  have p1:=L.chr_pos (c::b)
  have p2:=L.chr_len (c::b) (by simp)
  have p3:=L.op_len (c::b)
  have p4:=L.op_kind (c::b)
  show Sized (signL L (c::b)) _
  unfold signL
  split
  ·rename_i hh
   have:=p4 hh
   exact⟨hh,p3,fun h=>absurd rfl h,⟨by show((L.op (c::b)).1:Int)≠16;omega,by show(1:Int)≤((L.op (c::b)).1:Int);omega⟩⟩
  ·split
   ·exact⟨p1,p2,fun h=>absurd rfl h,by simp [right]⟩
   ·exact⟨p1,p2,fun _=>by simpa [wrong] using p2,by simp [wrong]⟩
open Go
structure Tr where
 k:Int
 i:Nat
 j:Nat
deriving DecidableEq,Inhabited
def triv (z:Int):Bool:=decide (1≤z∧z≤5)
def ends (z:Int):Bool:=[10,11,12,13,14,70,73,77,86,44,45,62,63,64].contains z
variable (L:Lang)
def nxAt (l:List UInt8) (p:Nat):Nx:=nx L (p == 0) (l.drop p)
def tkAt (l:List UInt8) (p:Nat):Tr:=⟨(nxAt L l p).kind,p,p+(nxAt L l p).width⟩
def dgAt (l:List UInt8) (p:Nat):List Tr:=if (nxAt L l p).code=0 then[] else[⟨(nxAt L l p).code,p+(nxAt L l p).off,p+(nxAt L l p).off+(nxAt L l p).dw⟩]
def bareF (l:List UInt8):Nat→Nat→List Tr
 |0,_=>[]
 |f+1,p=>if p<l.length then tkAt L l p::bareF l f (p+(nxAt L l p).width) else[]
def dgsF (l:List UInt8):Nat→Nat→List Tr
 |0,_=>[]
 |f+1,p=>if p<l.length then dgAt L l p ++ dgsF l f (p+(nxAt L l p).width) else[]
def bare (l:List UInt8) (p:Nat):List Tr:=bareF L l (l.length - p) p
def dgs (l:List UInt8) (p:Nat):List Tr:=dgsF L l (l.length - p) p
def piece (l:List UInt8) (t:Tr):List UInt8:=(l.drop t.i).take (t.j - t.i)
def hasFeed (l:List UInt8) (t:Tr):Bool:=Lib.contains (piece l t) [10]
def lineEnd (l:List UInt8) (more:Bool):List Tr→Bool
 |[]=>!more
 |t::T=>if triv t.k=false then false else if t.k=2 then true else if (decide (t.k=4) && hasFeed l t)=true then true else lineEnd l more T
def autoOf (l:List UInt8) (more:Bool) (t:Tr) (T:List Tr):List Tr:=if (ends t.k && lineEnd l more T)=true then[⟨16,t.j,t.j⟩] else[]
def autos (l:List UInt8) (more:Bool):List Tr→List Tr
 |[]=>[]
 |t::T=>t::(autoOf l more t T ++ autos l more T)
def scan (l:List UInt8):List Tr:=autos l false (bare L l 0)
section
variable {L}
theorem at_sized {l:List UInt8} {p:Nat} (h:p<l.length):Sized (nxAt L l p) (l.drop p):=by
 unfold nxAt
 rw[List.drop_eq_getElem_cons h]
 exact nx_sized _ _ _
theorem at_pos {l:List UInt8} {p:Nat} (h:p<l.length):1≤(nxAt L l p).width:=(at_sized h).pos
theorem at_le {l:List UInt8} {p:Nat} (h:p<l.length):p+(nxAt L l p).width≤l.length:=by
 have:=(at_sized (L:=L) h).len
 rw[List.length_drop] at this
 omega
theorem bare_fuel {l:List UInt8}:∀ (f g p:Nat),l.length - p≤f→l.length - p≤g→bareF L l f p=bareF L l g p:=by
 intro f
 induction f with
 |zero=>
  intro g p h _
  cases g with
  |zero=>rfl
  |succ g=>simp only[bareF];rw[if_neg (by omega)]
 |succ f ih=>
  intro g p h hg
  cases g with
  |zero=>simp only[bareF];rw[if_neg (by omega)]
  |succ g=>
   simp only[bareF]
   by_cases c:p<l.length
   ·have:=at_pos (L:=L) c
    rw[if_pos c,if_pos c,ih g _ (by omega) (by omega)]
   ·rw[if_neg c,if_neg c]
theorem dgs_fuel {l:List UInt8}:∀ (f g p:Nat),l.length - p≤f→l.length - p≤g→dgsF L l f p=dgsF L l g p:=by
 intro f
 induction f with
 |zero=>
  intro g p h _
  cases g with
  |zero=>rfl
  |succ g=>simp only[dgsF];rw[if_neg (by omega)]
 |succ f ih=>
  intro g p h hg
  cases g with
  |zero=>simp only[dgsF];rw[if_neg (by omega)]
  |succ g=>
   simp only[dgsF]
   by_cases c:p<l.length
   ·have:=at_pos (L:=L) c
    rw[if_pos c,if_pos c,ih g _ (by omega) (by omega)]
   ·rw[if_neg c,if_neg c]
theorem bare_end {l:List UInt8} {p:Nat} (h:¬ p<l.length):bare L l p=[]:=by
 unfold bare
 rw[show l.length - p=0 by omega]
 rfl
theorem dgs_end {l:List UInt8} {p:Nat} (h:¬ p<l.length):dgs L l p=[]:=by
 unfold dgs
 rw[show l.length - p=0 by omega]
 rfl
theorem bare_step {l:List UInt8} {p:Nat} (h:p<l.length):bare L l p=tkAt L l p::bare L l (p+(nxAt L l p).width):=by
 have:=at_pos (L:=L) h
 unfold bare
 obtain⟨f,hf⟩:∃ f,l.length - p=f+1:=⟨l.length - p - 1,by omega⟩
 rw[hf]
 simp only[bareF]
 rw[if_pos h,bare_fuel f (l.length - (p+(nxAt L l p).width)) _ (by omega) (by omega)]
theorem dgs_step {l:List UInt8} {p:Nat} (h:p<l.length):dgs L l p=dgAt L l p ++ dgs L l (p+(nxAt L l p).width):=by
 have:=at_pos (L:=L) h
 unfold dgs
 obtain⟨f,hf⟩:∃ f,l.length - p=f+1:=⟨l.length - p - 1,by omega⟩
 rw[hf]
 simp only[dgsF]
 rw[if_pos h,dgs_fuel f (l.length - (p+(nxAt L l p).width)) _ (by omega) (by omega)]
theorem along {l:List UInt8} {P:Nat→Prop} (hend:∀ p,¬ p<l.length→P p) (hstep:∀ p,p<l.length→P (p+(nxAt L l p).width)→P p):∀ p,P p:=by
 have all:∀ n p,l.length - p≤n→P p:=by
  intro n
  induction n with
  |zero=>intro p h;exact hend p (by omega)
  |succ n ih=>
   intro p h
   by_cases c:p<l.length
   ·have:=at_pos (L:=L) c
    exact hstep p c (ih _ (by omega))
   ·exact hend p c
 exact fun p=>all _ p (Nat.le_refl _)
theorem bare_few (l:List UInt8):∀ p,(bare L l p).length≤l.length - p:=by
 refine along (L:=L) (fun p h=>by rw[bare_end h];simp) (fun p h ih=>?_)
 have:=at_pos (L:=L) h
 rw[bare_step h,List.length_cons]
 omega
structure Far (L:Lang) (l:List UInt8) (p:Nat) (T D:List Tr):Prop where
 le:p≤l.length
 toks:T ++ bare L l p=bare L l 0
 said:D ++ dgs L l p=dgs L l 0
 few:T.length≤p
 few':D.length≤p
theorem Far.zero (l:List UInt8):Far L l 0 [] []:=⟨Nat.zero_le _,rfl,rfl,Nat.le_refl _,Nat.le_refl _⟩
theorem Far.step {l:List UInt8} {p:Nat} {T D:List Tr} (h:Far L l p T D) (hp:p<l.length):Far L l (p+(nxAt L l p).width) (T ++ [tkAt L l p]) (D ++ dgAt L l p):=by
 have h1:=at_pos (L:=L) hp
 have h2:(dgAt L l p).length≤1:=by unfold dgAt;split <;> simp
 refine⟨at_le hp,?_,?_,?_,?_⟩
 ·rw[← h.toks,bare_step hp];simp
 ·rw[← h.said,dgs_step hp];simp
 ·have:=h.few;rw[List.length_append,List.length_singleton];omega
 ·have:=h.few';rw[List.length_append];omega
theorem Far.done {l:List UInt8} {p:Nat} {T D:List Tr} (h:Far L l p T D) (hp:¬ p<l.length):T=bare L l 0∧D=dgs L l 0:=by
 have h1:=h.toks
 have h2:=h.said
 rw[bare_end hp,List.append_nil] at h1
 rw[dgs_end hp,List.append_nil] at h2
 exact⟨h1,h2⟩
theorem bare_within (l:List UInt8):∀ p,∀ t∈bare L l p,t.i≤t.j∧t.j≤l.length:=by
 refine along (L:=L) (fun p h=>by rw[bare_end h];simp) (fun p h ih=>?_)
 rw[bare_step h]
 intro t ht
 rcases List.mem_cons.1 ht with rfl|ht
 ·have:=at_le (L:=L) h
  exact⟨by show p≤p+_;omega,this⟩
 ·exact ih t ht
end
end Go.Proofs.YtcekbbkidipbnaaGreat.lx
