/-
  Texts put together: Fa, Fb.
-/
import Derived.Test.YtmelbeefjgjdhaaGreatP2
set_option maxRecDepth 100000
set_option maxHeartbeats 8000000
namespace Go.Proofs.YtmelbeefjgjdhaaGreat.rd
inductive Tree where
 |mk (k i j:Int) (l:List Tree)
def Tree.k:Tree→Int|.mk k _ _ _=>k
def Tree.i:Tree→Int|.mk _ i _ _=>i
def Tree.j:Tree→Int|.mk _ _ j _=>j
def Tree.l:Tree→List Tree|.mk _ _ _ l=>l
def Tk.tree (t:Tk):Tree:=.mk t.k t.i t.j []
structure St where
 L:List Tk
 at':Nat
 R:List Tree
 H:List Int
 op:Nat
inductive Res where
 |ok (s:St)
 |fail (d0 d1 d2:Int)
def St.next (s:St) (n:Nat):Nat:=s.at'+nxt n (s.L.drop s.at')
def St.ahead (s:St) (n:Nat):Int:=match s.L[s.next n]? with|some t=>t.k|none=>0
def St.here (s:St):Int:=match lastTo s.L s.at' with
 |some x=>x
 |none=>match s.L[s.next 0]? with
  |some t=>t.i
  |none=>match s.L[0]? with
   |some t=>t.i
   |none=>0
def St.piece (s:St):Int × Int:=match s.L[s.next 0]? with
 |some t=>(t.i,t.j)
 |none=>(s.here,s.here)
def St.fail (s:St) (c:Int):Res:=.fail c s.piece.1 s.piece.2
def St.run (s:St) (n:Nat):St:={ s with at':=s.at'+n,R:=s.R ++ ((s.L.drop s.at').take n).map Tk.tree,H:=s.H ++ List.replicate n 0 }
def St.take (s:St):St:=if s.ahead 0=0 then s else s.run (s.next 0+1 - s.at')
def St.none (s:St):St:={ s with R:=s.R ++ [.mk 200 s.here s.here []],H:=s.H ++ [0] }
def St.expect (s:St) (k:Int):Res:=if k≠0∧s.ahead 0=k then .ok s.take else s.fail 201
def St.down (s:St):Res:=if 100≤s.op then s.fail 202 else .ok { s with op:=s.op+1 }
def St.up (s:St):St:={ s with op:=s.op - 1 }
def clamp (m:Int) (n:Nat):Nat:=(max 0 (min m (n:Int))).toNat
def leadT:List Tree→Nat
 |[]=>0
 |t::r=>if sig t.k then 0 else leadT r+1
def highOf (a:Int) (l:List Int):Int:=l.foldl (fun a x=>max a (x+1)) a
def fromOf (h:Int):List Tree→Int
 |[]=>h
 |t::_=>t.i
def toOf (h:Int) (l:List Tree):Int:=match l.getLast? with|some t=>t.j|none=>h
def St.closed (s:St) (m:Nat) (k:Int):St:=
 { s with R:=s.R.take m ++ [.mk k (fromOf s.here (s.R.drop m)) (toOf s.here (s.R.drop m)) (s.R.drop m)],H:=s.H.take m ++ [highOf 1 (s.H.drop m)] }
def St.mark (s:St) (m:Int):Nat:=clamp m s.R.length+leadT (s.R.drop (clamp m s.R.length))
def St.close (s:St) (m:Int) (k:Int):Res:=
 if 100<highOf 1 (s.H.drop (s.mark m)) then s.fail 202 else .ok (s.closed (s.mark m) k)
def St.last (s:St):Int:=match s.R.getLast? with|some t=>t.k|.none=>0
def chk:Res→Option Res
 |.ok s=>if s.R.length+s.L.length≤549755813888 then some (.ok s) else none
 |.fail a b c=>some (.fail a b c)
def lift (f:St→Res):Res→Option Res
 |.ok s=>chk (f s)
 |.fail a b c=>some (.fail a b c)
def rTake:Res→Option Res:=lift fun s=>.ok s.take
def rNone:Res→Option Res:=lift fun s=>.ok s.none
def rExpect (k:Int):Res→Option Res:=lift fun s=>s.expect k
def rDown:Res→Option Res:=lift fun s=>s.down
def rUp:Res→Option Res:=lift fun s=>.ok s.up
def rFail (c:Int):Res→Option Res:=lift fun s=>s.fail c
def rClose (m k:Int):Res→Option Res:=lift fun s=>s.close m k
def Res.ahead (x:Res) (n:Nat):Int:=match x with|.ok s=>s.ahead n|.fail _ _ _=>0
def Res.kind (x:Res):Int:=x.ahead 0
def Res.len (x:Res):Nat:=match x with|.ok s=>s.R.length|.fail _ _ _=>0
def Res.bad (x:Res):Bool:=match x with|.ok _=>false|.fail _ _ _=>true
def headT:List Tree→Tree
 |[]=>.mk 0 0 0 []
 |t::r=>if sig t.k then t else headT r
def partT:List Tree→Tree
 |[]=>.mk 0 0 0 []
 |t::r=>if decide (200≤t.k) then t else partT r
def namedT (t:Tree):Bool:=t.k == 201 || (t.k == 207 && (partT t.l).k == 201)
def literalT (t:Tree) (h:Bool):Bool:=t.k == 220 || t.k == 221 || t.k == 222 || t.k == 224 || (!h && (namedT t || (t.k == 208 && namedT (partT t.l))))
def Res.lit (x:Res) (m:Nat) (h:Bool):Bool:=match x with|.ok s=>literalT (headT (s.R.drop m)) h|.fail _ _ _=>false
def precOf (z:Int):Int:=
 if [22,23,24,25,28,29,30].contains z then 5 else if [20,21,26,27].contains z then 4 else if [46,47,48,52,53,54].contains z then 3 else if z=42 then 2 else if z=43 then 1 else 0
inductive Pc where
 |X (h:Bool)
 |binary (p:Int) (h:Bool)
 |binL (p:Int) (h:Bool) (m:Nat)
 |unary (h:Bool)
 |primary (h:Bool)
 |primL (h:Bool) (m:Nat)
 |period (m:Nat)
 |index (m:Nat)
 |idxL
 |cut (m:Nat)
 |call (m:Nat)
 |callL
 |value
 |values
 |valL
 |operand
 |flat
 |flatL (c:Nat)
 |type
 |tyL
 |array (m:Nat)
 |items (f:Bool)
 |itL (f:Bool)
 |field
 |element
 |union
 |unionL
 |term
 |sig
 |params
 |entry
 |list (h:Bool)
 |listL (h:Bool)
 |tparams
 |tpL
 |group
 |names
def rName (x:Res):Option Res:=do rClose x.len 201 (← rExpect 10 x)
def rQualified (x:Res):Option Res:=do
 let y ← rName x
 if y.kind=61 then do rClose x.len 207 (← rName (← rTake y)) else some y
def Res.sigs:Res→List Int
 |.ok s=>((s.L.drop s.at').filter fun t=>rd.sig t.k).map Tk.k
 |.fail _ _ _=>[]
def behindOf:Nat→List Int→Int
 |_,[]=>0
 |c,k::r=>if k=58 then behindOf (c+1) r else if k=63 then(if c≤1 then r.headD 0 else behindOf (c - 1) r) else behindOf c r
def Res.named (x:Res):Bool:=
 if x.kind=10 then
  if x.ahead 1=60∨x.ahead 1=62∨x.ahead 1=61 then false
  else if x.ahead 1=58 then
   x.ahead 2 == 63 || (behindOf 0 (x.sigs.drop 1) != 0 && behindOf 0 (x.sigs.drop 1) != 60 && behindOf 0 (x.sigs.drop 1) != 62)
  else true
 else false
structure Ent where
 (a b:Nat) (is:Bool)
def rEnts (one:Res→Option Res):Nat→List Ent→Res→Option (Res × List Ent)
 |0,_,_=>none
 |n+1,l,x=>if x.bad=true∨x.kind=62 then some (x,l) else do
  let y ← one x
  if y.kind=60 then do rEnts one n (l ++ [⟨x.len,y.len,x.named⟩]) (← rTake y) else some (y,l ++ [⟨x.len,y.len,x.named⟩])
def unfit (R:List Tree):List Ent→Bool
 |[]=>false
 |e::r=>(!e.is && (r.isEmpty || (headT (R.drop e.a)).k != 201)) || unfit R r
def St.back (s:St) (R:List Tree) (H:List Int) (a b:Nat):St:={ s with R:=s.R ++ (R.drop a).take (b - a),H:=s.H ++ (H.drop a).take (b - a) }
def rGroups (R:List Tree) (H:List Int) (any:Bool):List Ent→Nat→Nat→Res→Option Res
 |[],_,_,x=>some x
 |e::r,m,a,x=>match x with
  |.fail d0 d1 d2=>some (.fail d0 d1 d2)
  |.ok s=>
   if !any || e.is then do
    let y ← rClose m 233 (.ok (s.back R H a e.b))
    match y with
    |.fail d0 d1 d2=>some (.fail d0 d1 d2)
    |.ok t=>
     let b:=match r with|[]=>R.length|f::_=>f.a
     let u:=t.back R H e.b b
     rGroups R H any r u.R.length b (.ok u)
   else rGroups R H any r m e.b (.ok (s.back R H a e.b))
def rGroup (l:List Ent) (any:Bool):Res→Option Res
 |.fail d0 d1 d2=>some (.fail d0 d1 d2)
 |.ok s=>match l with
  |[]=>some (.ok s)
  |e::_=>rGroups s.R s.H any l e.a e.a (.ok { s with R:=s.R.take e.a,H:=s.H.take e.a })
def wfE:Nat→List Ent→Nat→Bool
 |lo,[],n=>decide (lo≤n)
 |lo,e::r,n=>decide (lo≤e.a) && decide (e.a≤e.b) && wfE e.b r n
def rFinish (m:Nat) (l:List Ent):Res→Option Res
 |.fail d0 d1 d2=>some (.fail d0 d1 d2)
 |.ok s=>
  if (wfE 0 l s.R.length && decide (s.R.length+l.length+s.L.length≤549755813888))=true then
   if (l.any (·.is) && unfit s.R l)=true then rFail 201 (.ok s)
   else do rClose m 232 (← rExpect 62 (← rGroup l (l.any (·.is)) (.ok s)))
  else none
def run:Nat→Pc→Res→Option Res
 |_,_,.fail a b c=>some (.fail a b c)
 |0,_,.ok _=>none
 |n+1,p,.ok s=>
  let x:=Res.ok s
  let m:=s.R.length
  match p with
  |.X h=>do rUp (← run n (.binary 1 h) (← rDown x))
  |.binary p h=>do run n (.binL p h m) (← run n (.unary h) x)
  |.binL p h m=>
   let q:=precOf x.kind
   if q=0∨q<p then some x else do
    run n (.binL p h m) (← rClose m 206 (← run n (.binary (q+1) h) (← rTake x)))
  |.unary h=>
   if x.kind=22 then do rClose m 205 (← rUp (← run n (.unary h) (← rDown (← rTake x))))
   else if x.kind=20∨x.kind=21∨x.kind=50∨x.kind=27∨x.kind=25 then do rClose m 204 (← rUp (← run n (.unary h) (← rDown (← rTake x))))
   else run n (.primary h) x
  |.primary h=>do run n (.primL h m) (← run n .operand x)
  |.primL h m=>
   if x.kind=61 then do run n (.primL h m) (← run n (.period m) x)
   else if x.kind=58 then do run n (.primL h m) (← run n (.index m) x)
   else if x.kind=57 then do run n (.primL h m) (← run n (.call m) x)
   else if x.kind=59∧x.lit m h=true then do run n (.primL h m) (← rClose m 213 (← run n .values x))
   else some x
  |.period m=>do
   let y ← rTake x
   if y.kind=10 then do rClose m 207 (← rName y)
   else if y.kind=57 then do
    let z ← rTake y
    if z.kind=89 then do rClose m 212 (← rExpect 62 (← rTake z))
    else do rClose m 211 (← rExpect 62 (← run n .type z))
   else rFail 201 y
  |.index m=>do
   let y ← rTake x
   let z ← if y.kind=65 then rNone y else run n (.X false) y
   if z.kind=65 then run n (.cut m) z
   else do rClose m 208 (← rExpect 63 (← run n .idxL z))
  |.idxL=>
   if x.kind=60 then do
    let y ← rTake x
    if y.kind=63 then run n .idxL y else do run n .idxL (← run n (.X false) y)
   else some x
  |.cut m=>do
   let y ← rTake x
   if y.kind=65∨y.kind=63 then do
    let z ← rNone y
    if z.kind=65 then rFail 201 z else do rClose m 209 (← rExpect 63 z)
   else do
    let z ← run n (.X false) y
    if z.kind=65 then do rClose m 209 (← rExpect 63 (← run n (.X false) (← rTake z)))
    else do rClose m 209 (← rExpect 63 z)
  |.call m=>do rClose m 210 (← rExpect 62 (← run n .callL (← rTake x)))
  |.callL=>
   if x.kind=62 then some x else do
    let y ← run n (.X false) x
    if y.kind=56 then do
     let z ← rTake y
     if z.kind=60 then rTake z else some z
    else if y.kind=60 then do run n .callL (← rTake y)
    else some y
  |.value=>
   if x.kind=59 then do
    let y ← rDown x
    rUp (← rClose y.len 214 (← run n .values y))
   else run n (.X false) x
  |.values=>do rExpect 64 (← run n .valL (← rExpect 59 x))
  |.valL=>
   if x.kind=64 then some x else do
    let y ← run n .value x
    let z ← if y.kind=65 then do rClose m 215 (← run n .value (← rTake y)) else some y
    if z.kind=60 then do run n .valL (← rTake z) else some z
  |.operand=>
   if x.kind=10 then rName x
   else if x.kind=11∨x.kind=12∨x.kind=13∨x.kind=14 then do rClose m 202 (← rTake x)
   else if x.kind=57 then do rClose m 203 (← rExpect 62 (← run n (.X false) (← rTake x)))
   else if x.kind=79 then do
    let y ← run n .sig (← rTake x)
    if y.kind=59 then do rClose m 216 (← run n .flat y) else rClose m 223 y
   else if x.kind=58∨x.kind=83∨x.kind=87∨x.kind=82 then run n .type x
   else rFail 201 x
  |.flat=>do rClose m 217 (← run n (.flatL 1) (← rExpect 59 x))
  |.flatL c=>
   if c=0 then some x
   else if x.kind=0 then rFail 201 x
   else if x.kind=59 then do run n (.flatL (c+1)) (← rTake x)
   else if x.kind=64 then do run n (.flatL (c - 1)) (← rTake x)
   else do run n (.flatL c) (← rTake x)
  |.type=>do
   let y ← rDown x
   if y.bad=true then some y else do
    let u ← if y.kind=10 then do
      let z ← rQualified y
      if z.kind=58 then do rClose y.len 208 (← rExpect 63 (← run n .tyL (← run n .type (← rTake z)))) else some z
     else if y.kind=57 then do rClose y.len 203 (← rExpect 62 (← run n .type (← rTake y)))
     else if y.kind=22 then do rClose y.len 205 (← run n .type (← rTake y))
     else if y.kind=79 then do rClose y.len 223 (← run n .sig (← rTake y))
     else if y.kind=58 then run n (.array y.len) y
     else if y.kind=83 then do rClose y.len 222 (← run n .type (← rExpect 63 (← run n .type (← rExpect 58 (← rTake y)))))
     else if y.kind=87 then do rClose y.len 224 (← run n (.items true) (← rTake y))
     else if y.kind=82 then do rClose y.len 227 (← run n (.items false) (← rTake y))
     else rFail 201 y
    rUp u
  |.tyL=>
   if x.kind=60 then do
    let y ← rTake x
    if y.kind=63 then run n .tyL y else do run n .tyL (← run n .type y)
   else some x
  |.array m=>do
   let y ← rTake x
   if y.kind=63 then do rClose m 220 (← run n .type (← rTake y))
   else do
    let z ← if y.kind=56 then do rClose y.len 218 (← rTake y) else run n (.X false) y
    rClose m 221 (← run n .type (← rExpect 63 z))
  |.items f=>do rExpect 64 (← run n (.itL f) (← rExpect 59 x))
  |.itL f=>
   if x.kind=64 then some x else do
    let y ← match f with|true=>run n .field x|false=>run n .element x
    if y.kind=15∨y.kind=16 then do run n (.itL f) (← rTake y) else some y
  |.field=>
   if x.kind=22 then do rClose m 226 (← rClose m 205 (← rQualified (← rTake x)))
   else if x.kind=10∧(x.ahead 1=15∨x.ahead 1=16∨x.ahead 1=64∨x.ahead 1=61) then do rClose m 226 (← rQualified x)
   else do rClose m 225 (← run n .type (← run n .names (← rName x)))
  |.element=>
   if x.kind=10∧x.ahead 1=57 then do rClose m 228 (← run n .sig (← rName x))
   else do rClose m 229 (← run n .union x)
  |.union=>do run n .unionL (← run n .term x)
  |.unionL=>if x.kind=26 then do run n .unionL (← run n .term (← rTake x)) else some x
  |.term=>
   if x.kind=51 then do rClose m 230 (← run n .type (← rTake x)) else run n .type x
  |.sig=>do
   let y ← run n .params x
   let z ← if y.kind=57 then run n .params y
    else if y.kind=10∨y.kind=22∨y.kind=58∨y.kind=83∨y.kind=87∨y.kind=82∨y.kind=79 then run n .type y
    else rNone y
   rClose m 231 z
  |.params=>do
   let (y,l) ← rEnts (run n .entry) n [] (← rExpect 57 x)
   rFinish m l y
  |.entry=>do
   let y ← if x.named=true then rName x else some x
   if y.kind=56 then do rClose y.len 234 (← run n .type (← rTake y)) else run n .type y
  |.list h=>do rClose m 246 (← run n (.listL h) (← run n (.X h) x))
  |.listL h=>if x.kind=60 then do run n (.listL h) (← run n (.X h) (← rTake x)) else some x
  |.tparams=>do rClose m 264 (← rExpect 63 (← run n .tpL (← rExpect 58 x)))
  |.tpL=>do
   let y ← run n .group x
   if y.kind=60 then do
    let z ← rTake y
    if z.kind=63 then some z else run n .tpL z
   else some y
  |.names=>if x.kind=60 then do run n .names (← rName (← rTake x)) else some x
  |.group=>do
   let y ← run n .names (← rName x)
   let z ← run n .term y
   let u ← if z.kind=26 then do rClose y.len 229 (← run n .unionL z)
    else if y.kind=51 then rClose y.len 229 z
    else some z
   rClose m 233 u
open Go.RowKit
mutual
def Tie (w:World) (D:Nat→Prop):Tree→Rn→Prop
 |.mk k i j l,n=>n.k=k∧n.i=i∧n.j=j∧n.n=l.length∧∃ (g off:Nat) (R:List Rn),(n.n≤n.c∧l.length≤1099511627776)∧(l≠[]→n.o=some ⟨g,off,none⟩∧D g)∧Cells nd w g off R∧Ties w D l R
def Ties (w:World) (D:Nat→Prop):List Tree→List Rn→Prop
 |[],R=>R=[]
 |t::l,R=>∃ n R',R=n::R'∧Tie w D t n∧Ties w D l R'
end
theorem cell_same {w w':World} {g:Nat} (h:w'.heap[g]? = w.heap[g]?) (o:Nat):w'.cell? ⟨g,o,none⟩=w.cell? ⟨g,o,none⟩:=by
 simp only[World.cell?,h]
mutual
theorem Tie.keep {w w':World} {D D':Nat→Prop} (hs:∀ g,D g→w'.heap[g]? = w.heap[g]?) (hD:∀ g,D g→D' g):∀ (t:Tree) (n:Rn),Tie w D t n→Tie w' D' t n
 |.mk k i j l,n,h=>by
  rw[Tie] at h ⊢
  obtain⟨h1,h2,h3,h4,g,off,R,h5,h6,h7,h8⟩:=h
  refine⟨h1,h2,h3,h4,g,off,R,h5,fun e=>⟨(h6 e).1,hD _ (h6 e).2⟩,?_,Ties.keep hs hD l R h8⟩
  cases l with
  |nil=>
   rw[Ties] at h8
   subst h8
   intro j u hu
   simp [flat] at hu
  |cons t l=>exact fun j u hu=>(cell_same (hs g (h6 (by simp)).2) _).trans (h7 j u hu)
theorem Ties.keep {w w':World} {D D':Nat→Prop} (hs:∀ g,D g→w'.heap[g]? = w.heap[g]?) (hD:∀ g,D g→D' g):∀ (l:List Tree) (R:List Rn),Ties w D l R→Ties w' D' l R
 |[],R,h=>by rw[Ties] at h ⊢;exact h
 |t::l,R,h=>by
  rw[Ties] at h ⊢
  obtain⟨n,R',h1,h2,h3⟩:=h
  exact⟨n,R',h1,Tie.keep hs hD t n h2,Ties.keep hs hD l R' h3⟩
end
theorem Ties.nil {w:World} {D:Nat→Prop}:Ties w D [] []:=by rw[Ties]
theorem Ties.cons {w:World} {D:Nat→Prop} {t:Tree} {n:Rn} {l:List Tree} {R:List Rn} (h:Tie w D t n) (h2:Ties w D l R):Ties w D (t::l) (n::R):=by rw[Ties];exact⟨n,R,rfl,h,h2⟩
theorem Ties.append {w:World} {D:Nat→Prop}:∀ {l:List Tree} {R:List Rn} {l2:List Tree} {R2:List Rn},Ties w D l R→Ties w D l2 R2→Ties w D (l ++ l2) (R ++ R2)
 |[],R,l2,R2,h,h2=>by rw[Ties] at h;subst h;exact h2
 |t::l,R,l2,R2,h,h2=>by
  rw[Ties] at h
  obtain⟨n,R',rfl,h3,h4⟩:=h
  exact Ties.cons h3 (h4.append h2)
theorem Ties.length {w:World} {D:Nat→Prop}:∀ {l:List Tree} {R:List Rn},Ties w D l R→R.length=l.length
 |[],R,h=>by rw[Ties] at h;subst h;rfl
 |t::l,R,h=>by
  rw[Ties] at h
  obtain⟨n,R',rfl,_,h4⟩:=h
  rw[List.length_cons,List.length_cons,h4.length]
theorem Ties.drop {w:World} {D:Nat→Prop}:∀ {l:List Tree} {R:List Rn} (m:Nat),Ties w D l R→Ties w D (l.drop m) (R.drop m)
 |_,_,0,h=>h
 |[],R,m+1,h=>by rw[Ties] at h;subst h;exact Ties.nil
 |t::l,R,m+1,h=>by
  rw[Ties] at h
  obtain⟨n,R',rfl,_,h4⟩:=h
  exact h4.drop m
theorem Ties.take {w:World} {D:Nat→Prop}:∀ {l:List Tree} {R:List Rn} (m:Nat),Ties w D l R→Ties w D (l.take m) (R.take m)
 |_,_,0,_=>Ties.nil
 |[],R,m+1,h=>by rw[Ties] at h;subst h;exact Ties.nil
 |t::l,R,m+1,h=>by
  rw[Ties] at h
  obtain⟨n,R',rfl,h3,h4⟩:=h
  exact Ties.cons h3 (h4.take m)
theorem Tie.k {w:World} {D:Nat→Prop} {t:Tree} {n:Rn} (h:Tie w D t n):n.k=t.k:=by cases t;rw[Tie] at h;exact h.1
theorem Tie.i {w:World} {D:Nat→Prop} {t:Tree} {n:Rn} (h:Tie w D t n):n.i=t.i:=by cases t;rw[Tie] at h;exact h.2.1
theorem Tie.j {w:World} {D:Nat→Prop} {t:Tree} {n:Rn} (h:Tie w D t n):n.j=t.j:=by cases t;rw[Tie] at h;exact h.2.2.1
theorem tie_leaf (w:World) (D:Nat→Prop) (t:Tk):Tie w D t.tree (leaf t):=by
 rw[Tk.tree,Tie]
 exact⟨rfl,rfl,rfl,rfl,0,0,[],⟨Nat.le_refl _,by simp⟩,fun e=>absurd rfl e,fun j u h=>by simp [flat] at h,Ties.nil⟩
theorem tie_none (w:World) (D:Nat→Prop) (k i j:Int):Tie w D (.mk k i j []) ⟨k,i,j,none,0,0⟩:=by
 rw[Tie]
 exact⟨rfl,rfl,rfl,rfl,0,0,[],⟨Nat.le_refl _,by simp⟩,fun e=>absurd rfl e,fun j u h=>by simp [flat] at h,Ties.nil⟩
theorem ties_leaves (w:World) (D:Nat→Prop):∀ l:List Tk,Ties w D (l.map Tk.tree) (l.map leaf)
 |[]=>Ties.nil
 |t::l=>Ties.cons (tie_leaf w D t) (ties_leaves w D l)
structure Keep where
 W:World
 K:Nat→Prop
structure Own (C:Keep) (w:World) (b:Nat) (vR vH:Value) (D:Nat→Prop):Prop where
 os:w.os=C.W.os
 tape:w.tape=C.W.tape
 output:w.output=C.W.output
 size:C.W.heap.size≤w.heap.size
 kept:∀ k,C.K k→k<C.W.heap.size∧k≠b∧vR.ownBlock≠some k∧vH.ownBlock≠some k∧w.heap[k]? = C.W.heap[k]?
 dead:∀ k,D k→k<w.heap.size∧k≠b∧vR.ownBlock≠some k∧vH.ownBlock≠some k∧∃ cur fz,w.heap[k]? = some (.cells cur nd.e fz)
theorem Own.step {C:Keep} {w w':World} {b:Nat} {vR vH vR' vH':Value} {D:Nat→Prop} (h:Own C w b vR vH D) (hn:Nx w b vR vH w' vR' vH'):Own C w' b vR' vH' D where
 os:=hn.os.trans h.os
 tape:=hn.tape.trans h.tape
 output:=hn.output.trans h.output
 size:=Nat.le_trans h.size hn.size
 kept k hk:=by
  obtain⟨h1,h2,h3,h4,h5⟩:=h.kept k hk
  have hz:=h.size
  refine⟨h1,h2,fun e=>?_,fun e=>?_,(hn.block k (by omega) h2 h3 h4).trans h5⟩
  ·rcases hn.newR k e with e|e
   ·exact h3 e
   ·omega
  ·rcases hn.newH k e with e|e
   ·exact h4 e
   ·omega
 dead k hk:=by
  obtain⟨h1,h2,h3,h4,h5⟩:=h.dead k hk
  have hz:=hn.size
  refine⟨by omega,h2,fun e=>?_,fun e=>?_,by rw[hn.block k h1 h2 h3 h4];exact h5⟩
  ·rcases hn.newR k e with e|e
   ·exact h3 e
   ·omega
  ·rcases hn.newH k e with e|e
   ·exact h4 e
   ·omega
theorem Own.ties {C:Keep} {w w':World} {b:Nat} {vR vH vR' vH':Value} {D:Nat→Prop} (h:Own C w b vR vH D) (hn:Nx w b vR vH w' vR' vH') {l:List Tree} {R:List Rn} (ht:Ties w D l R):Ties w' D l R:=
 Ties.keep (fun g hg=>by obtain⟨h1,h2,h3,h4,_⟩:=h.dead g hg;exact hn.block g h1 h2 h3 h4) (fun _ h=>h) l R ht
def Is (w:World) (D:Nat→Prop) (σ:Rd):Res→Prop
 |.ok s=>σ.failed=false∧σ.L=s.L∧σ.at'=s.at'∧Ties w D s.R σ.R∧σ.H=s.H∧σ.op=s.op∧s.H.length=s.R.length∧(∀ x∈s.H,0≤x∧x≤100)∧s.op≤100∧s.R.length+s.L.length≤549755813888
 |.fail a b c=>σ.failed=true∧σ.d0=a∧σ.d1=b∧σ.d2=c∧σ.H.length=σ.R.length∧σ.op≤100∧σ.R.length+σ.L.length≤549755813889
def At (C:Keep) (w:World) (b:Nat) (x:Res):Prop:=∃ vL vR vH σ D,RdAt w b vL vR vH σ∧Own C w b vR vH D∧Is w D σ x
def Post (C:Keep) (b:Nat) (y:Res) (e:Ending) (w':World):Prop:=∃ v,e=.returned v∧Hid (At C w' b y)
def PostB (C:Keep) (b:Nat) (y:Res) (t:Bool) (e:Ending) (w':World):Prop:=e=.returned (.bool t)∧Hid (At C w' b y)
section
variable {C:Keep} {w:World} {b:Nat} {x y:Res}
theorem chk_ok {s:St} {y:Res} (h:chk (.ok s)=some y):y=.ok s∧s.R.length+s.L.length≤549755813888:=by
 unfold chk at h
 simp only[] at h
 split at h
 ·exact⟨(Option.some.inj h).symm,by assumption⟩
 ·cases h
theorem chk_fail {a b c:Int} {y:Res} (h:chk (.fail a b c)=some y):y=.fail a b c:=(Option.some.inj h).symm
theorem kind_at (h:Hid (At C w b x)):Calls Tryz.prog 58 #[.pointer (some ⟨b,0,none⟩)] w fun e w'=>e=.returned (.int .i64 x.kind)∧w=w':=by
 obtain⟨vL,vR,vH,σ,D,hr,_,hi⟩:=h.out
 refine(kind_any hr).mono ?_
 rintro e w' ⟨rfl,rfl⟩
 refine⟨?_,rfl⟩
 cases x with
 |fail=>rw[Rd.ahead_failed hi.1];rfl
 |ok s=>
  obtain⟨h1,h2,h3,_⟩:=hi
  unfold Rd.ahead Rd.next
  rw[h1,h2,h3]
  rfl
theorem ahead_at (h:Hid (At C w b x)) (n:Nat) (hn:n≤4611686018427387904):Calls Tryz.prog 60 #[.pointer (some ⟨b,0,none⟩),.int .i64 (n:Int)] w fun e w'=>e=.returned (.int .i64 (x.ahead n))∧w=w':=by
 obtain⟨vL,vR,vH,σ,D,hr,_,hi⟩:=h.out
 refine(ahead_any hr n hn).mono ?_
 rintro e w' ⟨rfl,rfl⟩
 refine⟨?_,rfl⟩
 cases x with
 |fail=>rw[Rd.ahead_failed hi.1];rfl
 |ok s=>
  obtain⟨h1,h2,h3,_⟩:=hi
  unfold Rd.ahead Rd.next
  rw[h1,h2,h3]
  rfl
theorem mark_at {s:St} (h:Hid (At C w b (.ok s))):Calls Tryz.prog 62 #[.pointer (some ⟨b,0,none⟩)] w fun e w'=>e=.returned (.int .i64 (s.R.length:Int))∧w=w':=by
 obtain⟨vL,vR,vH,σ,D,hr,_,hi⟩:=h.out
 refine(mark_any hr).mono ?_
 rintro e w' ⟨rfl,rfl⟩
 obtain⟨_,_,_,h4,_⟩:=hi
 exact⟨by rw[h4.length],rfl⟩
theorem mark_bad {d0 d1 d2:Int} (h:Hid (At C w b (.fail d0 d1 d2))):Calls Tryz.prog 62 #[.pointer (some ⟨b,0,none⟩)] w fun e w'=>(∃ v:Int,e=.returned (.int .i64 v))∧w=w':=by
 obtain⟨vL,vR,vH,σ,D,hr,_,hi⟩:=h.out
 refine(mark_any hr).mono ?_
 rintro e w' ⟨rfl,rfl⟩
 exact⟨⟨_,rfl⟩,rfl⟩
theorem At.alloc (h:Hid (At C w b x)) (o:Obj):Hid (At C (w.alloc o) b x):=by
 obtain⟨vL,vR,vH,σ,D,hr,ho,hi⟩:=h.out
 have hb:Below w.heap.size w (w.alloc o):=(Below.refl _ _).alloc (Nat.le_refl _) _
 have hn:Nx w b vR vH (w.alloc o) vR vH:=Nx.below hb
 refine Lib.hid ⟨vL,vR,vH,σ,D,hr.below hb,ho.step hn,?_⟩
 cases x with
 |fail=>exact hi
 |ok s=>
  obtain⟨h1,h2,h3,h4,h5⟩:=hi
  exact⟨h1,h2,h3,ho.ties hn h4,h5⟩
def Res.comes (x:Res) (K:List Int):Bool:=K.any fun k=>x.kind == k && x.kind != 0
theorem comes_at (h:Hid (At C w b x)) (K:List Int) (hK:K.length≤1024):Calls Tryz.prog 95 #[.pointer (some ⟨b,0,none⟩),.slice (some ⟨w.heap.size,0,none⟩) K.length K.length] (w.alloc (.cells (flat it K).toArray 3)) fun e w'=>e=.returned (.bool (x.comes K))∧Hid (At C w' b x):=by
 have h':=At.alloc h (.cells (flat it K).toArray 3)
 obtain⟨vL,vR,vH,σ,D,hr,_,hi⟩:=h'.out
 refine(comes_any hr _ K (Row.new (F:=it) w K) hK).mono ?_
 rintro e w' ⟨rfl,rfl⟩
 refine⟨?_,h'⟩
 have:σ.ahead 0=x.kind:=by
  cases x with
  |fail=>rw[Rd.ahead_failed hi.1];rfl
  |ok s=>
   obtain⟨h1,h2,h3,_⟩:=hi
   unfold Rd.ahead Rd.next
   rw[h1,h2,h3]
   rfl
 unfold Rd.comes Res.comes
 rw[this]
end
end Go.Proofs.YtmelbeefjgjdhaaGreat.rd
