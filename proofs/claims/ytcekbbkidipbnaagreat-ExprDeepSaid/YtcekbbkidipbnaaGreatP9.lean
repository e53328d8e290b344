/-
  Texts put together: Num, Esc, EscAt, Append, Unq, Raw, Rune.
-/
import Derived.Test.YtcekbbkidipbnaaGreatP7
import Derived.Lib.RuneBytes
import Derived.Lib.LaidU8
import Derived.BigQuiet
import Derived.Deep.QuietTactic
set_option maxRecDepth 100000
set_option maxHeartbeats 8000000
namespace Go.Proofs.YtcekbbkidipbnaaGreat.tok
open Go.RowKit
def nStep (base:Int):Option Int→UInt8→Option Int
 |none,_=>none
 |some n,c=>if isDig base c then some (n*base+digZ (c.toNat:Int) 16) else none
def nTo (base:Int) (l:List UInt8) (k:Nat):Option Int:=(l.take k).foldl (nStep base) (some 0)
def numAt (l:List UInt8) (i count:Nat) (base:Int):Option Int:=if i+count≤l.length then nTo base (l.drop i) count else none
theorem ziT {base:Int} {l:List UInt8} {i k:Nat} (h:i+k<l.length):nTo base (l.drop i) (k+1)=nStep base (nTo base (l.drop i) k) l[i+k]:=by
 unfold nTo
 rw[List.take_succ_eq_append_getElem zdR,List.foldl_append,List.getElem_drop]
 rfl
theorem zoD {base:Int} {l:List UInt8} {i k count:Nat} (hc:i+count≤l.length) (hk:k≤count) (h:nTo base (l.drop i) k=none):nTo base (l.drop i) count=none:=by
 have all:∀ n,k+n≤count→nTo base (l.drop i) (k+n)=none:=by
  intro n
  induction n with
  |zero=>intro _;exact h
  |succ n ih=>
   intro hn
   rw[← Nat.add_assoc,ziT zdC,ih zdC]
   rfl
 have:=all (count - k) zdC
 rwa [show k+(count - k)=count by omega] at this
theorem zpj {base:Int} {c:UInt8} (h:isDig base c=true):0≤digZ (c.toNat:Int) 16∧digZ (c.toNat:Int) 16<base:=⟨(zjN _ 16 zdC).1,of_decide_eq_true h⟩
theorem zkW {base:Int} (hb0:0≤base) (hb:base≤16) {l:List UInt8} {i:Nat}:∀ k n,i+k≤l.length→nTo base (l.drop i) k=some n→0≤n∧n<16 ^ k:=by
 intro k
 induction k with
 |zero=>intro n _ h;simp [nTo] at h;omega
 |succ k ih=>
  intro n hk h
  rw[ziT zdC] at h
  cases hp:nTo base (l.drop i) k with
  |none=>rw[hp] at h;cases h
  |some p=>
   have hi:=ih p zdC hp
   rw[hp] at h
   simp only[nStep] at h
   split at h
   ·next g=>
    have hd:=zpj g
    have e:=Option.some.inj h
    have h1:0≤p*base:=Int.mul_nonneg hi.1 hb0
    have h2:p*base≤p*16:=Int.mul_le_mul_of_nonneg_left hb hi.1
    rw[Int.pow_succ]
    omega
   ·cases h
theorem zgV (k:Nat) (h:k≤8):(16:Int) ^ k≤4294967296:=by
 have:∀ j:Fin 9,(16:Int) ^ j.val≤4294967296:=by decide
 exact this ⟨k,by omega⟩
def numM (o:Option Int):Int:=match o with
 |some v=>v
 |none=>-1
def NumMPost (o:Option Int) (w:World) (e:Ending) (w':World):Prop:=e=.returned (.int .i64 (numM o))∧w=w'
theorem zpX (s:ByteArray) (i count:Nat) (w:World) (hs:s.size≤140737488355328) (hi:i≤140737488355338) (hc:count≤8) :
  Calls Tryz.prog 191 #[.string s,.int .i64 i,.int .i64 count,.int .i64 8] w (NumMPost (numAt s.data.toList i count 8) w):=by
 have hsd:=sdata s
 by_cases hin:i+count≤s.size
 ·have hd0:decide ((s.size:Int)<(i:Int)+(count:Int))=false:=decide_eq_false zdC
  have HA:Hid (numAt s.data.toList i count 8=nTo 8 (s.data.toList.drop i) count):=Lib.hid (by rw[numAt,if_pos zdC])
  have HD:=Lib.hid hsd
  clear hsd
  go_enter Tryz.func191,Tryz.ntmps191
  go_wp2_with fail
  go_loop [9,10] (fun n j=>∃ (k:Nat) (v:Int),k≤count∧j=.int .i64 ((i+k:Nat):Int)∧n=.int .i64 v∧nTo 8 (s.data.toList.drop i) k=some v) (fun _ j=>i+count - (intOf j).toNat)
  case atStart=>exact⟨0,0,by omega,rfl,rfl,rfl⟩
  case round=>
   obtain⟨k,v,hk,rfl,rfl,hv⟩:=hrel
   have hvb:=zkW (base:=8) zdC zdC k v zdS hv
   have hp8:=zgV k zdC
   have hv0:0≤v:=hvb.1
   have hv1:v<4294967296:=by omega
   have HV:=Lib.hid hv
   clear hv hvb hp8
   by_cases hlt:k<count
   ·have hik:i+k<s.size:=by omega
    have HN:=Lib.hid (ziT (base:=8) (l:=s.data.toList) (i:=i) (k:=k) zdS)
    obtain⟨j,hj⟩:∃ j,i+k=j:=⟨_,rfl⟩
    obtain⟨c,hc'⟩:∃ c,s[i+k]'hik=c:=⟨_,rfl⟩
    rw[zfY hik,hc',HV.out] at HN
    have hix:∀ u:World,(Instr.index 9 (.string s) (.int .i64 (j:Int))).run Tryz.prog u=.ok (.int .u8 (c.toNat:Int)) u:=fun u=>by
     rw[← hc'];exact zfJ s _ (i+k) zdC hik u
    rw[hj]
    have hj1:j<i+count:=by omega
    have hj2:j<s.size:=by omega
    have HJ:=Lib.hid hj
    have hd1:decide ((j:Int)<(i:Int)+(count:Int))=true:=decide_eq_true zdC
    clear hj
    have hc0:(0:Int)≤(c.toNat:Int):=by omega
    have hc1:(c.toNat:Int)≤255:=by have:=UInt8.toNat_lt c;omega
    obtain⟨z,hz⟩:∃ z,digZ (c.toNat:Int) 99=z:=⟨_,rfl⟩
    have hzb:=zjN (c.toNat:Int) 99 zdC
    have HZ:=Lib.hid hz
    have HI:Hid (isDig 8 c=decide (z<8)):=Lib.hid (by rw[isDig,← hz];exact decide_eq_decide.2 (zmS _ 16 99 8 zdC zdC zdC))
    have HS:Hid (z<16→digZ (c.toNat:Int) 16=z):=Lib.hid (fun g=>by rw[← hz] at g ⊢;exact(znp _ 99 16 g zdC).symm)
    rw[hz] at hzb
    have hz0:0≤z:=hzb.1
    have hz1:z≤99:=by omega
    clear hz hzb hc'
    by_cases hdig:z<8
    ·have hdd:decide ((8:Int)≤z)=false:=decide_eq_false zdC
     have HR:Hid (nTo 8 (s.data.toList.drop i) (k+1)=some (v*8+z)):=Lib.hid zdT
     exact zbR
    ·have hdd:decide ((8:Int)≤z)=true:=decide_eq_true zdC
     have HR:Hid (numAt s.data.toList i count 8=none):=Lib.hid (by
      exact zcN)
     exact zcA
   ·obtain rfl:k=count:=by omega
    have HR:Hid (numAt s.data.toList i k 8=some v):=Lib.hid (by rw[HA.out,HV.out])
    exact zcK
 ·have hd0:decide ((s.size:Int)<(i:Int)+(count:Int))=true:=decide_eq_true zdC
  have HA:Hid (numAt s.data.toList i count 8=none):=Lib.hid (by rw[numAt,if_neg zdC])
  exact zdq
theorem zov (s:ByteArray) (i count:Nat) (w:World) (hs:s.size≤140737488355328) (hi:i≤140737488355338) (hc:count≤8) :
  Calls Tryz.prog 191 #[.string s,.int .i64 i,.int .i64 count,.int .i64 16] w (NumMPost (numAt s.data.toList i count 16) w):=by
 have hsd:=sdata s
 by_cases hin:i+count≤s.size
 ·have hd0:decide ((s.size:Int)<(i:Int)+(count:Int))=false:=decide_eq_false zdC
  have HA:Hid (numAt s.data.toList i count 16=nTo 16 (s.data.toList.drop i) count):=Lib.hid (by rw[numAt,if_pos zdC])
  have HD:=Lib.hid hsd
  clear hsd
  go_enter Tryz.func191,Tryz.ntmps191
  go_wp2_with fail
  go_loop [9,10] (fun n j=>∃ (k:Nat) (v:Int),k≤count∧j=.int .i64 ((i+k:Nat):Int)∧n=.int .i64 v∧nTo 16 (s.data.toList.drop i) k=some v) (fun _ j=>i+count - (intOf j).toNat)
  case atStart=>exact⟨0,0,by omega,rfl,rfl,rfl⟩
  case round=>
   obtain⟨k,v,hk,rfl,rfl,hv⟩:=hrel
   have hvb:=zkW (base:=16) zdC zdC k v zdS hv
   have hp8:=zgV k zdC
   have hv0:0≤v:=hvb.1
   have hv1:v<4294967296:=by omega
   have HV:=Lib.hid hv
   clear hv hvb hp8
   by_cases hlt:k<count
   ·have hik:i+k<s.size:=by omega
    have HN:=Lib.hid (ziT (base:=16) (l:=s.data.toList) (i:=i) (k:=k) zdS)
    obtain⟨j,hj⟩:∃ j,i+k=j:=⟨_,rfl⟩
    obtain⟨c,hc'⟩:∃ c,s[i+k]'hik=c:=⟨_,rfl⟩
    rw[zfY hik,hc',HV.out] at HN
    have hix:∀ u:World,(Instr.index 9 (.string s) (.int .i64 (j:Int))).run Tryz.prog u=.ok (.int .u8 (c.toNat:Int)) u:=fun u=>by
     rw[← hc'];exact zfJ s _ (i+k) zdC hik u
    rw[hj]
    have hj1:j<i+count:=by omega
    have hj2:j<s.size:=by omega
    have HJ:=Lib.hid hj
    have hd1:decide ((j:Int)<(i:Int)+(count:Int))=true:=decide_eq_true zdC
    clear hj
    have hc0:(0:Int)≤(c.toNat:Int):=by omega
    have hc1:(c.toNat:Int)≤255:=by have:=UInt8.toNat_lt c;omega
    obtain⟨z,hz⟩:∃ z,digZ (c.toNat:Int) 99=z:=⟨_,rfl⟩
    have hzb:=zjN (c.toNat:Int) 99 zdC
    have HZ:=Lib.hid hz
    have HI:Hid (isDig 16 c=decide (z<16)):=Lib.hid (by rw[isDig,← hz];exact decide_eq_decide.2 (zmS _ 16 99 16 zdC zdC zdC))
    have HS:Hid (z<16→digZ (c.toNat:Int) 16=z):=Lib.hid (fun g=>by rw[← hz] at g ⊢;exact(znp _ 99 16 g zdC).symm)
    rw[hz] at hzb
    have hz0:0≤z:=hzb.1
    have hz1:z≤99:=by omega
    clear hz hzb hc'
    by_cases hdig:z<16
    ·have hdd:decide ((16:Int)≤z)=false:=decide_eq_false zdC
     have HR:Hid (nTo 16 (s.data.toList.drop i) (k+1)=some (v*16+z)):=Lib.hid zdT
     exact zbR
    ·have hdd:decide ((16:Int)≤z)=true:=decide_eq_true zdC
     have HR:Hid (numAt s.data.toList i count 16=none):=Lib.hid (by
      exact zcN)
     exact zcA
   ·obtain rfl:k=count:=by omega
    have HR:Hid (numAt s.data.toList i k 16=some v):=Lib.hid (by rw[HA.out,HV.out])
    exact zcK
 ·have hd0:decide ((s.size:Int)<(i:Int)+(count:Int))=true:=decide_eq_true zdC
  have HA:Hid (numAt s.data.toList i count 16=none):=Lib.hid (by rw[numAt,if_neg zdC])
  exact zdq
open Go.RowKit
abbrev Esc:=Int × Bool × Nat
def byteE (l:List UInt8) (i ahead count:Nat) (base:Int):Esc:=match numAt l (i+ahead) count base with
 |some n=>if 255<n then(0,false,0) else(n,false,ahead+count)
 |none=>(0,false,0)
def runeE (l:List UInt8) (i count:Nat):Esc:=match numAt l (i+2) count 16 with
 |some n=>if 1114111<n then(0,false,0) else if Lib.validRune n then(n,true,2+count) else(0,false,0)
 |none=>(0,false,0)
def signE (c q:UInt8):Esc:=
 if c=97 then(7,false,2) else if c=98 then(8,false,2) else if c=102 then(12,false,2) else if c=110 then(10,false,2) else if c=114 then(13,false,2)
 else if c=116 then(9,false,2) else if c=118 then(11,false,2) else if c=92∨c=q then(c.toNat,false,2) else(0,false,0)
def escV (l:List UInt8) (i:Nat) (q:UInt8):Esc:=match l[i+1]? with
 |none=>(0,false,0)
 |some c=>if c=120 then byteE l i 2 2 16 else if c=117 then runeE l i 4 else if c=85 then runeE l i 8
  else if c=48∨c=49∨c=50∨c=51∨c=52∨c=53∨c=54∨c=55 then byteE l i 1 3 8 else signE c q
theorem zfW {l:List UInt8} {i count:Nat} {base n:Int} (hb0:0≤base) (hb:base≤16) (h:numAt l i count base=some n):i+count≤l.length∧0≤n∧n<16 ^ count:=by
 unfold numAt at h
 split at h
 ·next g=>exact⟨g,zkW hb0 hb _ _ g h⟩
 ·cases h
open Go.RowKit
theorem bcell {W w1:World} (hb:Below W.heap.size W w1):(∀ b o,b<W.heap.size→w1.cell? ⟨b,o,none⟩=W.cell? ⟨b,o,none⟩)∧(∀ b o,b<W.heap.size→w1.frozen? ⟨b,o,none⟩=W.frozen? ⟨b,o,none⟩):=
 ⟨fun b o h=>hb.cell (p:=⟨b,o,none⟩) h,fun b o h=>hb.frozen (p:=⟨b,o,none⟩) h⟩
theorem zns {l:List UInt8} {i:Nat} {q:UInt8} (h:l.length≤i+1):escV l i q=(0,false,0):=by
 unfold escV
 rw[List.getElem?_eq_none h]
theorem zjx {l:List UInt8} {i:Nat} {q c:UInt8} (h:l[i+1]? = some c):escV l i q=if c=120 then byteE l i 2 2 16 else if c=117 then runeE l i 4 else if c=85 then runeE l i 8
  else if c=48∨c=49∨c=50∨c=51∨c=52∨c=53∨c=54∨c=55 then byteE l i 1 3 8 else signE c q:=by
 unfold escV
 rw[h]
open Go.RowKit
def escB (v:Esc):List UInt8:=if v.2.1 then Lib.encodeRune v.1 else[v.1.toNat.toUInt8]
def EscOk (v:Esc):Prop:=(v.2.1=true→0≤v.1∧v.1≤1114111)∧(v.2.1=false→0≤v.1∧v.1≤255)
open Go.RowKit
theorem zwf:EscOk (0,false,0):=⟨fun h=>(by cases h),fun _=>⟨by decide,by decide⟩⟩
theorem zmB (v:Esc):(escB v).length≤4∧(v.2.1=false→(escB v).length=1):=by
 unfold escB
 split
 ·next h=>exact⟨by rw[← Lib.runeCells_length];exact(Lib.runeCells_le _).2,fun g=>by rw[g] at h;cases h⟩
 ·exact⟨by simp,fun _=>by simp⟩
def EscFit (l:List UInt8) (i:Nat) (v:Esc):Prop:=EscOk v∧(v.2.2≠0→i+v.2.2≤l.length∧2≤v.2.2∧(escB v).length≤v.2.2)
theorem zhV (l:List UInt8) (i:Nat):EscFit l i (0,false,0):=⟨zwf,fun h=>absurd rfl h⟩
theorem znx {l:List UInt8} {i ahead count:Nat} {base:Int} (hb0:0≤base) (hb:base≤16) (hw:2≤ahead+count):EscFit l i (byteE l i ahead count base):=by
 unfold byteE
 cases h:numAt l (i+ahead) count base with
 |none=>exact zhV l i
 |some n=>
  obtain⟨h1,h2,_⟩:=zfW hb0 hb h
  simp only[]
  by_cases g:255<n
  ·rw[if_pos g];exact zhV l i
  ·rw[if_neg g]
   refine⟨⟨fun h=>(by cases h),fun _=>⟨h2,by simp only[];omega⟩⟩,fun _=>⟨by simp only[];omega,hw,?_⟩⟩
   rw[(zmB _).2 rfl]
   simp only[];omega
theorem znL {l:List UInt8} {i count:Nat} (hw:4≤count):EscFit l i (runeE l i count):=by
 unfold runeE
 cases h:numAt l (i+2) count 16 with
 |none=>exact zhV l i
 |some n=>
  obtain⟨h1,h2,_⟩:=zfW zdC zdC h
  simp only[]
  by_cases g:1114111<n
  ·rw[if_pos g];exact zhV l i
  ·rw[if_neg g]
   cases hv:Lib.validRune n with
   |false=>exact zhV l i
   |true=>
    refine⟨⟨fun _=>⟨h2,by show n≤_;omega⟩,fun h=>(by cases h)⟩,fun _=>⟨by show i+(2+count)≤_;omega,by show 2≤2+count;omega,?_⟩⟩
    have:=(zmB (n,true,2+count)).1
    show _≤2+count
    exact Nat.le_trans this zdC
theorem ztR {l:List UInt8} {i:Nat} {c q:UInt8} (h:i+2≤l.length):EscFit l i (signE c q):=by
 have two:∀ n:Int,0≤n→n≤255→EscFit l i (n,false,2):=fun n h0 h1=>
  ⟨⟨fun h=>(by cases h),fun _=>⟨h0,h1⟩⟩,fun _=>⟨h,Nat.le_refl _,by rw[(zmB _).2 rfl];simp⟩⟩
 unfold signE
 repeat' split
 all_goals first|exact two _ zdC (by have:=UInt8.toNat_lt c;omega)|exact zhV l i
theorem zkh (l:List UInt8) (i:Nat) (q:UInt8):EscFit l i (escV l i q):=by
 cases h:l[i+1]? with
 |none=>rw[zns zdJ];exact zhV l i
 |some c=>
  have hl:i+1<l.length:=(List.getElem?_eq_some_iff.1 h).1
  rw[zjx h]
  repeat' split
  ·exact znx zdC zdC zdC
  ·exact znL zdC
  ·exact znL zdC
  ·exact znx zdC zdC zdC
  ·exact ztR zdC
def uq (l:List UInt8):Nat→Nat→List UInt8→List UInt8 × Int × Nat
 |0,_,_=>([],106,0)
 |f+1,p,acc=>match l[p]? with
  |none=>([],106,0)
  |some c=>
   if c=92 then(if (escV l p 34).2.2=0 then([],108,p) else uq l f (p+(escV l p 34).2.2) (acc ++ escB (escV l p 34)))
   else if c=34 then(if p+1=l.length then(acc,0,0) else([],106,0))
   else if c=10 then([],106,0) else uq l f (p+1) (acc ++ [c])
theorem zjU {l:List UInt8} {f p:Nat} {acc:List UInt8} (h:l.length≤p):uq l f p acc=([],106,0):=by
 cases f with
 |zero=>rfl
 |succ f=>rw[uq,List.getElem?_eq_none h]
theorem zmO {l:List UInt8}:∀ (f g p:Nat) (acc:List UInt8),l.length - p≤f→l.length - p≤g→uq l f p acc=uq l g p acc:=by
 intro f
 induction f with
 |zero=>
  intro g p acc h _
  rw[zjU (f:=0) zdC,zjU zdC]
 |succ f ih=>
  intro g p acc hf hg
  by_cases hp:l.length≤p
  ·rw[zjU hp,zjU hp]
  ·obtain⟨g,rfl⟩:∃ k,g=k+1:=⟨g - 1,by omega⟩
   rw[uq,uq,List.getElem?_eq_getElem zdC]
   simp only[]
   split
   ·split
    ·rfl
    ·next h0=>
     have:=(zkh l p 34).2 h0
     exact ih g _ _ zdC zdC
   ·split
    ·rfl
    ·split
     ·rfl
     ·exact ih g _ _ zdC zdC
def uqAt (l:List UInt8) (p:Nat) (acc:List UInt8):List UInt8 × Int × Nat:=uq l (l.length - p) p acc
theorem ziG {l:List UInt8} {p:Nat} {acc:List UInt8} (h:l.length≤p):uqAt l p acc=([],106,0):=zjU h
theorem zkL {l:List UInt8} {p:Nat} {acc:List UInt8} (h:p<l.length):uqAt l p acc =
  if l[p]=92 then(if (escV l p 34).2.2=0 then([],108,p) else uqAt l (p+(escV l p 34).2.2) (acc ++ escB (escV l p 34)))
  else if l[p]=34 then(if p+1=l.length then(acc,0,0) else([],106,0))
  else if l[p]=10 then([],106,0) else uqAt l (p+1) (acc ++ [l[p]]):=by
 have e:uqAt l p acc=uq l ((l.length - p - 1)+1) p acc:=zmO _ _ _ _ zdC zdC
 rw[e,uq,List.getElem?_eq_getElem h]
 simp only[]
 split
 ·split
  ·rfl
  ·next h0=>
   have:=(zkh l p 34).2 h0
   exact zmO _ _ _ _ zdC zdC
 ·split
  ·rfl
  ·split
   ·rfl
   ·exact zmO _ _ _ _ zdC zdC
def UnqPost (v:List UInt8 × Int × Nat) (w:World) (e:Ending) (w':World):Prop:=e=.returned (.tuple #[.string (B v.1),.int .i64 v.2.1,.int .i64 v.2.2])∧Below w.heap.size w w'
open Go.RowKit
def noCR (l:List UInt8):List UInt8:=l.filter (fun c=>c != 13)
theorem zgp (s:ByteArray) (n:Nat) (z:Int) (hz:z=(n:Int)) (h:n≤s.size) (u:World) :
  (Instr.slice 9 (.string s) none (some (.int .i64 z)) none).run Tryz.prog u=.ok (.string (B (s.data.toList.take n))) u:=by
 subst hz
 have e:s.extract 0 n=B (s.data.toList.take n):=by rw[zgZ];rfl
 rw[← e]
 exact run_slice_string_h (P:=Tryz.prog) (w:=u) (t:=9) (s:=s) (ht:=Tryz.underlying9) .i64 (n:Int) zdC zdC
def rawOf (l:List UInt8):List UInt8 × Int × Nat:=
 if 0≤Lib.indexByte (l.drop 1) 96∧Lib.indexByte (l.drop 1) 96=((l.drop 1).length:Int) - 1 then(noCR ((l.drop 1).take ((l.drop 1).length - 1)),0,0) else([],106,0)
def unqOf (l:List UInt8):List UInt8 × Int × Nat:=if Lib.hasPrefix l [96] then rawOf l else if Lib.hasPrefix l [34] then uqAt l 1 [] else([],106,0)
open Go.RowKit
def charL (x:List UInt8):Nat × Nat:=if (Lib.decodeGo (B x)).1=65533∧(Lib.decodeGo (B x)).2<2 then(0,0) else Lib.decodeGo (B x)
theorem ztC (s:ByteArray):(Lib.decodeGo s).1≤1114111∧(Lib.decodeGo s).2≤s.size∧(Lib.decodeGo s).2≤4:=by
 unfold Lib.decodeGo
 split
 ·exact⟨by decide,Nat.zero_le _,by decide⟩
 ·next h=>
  rw[Lib.decode_at]
  have b0:=UInt8.toNat_lt (s.get! 0)
  have b1:=UInt8.toNat_lt (s.get! (0+1))
  have b2:=UInt8.toNat_lt (s.get! (0+2))
  have b3:=UInt8.toNat_lt (s.get! (0+3))
  unfold Lib.decodeN
  repeat' split
  all_goals(simp only;omega)
theorem zom (x:List UInt8):(charL x).1≤1114111∧(charL x).2≤x.length∧(charL x).2≤4:=by
 unfold charL
 split
 ·exact⟨by decide,Nat.zero_le _,by decide⟩
 ·have:=ztC (B x)
  rw[bsize] at this
  exact this
def finOf (l:List UInt8) (u:Int) (n:Nat):Int × Int × Nat:=if n=0∨l.drop (1+n)≠[39] then(0,107,0) else(u,0,0)
def runeOf (l:List UInt8):Int × Int × Nat:=match l with
 |a::c::_=>if a=39 then
   (if c=92 then(if (escV l 1 39).2.2=0 then(0,108,1) else finOf l (escV l 1 39).1 (escV l 1 39).2.2)
    else if c=39∨c=10 then(0,107,0) else finOf l ((charL (l.drop 1)).1:Nat) (charL (l.drop 1)).2)
  else(0,107,0)
 |_=>(0,107,0)
theorem zjX {l:List UInt8} (h:l.length<2):runeOf l=(0,107,0):=by
 match l,h with
 |[],_=>rfl
 |[_],_=>rfl
theorem zkK {l:List UInt8} (h:1<l.length):runeOf l=if l[0]=39 then
   (if l[1]=92 then(if (escV l 1 39).2.2=0 then(0,108,1) else finOf l (escV l 1 39).1 (escV l 1 39).2.2)
    else if l[1]=39∨l[1]=10 then(0,107,0) else finOf l ((charL (l.drop 1)).1:Nat) (charL (l.drop 1)).2)
  else(0,107,0):=by
 match l,h with
 |a::c::_,_=>rfl
def Runed (v:Int × Int × Nat) (w:World) (e:Ending) (w':World):Prop:=e=.returned (.tuple #[.int .i64 v.1,.int .i64 v.2.1,.int .i64 v.2.2])∧Below w.heap.size w w'
end Go.Proofs.YtcekbbkidipbnaaGreat.tok
