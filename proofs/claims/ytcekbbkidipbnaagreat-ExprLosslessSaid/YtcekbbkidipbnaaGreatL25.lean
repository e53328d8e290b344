/-
  Texts put together: Num, Esc, EscAt, Append, Unq, Raw, Rune.
-/
import Derived.Test.YtcekbbkidipbnaaGreatL23
import Derived.Lib.RuneBytes
import Derived.Lib.LaidU8
import Derived.BigQuiet
import Derived.Deep.QuietTactic
set_option maxRecDepth 100000
set_option maxHeartbeats 8000000
namespace Go.Proofs.YtcekbbkidipbnaaGreat.tok
open Go.RowKit
def nStep (base:Int):Option Int→UInt8→Option Int
 |none,_=>none
 |some n,c=>if isDig base c then some (n*base+digZ (c.toNat:Int) 16) else none
def nTo (base:Int) (l:List UInt8) (k:Nat):Option Int:=(l.take k).foldl (nStep base) (some 0)
def numAt (l:List UInt8) (i count:Nat) (base:Int):Option Int:=if i+count≤l.length then nTo base (l.drop i) count else none
theorem nTo_succ {base:Int} {l:List UInt8} {i k:Nat} (h:i+k<l.length):nTo base (l.drop i) (k+1)=nStep base (nTo base (l.drop i) k) l[i+k]:=by
 unfold nTo
 rw[List.take_succ_eq_append_getElem (by rw[List.length_drop];omega),List.foldl_append,List.getElem_drop]
 rfl
theorem nTo_none {base:Int} {l:List UInt8} {i k count:Nat} (hc:i+count≤l.length) (hk:k≤count) (h:nTo base (l.drop i) k=none):nTo base (l.drop i) count=none:=by
 have all:∀ n,k+n≤count→nTo base (l.drop i) (k+n)=none:=by
  intro n
  induction n with
  |zero=>intro _;exact h
  |succ n ih=>
   intro hn
   rw[← Nat.add_assoc,nTo_succ (by omega),ih (by omega)]
   rfl
 have:=all (count - k) (by omega)
 rwa [show k+(count - k)=count by omega] at this
theorem isDig_bounds {base:Int} {c:UInt8} (h:isDig base c=true):0≤digZ (c.toNat:Int) 16∧digZ (c.toNat:Int) 16<base:=⟨(digZ_bounds _ 16 (by omega)).1,of_decide_eq_true h⟩
theorem nTo_bound {base:Int} (hb0:0≤base) (hb:base≤16) {l:List UInt8} {i:Nat}:∀ k n,i+k≤l.length→nTo base (l.drop i) k=some n→0≤n∧n<16 ^ k:=by
 intro k
 induction k with
 |zero=>intro n _ h;simp [nTo] at h;omega
 |succ k ih=>
  intro n hk h
  rw[nTo_succ (by omega)] at h
  cases hp:nTo base (l.drop i) k with
  |none=>rw[hp] at h;cases h
  |some p=>
   have hi:=ih p (by omega) hp
   rw[hp] at h
   simp only[nStep] at h
   split at h
   ·next g=>
    have hd:=isDig_bounds g
    have e:=Option.some.inj h
    have h1:0≤p*base:=Int.mul_nonneg hi.1 hb0
    have h2:p*base≤p*16:=Int.mul_le_mul_of_nonneg_left hb hi.1
    rw[Int.pow_succ]
    omega
   ·cases h
theorem pow_le8 (k:Nat) (h:k≤8):(16:Int) ^ k≤4294967296:=by
 have:∀ j:Fin 9,(16:Int) ^ j.val≤4294967296:=by decide
 exact this ⟨k,by omega⟩
def numM (o:Option Int):Int:=match o with
 |some v=>v
 |none=>-1
def NumMPost (o:Option Int) (w:World) (e:Ending) (w':World):Prop:=e=.returned (.int .i64 (numM o))∧w=w'
theorem refNumber_8 (s:ByteArray) (i count:Nat) (w:World) (hs:s.size≤140737488355328) (hi:i≤140737488355338) (hc:count≤8) :
  Calls Tryz.prog 191 #[.string s,.int .i64 i,.int .i64 count,.int .i64 8] w (NumMPost (numAt s.data.toList i count 8) w):=by
 have hsd:=sdata s
 by_cases hin:i+count≤s.size
 ·have hd0:decide ((s.size:Int)<(i:Int)+(count:Int))=false:=decide_eq_false (by omega)
  have HA:Hid (numAt s.data.toList i count 8=nTo 8 (s.data.toList.drop i) count):=Lib.hid (by rw[numAt,if_pos (by omega)])
  have HD:=Lib.hid hsd
  clear hsd
  go_enter Tryz.func191,Tryz.ntmps191
  go_wp2_with fail
  go_loop [9,10] (fun n j=>∃ (k:Nat) (v:Int),k≤count∧j=.int .i64 ((i+k:Nat):Int)∧n=.int .i64 v∧nTo 8 (s.data.toList.drop i) k=some v) (fun _ j=>i+count - (intOf j).toNat)
  case atStart=>exact⟨0,0,by omega,rfl,rfl,rfl⟩
  case round=>
   obtain⟨k,v,hk,rfl,rfl,hv⟩:=hrel
   have hvb:=nTo_bound (base:=8) (by omega) (by omega) k v (by have:=HD.out;omega) hv
   have hp8:=pow_le8 k (by omega)
   have hv0:0≤v:=hvb.1
   have hv1:v<4294967296:=by omega
   have HV:=Lib.hid hv
   clear hv hvb hp8
   by_cases hlt:k<count
   ·have hik:i+k<s.size:=by omega
    have HN:=Lib.hid (nTo_succ (base:=8) (l:=s.data.toList) (i:=i) (k:=k) (by have:=HD.out;omega))
    obtain⟨j,hj⟩:∃ j,i+k=j:=⟨_,rfl⟩
    obtain⟨c,hc'⟩:∃ c,s[i+k]'hik=c:=⟨_,rfl⟩
    rw[at_data hik,hc',HV.out] at HN
    have hix:∀ u:World,(Instr.index 9 (.string s) (.int .i64 (j:Int))).run Tryz.prog u=.ok (.int .u8 (c.toNat:Int)) u:=fun u=>by
     rw[← hc'];exact index_at s _ (i+k) (by omega) hik u
    rw[hj]
    have hj1:j<i+count:=by omega
    have hj2:j<s.size:=by omega
    have HJ:=Lib.hid hj
    have hd1:decide ((j:Int)<(i:Int)+(count:Int))=true:=decide_eq_true (by omega)
    clear hj
    have hc0:(0:Int)≤(c.toNat:Int):=by omega
    have hc1:(c.toNat:Int)≤255:=by have:=UInt8.toNat_lt c;omega
    obtain⟨z,hz⟩:∃ z,digZ (c.toNat:Int) 99=z:=⟨_,rfl⟩
    have hzb:=digZ_bounds (c.toNat:Int) 99 (by omega)
    have HZ:=Lib.hid hz
    have HI:Hid (isDig 8 c=decide (z<8)):=Lib.hid (by rw[isDig,← hz];exact decide_eq_decide.2 (digZ_lt _ 16 99 8 (by omega) (by omega) (by omega)))
    have HS:Hid (z<16→digZ (c.toNat:Int) 16=z):=Lib.hid (fun g=>by rw[← hz] at g ⊢;exact(digZ_same _ 99 16 g (by omega)).symm)
    rw[hz] at hzb
    have hz0:0≤z:=hzb.1
    have hz1:z≤99:=by omega
    clear hz hzb hc'
    by_cases hdig:z<8
    ·have hdd:decide ((8:Int)≤z)=false:=decide_eq_false (by omega)
     have HR:Hid (nTo 8 (s.data.toList.drop i) (k+1)=some (v*8+z)):=Lib.hid (by rw[HN.out,nStep,if_pos (by rw[HI.out];exact decide_eq_true hdig),HS.out (by omega)])
     clear HN
     go_wp2_with (go_at_call 184;refine(refDigit_any _ _ hc0 hc1).mono ?_;rintro e w' ⟨rfl,rfl⟩;rw[HZ.out])
     go_round
     case rel=>exact⟨k+1,_,by omega,by rw[show i+(k+1)=j+1 by have:=HJ.out;omega];go_num,rfl,HR.out⟩
     case measure=>simp [intOf];omega
    ·have hdd:decide ((8:Int)≤z)=true:=decide_eq_true (by omega)
     have HR:Hid (numAt s.data.toList i count 8=none):=Lib.hid (by
      rw[HA.out]
      exact nTo_none (by have:=HD.out;omega) (show k+1≤count by omega) (by rw[HN.out,nStep,if_neg (by rw[HI.out];simpa using hdig)]))
     clear HN
     go_wp2_with (go_at_call 184;refine(refDigit_any _ _ hc0 hc1).mono ?_;rintro e w' ⟨rfl,rfl⟩;rw[HZ.out])
     go_ret
     exact⟨by rw[HR.out];rfl,rfl⟩
   ·obtain rfl:k=count:=by omega
    have HR:Hid (numAt s.data.toList i k 8=some v):=Lib.hid (by rw[HA.out,HV.out])
    have hd1:decide (((i+k:Nat):Int)<(i:Int)+(k:Int))=false:=decide_eq_false (by omega)
    go_wp2_with fail
    go_ret
    exact⟨by rw[HR.out];rfl,rfl⟩
 ·have hd0:decide ((s.size:Int)<(i:Int)+(count:Int))=true:=decide_eq_true (by omega)
  have HA:Hid (numAt s.data.toList i count 8=none):=Lib.hid (by rw[numAt,if_neg (by omega)])
  clear hsd
  go_enter Tryz.func191,Tryz.ntmps191
  go_wp2_with fail
  go_ret
  exact⟨by rw[HA.out];rfl,rfl⟩
theorem refNumber_16 (s:ByteArray) (i count:Nat) (w:World) (hs:s.size≤140737488355328) (hi:i≤140737488355338) (hc:count≤8) :
  Calls Tryz.prog 191 #[.string s,.int .i64 i,.int .i64 count,.int .i64 16] w (NumMPost (numAt s.data.toList i count 16) w):=by
 have hsd:=sdata s
 by_cases hin:i+count≤s.size
 ·have hd0:decide ((s.size:Int)<(i:Int)+(count:Int))=false:=decide_eq_false (by omega)
  have HA:Hid (numAt s.data.toList i count 16=nTo 16 (s.data.toList.drop i) count):=Lib.hid (by rw[numAt,if_pos (by omega)])
  have HD:=Lib.hid hsd
  clear hsd
  go_enter Tryz.func191,Tryz.ntmps191
  go_wp2_with fail
  go_loop [9,10] (fun n j=>∃ (k:Nat) (v:Int),k≤count∧j=.int .i64 ((i+k:Nat):Int)∧n=.int .i64 v∧nTo 16 (s.data.toList.drop i) k=some v) (fun _ j=>i+count - (intOf j).toNat)
  case atStart=>exact⟨0,0,by omega,rfl,rfl,rfl⟩
  case round=>
   obtain⟨k,v,hk,rfl,rfl,hv⟩:=hrel
   have hvb:=nTo_bound (base:=16) (by omega) (by omega) k v (by have:=HD.out;omega) hv
   have hp8:=pow_le8 k (by omega)
   have hv0:0≤v:=hvb.1
   have hv1:v<4294967296:=by omega
   have HV:=Lib.hid hv
   clear hv hvb hp8
   by_cases hlt:k<count
   ·have hik:i+k<s.size:=by omega
    have HN:=Lib.hid (nTo_succ (base:=16) (l:=s.data.toList) (i:=i) (k:=k) (by have:=HD.out;omega))
    obtain⟨j,hj⟩:∃ j,i+k=j:=⟨_,rfl⟩
    obtain⟨c,hc'⟩:∃ c,s[i+k]'hik=c:=⟨_,rfl⟩
    rw[at_data hik,hc',HV.out] at HN
    have hix:∀ u:World,(Instr.index 9 (.string s) (.int .i64 (j:Int))).run Tryz.prog u=.ok (.int .u8 (c.toNat:Int)) u:=fun u=>by
     rw[← hc'];exact index_at s _ (i+k) (by omega) hik u
    rw[hj]
    have hj1:j<i+count:=by omega
    have hj2:j<s.size:=by omega
    have HJ:=Lib.hid hj
    have hd1:decide ((j:Int)<(i:Int)+(count:Int))=true:=decide_eq_true (by omega)
    clear hj
    have hc0:(0:Int)≤(c.toNat:Int):=by omega
    have hc1:(c.toNat:Int)≤255:=by have:=UInt8.toNat_lt c;omega
    obtain⟨z,hz⟩:∃ z,digZ (c.toNat:Int) 99=z:=⟨_,rfl⟩
    have hzb:=digZ_bounds (c.toNat:Int) 99 (by omega)
    have HZ:=Lib.hid hz
    have HI:Hid (isDig 16 c=decide (z<16)):=Lib.hid (by rw[isDig,← hz];exact decide_eq_decide.2 (digZ_lt _ 16 99 16 (by omega) (by omega) (by omega)))
    have HS:Hid (z<16→digZ (c.toNat:Int) 16=z):=Lib.hid (fun g=>by rw[← hz] at g ⊢;exact(digZ_same _ 99 16 g (by omega)).symm)
    rw[hz] at hzb
    have hz0:0≤z:=hzb.1
    have hz1:z≤99:=by omega
    clear hz hzb hc'
    by_cases hdig:z<16
    ·have hdd:decide ((16:Int)≤z)=false:=decide_eq_false (by omega)
     have HR:Hid (nTo 16 (s.data.toList.drop i) (k+1)=some (v*16+z)):=Lib.hid (by rw[HN.out,nStep,if_pos (by rw[HI.out];exact decide_eq_true hdig),HS.out (by omega)])
     clear HN
     go_wp2_with (go_at_call 184;refine(refDigit_any _ _ hc0 hc1).mono ?_;rintro e w' ⟨rfl,rfl⟩;rw[HZ.out])
     go_round
     case rel=>exact⟨k+1,_,by omega,by rw[show i+(k+1)=j+1 by have:=HJ.out;omega];go_num,rfl,HR.out⟩
     case measure=>simp [intOf];omega
    ·have hdd:decide ((16:Int)≤z)=true:=decide_eq_true (by omega)
     have HR:Hid (numAt s.data.toList i count 16=none):=Lib.hid (by
      rw[HA.out]
      exact nTo_none (by have:=HD.out;omega) (show k+1≤count by omega) (by rw[HN.out,nStep,if_neg (by rw[HI.out];simpa using hdig)]))
     clear HN
     go_wp2_with (go_at_call 184;refine(refDigit_any _ _ hc0 hc1).mono ?_;rintro e w' ⟨rfl,rfl⟩;rw[HZ.out])
     go_ret
     exact⟨by rw[HR.out];rfl,rfl⟩
   ·obtain rfl:k=count:=by omega
    have HR:Hid (numAt s.data.toList i k 16=some v):=Lib.hid (by rw[HA.out,HV.out])
    have hd1:decide (((i+k:Nat):Int)<(i:Int)+(k:Int))=false:=decide_eq_false (by omega)
    go_wp2_with fail
    go_ret
    exact⟨by rw[HR.out];rfl,rfl⟩
 ·have hd0:decide ((s.size:Int)<(i:Int)+(count:Int))=true:=decide_eq_true (by omega)
  have HA:Hid (numAt s.data.toList i count 16=none):=Lib.hid (by rw[numAt,if_neg (by omega)])
  clear hsd
  go_enter Tryz.func191,Tryz.ntmps191
  go_wp2_with fail
  go_ret
  exact⟨by rw[HA.out];rfl,rfl⟩
open Go.RowKit
abbrev Esc:=Int × Bool × Nat
def byteE (l:List UInt8) (i ahead count:Nat) (base:Int):Esc:=match numAt l (i+ahead) count base with
 |some n=>if 255<n then(0,false,0) else(n,false,ahead+count)
 |none=>(0,false,0)
def runeE (l:List UInt8) (i count:Nat):Esc:=match numAt l (i+2) count 16 with
 |some n=>if 1114111<n then(0,false,0) else if Lib.validRune n then(n,true,2+count) else(0,false,0)
 |none=>(0,false,0)
def signE (c q:UInt8):Esc:=
 if c=97 then(7,false,2) else if c=98 then(8,false,2) else if c=102 then(12,false,2) else if c=110 then(10,false,2) else if c=114 then(13,false,2)
 else if c=116 then(9,false,2) else if c=118 then(11,false,2) else if c=92∨c=q then(c.toNat,false,2) else(0,false,0)
def escV (l:List UInt8) (i:Nat) (q:UInt8):Esc:=match l[i+1]? with
 |none=>(0,false,0)
 |some c=>if c=120 then byteE l i 2 2 16 else if c=117 then runeE l i 4 else if c=85 then runeE l i 8
  else if c=48∨c=49∨c=50∨c=51∨c=52∨c=53∨c=54∨c=55 then byteE l i 1 3 8 else signE c q
theorem numAt_bound {l:List UInt8} {i count:Nat} {base n:Int} (hb0:0≤base) (hb:base≤16) (h:numAt l i count base=some n):i+count≤l.length∧0≤n∧n<16 ^ count:=by
 unfold numAt at h
 split at h
 ·next g=>exact⟨g,nTo_bound hb0 hb _ _ g h⟩
 ·cases h
open Go.RowKit
theorem bcell {W w1:World} (hb:Below W.heap.size W w1):(∀ b o,b<W.heap.size→w1.cell? ⟨b,o,none⟩=W.cell? ⟨b,o,none⟩)∧(∀ b o,b<W.heap.size→w1.frozen? ⟨b,o,none⟩=W.frozen? ⟨b,o,none⟩):=
 ⟨fun b o h=>hb.cell (p:=⟨b,o,none⟩) h,fun b o h=>hb.frozen (p:=⟨b,o,none⟩) h⟩
theorem escV_none {l:List UInt8} {i:Nat} {q:UInt8} (h:l.length≤i+1):escV l i q=(0,false,0):=by
 unfold escV
 rw[List.getElem?_eq_none h]
theorem escV_some {l:List UInt8} {i:Nat} {q c:UInt8} (h:l[i+1]? = some c):escV l i q=if c=120 then byteE l i 2 2 16 else if c=117 then runeE l i 4 else if c=85 then runeE l i 8
  else if c=48∨c=49∨c=50∨c=51∨c=52∨c=53∨c=54∨c=55 then byteE l i 1 3 8 else signE c q:=by
 unfold escV
 rw[h]
open Go.RowKit
def escB (v:Esc):List UInt8:=if v.2.1 then Lib.encodeRune v.1 else[v.1.toNat.toUInt8]
def EscOk (v:Esc):Prop:=(v.2.1=true→0≤v.1∧v.1≤1114111)∧(v.2.1=false→0≤v.1∧v.1≤255)
open Go.RowKit
theorem esc0_ok:EscOk (0,false,0):=⟨fun h=>(by cases h),fun _=>⟨by decide,by decide⟩⟩
theorem escB_le (v:Esc):(escB v).length≤4∧(v.2.1=false→(escB v).length=1):=by
 unfold escB
 split
 ·next h=>exact⟨by rw[← Lib.runeCells_length];exact(Lib.runeCells_le _).2,fun g=>by rw[g] at h;cases h⟩
 ·exact⟨by simp,fun _=>by simp⟩
def EscFit (l:List UInt8) (i:Nat) (v:Esc):Prop:=EscOk v∧(v.2.2≠0→i+v.2.2≤l.length∧2≤v.2.2∧(escB v).length≤v.2.2)
theorem esc0_fit (l:List UInt8) (i:Nat):EscFit l i (0,false,0):=⟨esc0_ok,fun h=>absurd rfl h⟩
theorem byteE_fit {l:List UInt8} {i ahead count:Nat} {base:Int} (hb0:0≤base) (hb:base≤16) (hw:2≤ahead+count):EscFit l i (byteE l i ahead count base):=by
 unfold byteE
 cases h:numAt l (i+ahead) count base with
 |none=>exact esc0_fit l i
 |some n=>
  obtain⟨h1,h2,_⟩:=numAt_bound hb0 hb h
  simp only[]
  by_cases g:255<n
  ·rw[if_pos g];exact esc0_fit l i
  ·rw[if_neg g]
   refine⟨⟨fun h=>(by cases h),fun _=>⟨h2,by simp only[];omega⟩⟩,fun _=>⟨by simp only[];omega,hw,?_⟩⟩
   rw[(escB_le _).2 rfl]
   simp only[];omega
theorem runeE_fit {l:List UInt8} {i count:Nat} (hw:4≤count):EscFit l i (runeE l i count):=by
 unfold runeE
 cases h:numAt l (i+2) count 16 with
 |none=>exact esc0_fit l i
 |some n=>
  obtain⟨h1,h2,_⟩:=numAt_bound (by omega) (by omega) h
  simp only[]
  by_cases g:1114111<n
  ·rw[if_pos g];exact esc0_fit l i
  ·rw[if_neg g]
   cases hv:Lib.validRune n with
   |false=>exact esc0_fit l i
   |true=>
    refine⟨⟨fun _=>⟨h2,by show n≤_;omega⟩,fun h=>(by cases h)⟩,fun _=>⟨by show i+(2+count)≤_;omega,by show 2≤2+count;omega,?_⟩⟩
    have:=(escB_le (n,true,2+count)).1
    show _≤2+count
    exact Nat.le_trans this (by omega)
theorem signE_fit {l:List UInt8} {i:Nat} {c q:UInt8} (h:i+2≤l.length):EscFit l i (signE c q):=by
 have two:∀ n:Int,0≤n→n≤255→EscFit l i (n,false,2):=fun n h0 h1=>
  ⟨⟨fun h=>(by cases h),fun _=>⟨h0,h1⟩⟩,fun _=>⟨h,Nat.le_refl _,by rw[(escB_le _).2 rfl];simp⟩⟩
 unfold signE
 repeat' split
 all_goals first|exact two _ (by omega) (by have:=UInt8.toNat_lt c;omega)|exact esc0_fit l i
theorem escV_fit (l:List UInt8) (i:Nat) (q:UInt8):EscFit l i (escV l i q):=by
 cases h:l[i+1]? with
 |none=>rw[escV_none (by simpa using h)];exact esc0_fit l i
 |some c=>
  have hl:i+1<l.length:=(List.getElem?_eq_some_iff.1 h).1
  rw[escV_some h]
  repeat' split
  ·exact byteE_fit (by omega) (by omega) (by omega)
  ·exact runeE_fit (by omega)
  ·exact runeE_fit (by omega)
  ·exact byteE_fit (by omega) (by omega) (by omega)
  ·exact signE_fit (by omega)
def uq (l:List UInt8):Nat→Nat→List UInt8→List UInt8 × Int × Nat
 |0,_,_=>([],106,0)
 |f+1,p,acc=>match l[p]? with
  |none=>([],106,0)
  |some c=>
   if c=92 then(if (escV l p 34).2.2=0 then([],108,p) else uq l f (p+(escV l p 34).2.2) (acc ++ escB (escV l p 34)))
   else if c=34 then(if p+1=l.length then(acc,0,0) else([],106,0))
   else if c=10 then([],106,0) else uq l f (p+1) (acc ++ [c])
theorem uq_past {l:List UInt8} {f p:Nat} {acc:List UInt8} (h:l.length≤p):uq l f p acc=([],106,0):=by
 cases f with
 |zero=>rfl
 |succ f=>rw[uq,List.getElem?_eq_none h]
theorem uq_fuel {l:List UInt8}:∀ (f g p:Nat) (acc:List UInt8),l.length - p≤f→l.length - p≤g→uq l f p acc=uq l g p acc:=by
 intro f
 induction f with
 |zero=>
  intro g p acc h _
  rw[uq_past (f:=0) (by omega),uq_past (by omega)]
 |succ f ih=>
  intro g p acc hf hg
  by_cases hp:l.length≤p
  ·rw[uq_past hp,uq_past hp]
  ·obtain⟨g,rfl⟩:∃ k,g=k+1:=⟨g - 1,by omega⟩
   rw[uq,uq,List.getElem?_eq_getElem (by omega)]
   simp only[]
   split
   ·split
    ·rfl
    ·next h0=>
     have:=(escV_fit l p 34).2 h0
     exact ih g _ _ (by omega) (by omega)
   ·split
    ·rfl
    ·split
     ·rfl
     ·exact ih g _ _ (by omega) (by omega)
def uqAt (l:List UInt8) (p:Nat) (acc:List UInt8):List UInt8 × Int × Nat:=uq l (l.length - p) p acc
theorem uqAt_past {l:List UInt8} {p:Nat} {acc:List UInt8} (h:l.length≤p):uqAt l p acc=([],106,0):=uq_past h
theorem uqAt_step {l:List UInt8} {p:Nat} {acc:List UInt8} (h:p<l.length):uqAt l p acc =
  if l[p]=92 then(if (escV l p 34).2.2=0 then([],108,p) else uqAt l (p+(escV l p 34).2.2) (acc ++ escB (escV l p 34)))
  else if l[p]=34 then(if p+1=l.length then(acc,0,0) else([],106,0))
  else if l[p]=10 then([],106,0) else uqAt l (p+1) (acc ++ [l[p]]):=by
 have e:uqAt l p acc=uq l ((l.length - p - 1)+1) p acc:=uq_fuel _ _ _ _ (by omega) (by omega)
 rw[e,uq,List.getElem?_eq_getElem h]
 simp only[]
 split
 ·split
  ·rfl
  ·next h0=>
   have:=(escV_fit l p 34).2 h0
   exact uq_fuel _ _ _ _ (by omega) (by omega)
 ·split
  ·rfl
  ·split
   ·rfl
   ·exact uq_fuel _ _ _ _ (by omega) (by omega)
def UnqPost (v:List UInt8 × Int × Nat) (w:World) (e:Ending) (w':World):Prop:=e=.returned (.tuple #[.string (B v.1),.int .i64 v.2.1,.int .i64 v.2.2])∧Below w.heap.size w w'
open Go.RowKit
def noCR (l:List UInt8):List UInt8:=l.filter (fun c=>c != 13)
theorem slice_to (s:ByteArray) (n:Nat) (z:Int) (hz:z=(n:Int)) (h:n≤s.size) (u:World) :
  (Instr.slice 9 (.string s) none (some (.int .i64 z)) none).run Tryz.prog u=.ok (.string (B (s.data.toList.take n))) u:=by
 subst hz
 have e:s.extract 0 n=B (s.data.toList.take n):=by rw[b_extract];rfl
 rw[← e]
 exact run_slice_string_h (P:=Tryz.prog) (w:=u) (t:=9) (s:=s) (ht:=Tryz.underlying9) .i64 (n:Int) (by omega) (by omega)
def rawOf (l:List UInt8):List UInt8 × Int × Nat:=
 if 0≤Lib.indexByte (l.drop 1) 96∧Lib.indexByte (l.drop 1) 96=((l.drop 1).length:Int) - 1 then(noCR ((l.drop 1).take ((l.drop 1).length - 1)),0,0) else([],106,0)
def unqOf (l:List UInt8):List UInt8 × Int × Nat:=if Lib.hasPrefix l [96] then rawOf l else if Lib.hasPrefix l [34] then uqAt l 1 [] else([],106,0)
open Go.RowKit
def charL (x:List UInt8):Nat × Nat:=if (Lib.decodeGo (B x)).1=65533∧(Lib.decodeGo (B x)).2<2 then(0,0) else Lib.decodeGo (B x)
theorem go_bounds (s:ByteArray):(Lib.decodeGo s).1≤1114111∧(Lib.decodeGo s).2≤s.size∧(Lib.decodeGo s).2≤4:=by
 unfold Lib.decodeGo
 split
 ·exact⟨by decide,Nat.zero_le _,by decide⟩
 ·next h=>
  rw[Lib.decode_at]
  have b0:=UInt8.toNat_lt (s.get! 0)
  have b1:=UInt8.toNat_lt (s.get! (0+1))
  have b2:=UInt8.toNat_lt (s.get! (0+2))
  have b3:=UInt8.toNat_lt (s.get! (0+3))
  unfold Lib.decodeN
  repeat' split
  all_goals(simp only;omega)
theorem charL_bounds (x:List UInt8):(charL x).1≤1114111∧(charL x).2≤x.length∧(charL x).2≤4:=by
 unfold charL
 split
 ·exact⟨by decide,Nat.zero_le _,by decide⟩
 ·have:=go_bounds (B x)
  rw[bsize] at this
  exact this
def finOf (l:List UInt8) (u:Int) (n:Nat):Int × Int × Nat:=if n=0∨l.drop (1+n)≠[39] then(0,107,0) else(u,0,0)
def runeOf (l:List UInt8):Int × Int × Nat:=match l with
 |a::c::_=>if a=39 then
   (if c=92 then(if (escV l 1 39).2.2=0 then(0,108,1) else finOf l (escV l 1 39).1 (escV l 1 39).2.2)
    else if c=39∨c=10 then(0,107,0) else finOf l ((charL (l.drop 1)).1:Nat) (charL (l.drop 1)).2)
  else(0,107,0)
 |_=>(0,107,0)
theorem rune_short {l:List UInt8} (h:l.length<2):runeOf l=(0,107,0):=by
 match l,h with
 |[],_=>rfl
 |[_],_=>rfl
theorem rune_long {l:List UInt8} (h:1<l.length):runeOf l=if l[0]=39 then
   (if l[1]=92 then(if (escV l 1 39).2.2=0 then(0,108,1) else finOf l (escV l 1 39).1 (escV l 1 39).2.2)
    else if l[1]=39∨l[1]=10 then(0,107,0) else finOf l ((charL (l.drop 1)).1:Nat) (charL (l.drop 1)).2)
  else(0,107,0):=by
 match l,h with
 |a::c::_,_=>rfl
def Runed (v:Int × Int × Nat) (w:World) (e:Ending) (w':World):Prop:=e=.returned (.tuple #[.int .i64 v.1,.int .i64 v.2.1,.int .i64 v.2.2])∧Below w.heap.size w w'
end Go.Proofs.YtcekbbkidipbnaaGreat.tok
