/-
  Texts put together: RefCharB, RefCharC, RefRune.
-/
import Derived.Test.YtcekbbkidipbnaaGreatP18
import Derived.Test.YtcekbbkidipbnaaGreatP9
set_option maxRecDepth 100000
set_option maxHeartbeats 8000000
namespace Go.Proofs.YtcekbbkidipbnaaGreat.tok
open Go.RowKit
theorem zpH (s:ByteArray) (c:UInt8) (w:World) (hs:s.size≤140737488351232) (h1:1<s.size) (hc:s[1]=c) (h128:128≤c.toNat) :
  Calls Tryz.prog 186 #[.string s,.int .i64 1] w (Chr (charC s.data.toList) w):=by
 have hix0:∀ u:World,(Instr.index 9 (.string s) (.int .i64 1)).run Tryz.prog u=.ok (.int .u8 (c.toNat:Int)) u:=fun u=>by
  rw[zfJ s 1 1 zdC zdC u,hc]
 have hbz:∀ j,∀ h:j<s.size,bz s.data.toList j=(s[j].toNat:Int):=fun j h=>by
  unfold bz
  rw[List.getD_eq_getElem?_getD,List.getElem?_eq_getElem zdQ,zfY h]
  rfl
 have HC1:Hid (bz s.data.toList 1=(c.toNat:Int)):=Lib.hid (by rw[hbz 1 h1,hc])
 have HIX:Hid (∀ (z:Int) (j:Nat),z=(j:Int)→j<s.size→∀ u:World,(Instr.index 9 (.string s) (.int .i64 z)).run Tryz.prog u=.ok (.int .u8 (bz s.data.toList j)) u):=Lib.hid (fun z j hz hj u=>by
  rw[hbz j hj];exact zfJ s z j hz hj u)
 have hd:decide ((s.size:Int)≤1)=false:=decide_eq_false zdC
 have hc0:(0:Int)≤(c.toNat:Int):=by omega
 have hc1:(c.toNat:Int)≤255:=by have:=UInt8.toNat_lt c;omega
 have hd2:decide ((c.toNat:Int)<128)=false:=decide_eq_false zdC
 have HSL:=Lib.hid (sdata s)
 clear hc hbz
 go_enter Tryz.func186,Tryz.ntmps186
 go_wp2_with fail
 go_loopw [7] (fun nv wr=>∃ n:Nat,2≤n∧n≤5∧nv=.int .i64 n∧(∀ m,2≤m→m<n→1+m≤s.size∧¬ hitC s.data.toList m)∧Below w.heap.size w wr) (fun nv _=>5 - (intOf nv).toNat)
 case atStart=>exact⟨2,by omega,by omega,rfl,fun m _ _=>by omega,Below.refl _ _⟩
 case round=>
  obtain⟨n,hn2,hn5,rfl,hbef,hbel⟩:=hrel
  have hsz:=hbel.size
  have HB:=Lib.hid hbel
  have HBF:=Lib.hid hbef
  clear hbel hbef
  by_cases hin:n≤4∧1+n≤s.size
  ·obtain⟨hn4,hns⟩:=hin
   have hda:decide ((n:Int)≤4)=true:=decide_eq_true zdC
   have hdb:decide (1+(n:Int)≤(s.size:Int))=true:=decide_eq_true zdC
   have hnn:n=2∨n=3∨n=4:=by omega
   clear hn4
   rcases hnn with rfl|rfl|rfl
   ·have HU0:Hid (uTo s.data.toList 2 0=(c.toNat:Int) - 192):=Lib.hid (by rw[← HC1.out];rfl)
    by_cases hlo:192≤(c.toNat:Int)
    ·obtain⟨g,hg1⟩:∃ g,decide ((c.toNat:Int) - 192<32)=g:=⟨_,rfl⟩
     go_wp2_with fail
     have hg:okTo s.data.toList 2 0=g:=by
      show(decide (192≤bz s.data.toList 1) && decide (bz s.data.toList 1 - 192<32))=_
      rw[HC1.out]
      rw[decide_eq_true hlo,hg1];rfl
     exact zaw
    ·go_wp2_with fail
     have hg:okTo s.data.toList 2 0=false:=by
      show(decide (192≤bz s.data.toList 1) && decide (bz s.data.toList 1 - 192<32))=_
      rw[HC1.out]
      rw[decide_eq_false zdC];rfl
     exact zaw
   ·have HU0:Hid (uTo s.data.toList 3 0=(c.toNat:Int) - 224):=Lib.hid (by rw[← HC1.out];rfl)
    by_cases hlo:224≤(c.toNat:Int)
    ·obtain⟨g,hg1⟩:∃ g,decide ((c.toNat:Int) - 224<16)=g:=⟨_,rfl⟩
     go_wp2_with fail
     have hg:okTo s.data.toList 3 0=g:=by
      show(decide (224≤bz s.data.toList 1) && decide (bz s.data.toList 1 - 224<16))=_
      rw[HC1.out]
      rw[decide_eq_true hlo,hg1];rfl
     exact zav
    ·go_wp2_with fail
     have hg:okTo s.data.toList 3 0=false:=by
      show(decide (224≤bz s.data.toList 1) && decide (bz s.data.toList 1 - 224<16))=_
      rw[HC1.out]
      rw[decide_eq_false zdC];rfl
     exact zav
   ·have HU0:Hid (uTo s.data.toList 4 0=(c.toNat:Int) - 240):=Lib.hid (by rw[← HC1.out];rfl)
    by_cases hlo:240≤(c.toNat:Int)
    ·obtain⟨g,hg1⟩:∃ g,decide ((c.toNat:Int) - 240<8)=g:=⟨_,rfl⟩
     go_wp2_with fail
     have hg:okTo s.data.toList 4 0=g:=by
      show(decide (240≤bz s.data.toList 1) && decide (bz s.data.toList 1 - 240<8))=_
      rw[HC1.out]
      rw[decide_eq_true hlo,hg1];rfl
     exact zau
    ·go_wp2_with fail
     have hg:okTo s.data.toList 4 0=false:=by
      show(decide (240≤bz s.data.toList 1) && decide (bz s.data.toList 1 - 240<8))=_
      rw[HC1.out]
      rw[decide_eq_false zdC];rfl
     exact zau
  ·have HR:Hid (charC s.data.toList=(0,0)):=Lib.hid (by
    have hf:∀ m,2≤m→m≤4→¬ (1+m≤s.data.toList.length∧hitC s.data.toList m):=fun m g2 g4 g=>by
     rw[HSL.out] at g
     by_cases hm:m<n
     ·exact(HBF.out m g2 hm).2 g.2
     ·omega
    rw[charC,if_neg (hf 2 zdC zdC),if_neg (hf 3 zdC zdC),if_neg (hf 4 zdC zdC)])
   by_cases hn4:n≤4
   ·have hda:decide ((n:Int)≤4)=true:=decide_eq_true zdC
    have hdb:decide (1+(n:Int)≤(s.size:Int))=false:=decide_eq_false zdC
    clear hin
    go_wp2_with fail
    go_ret2
    exact⟨by rw[HR.out];rfl,HB.out⟩
   ·have hda:decide ((n:Int)≤4)=false:=decide_eq_false zdC
    clear hin
    go_wp2_with fail
    go_ret2
    exact⟨by rw[HR.out];rfl,HB.out⟩
open Go.RowKit
def v2 (b0 b1:Nat):Nat:=b0 % 32*64+b1 % 64
def v3 (b0 b1 b2:Nat):Nat:=b0 % 16*4096+b1 % 64*64+b2 % 64
def v4 (b0 b1 b2 b3:Nat):Nat:=b0 % 8*262144+b1 % 64*4096+b2 % 64*64+b3 % 64
def g2 (n b0 b1:Nat):Prop:=1<n∧b0 / 32=6∧b1 / 64=2∧128≤v2 b0 b1
def g3 (n b0 b1 b2:Nat):Prop:=2<n∧b0 / 16=14∧b1 / 64=2∧b2 / 64=2∧2048≤v3 b0 b1 b2∧(v3 b0 b1 b2<55296∨57343<v3 b0 b1 b2)
def g4 (n b0 b1 b2 b3:Nat):Prop:=3<n∧b0 / 8=30∧b1 / 64=2∧b2 / 64=2∧b3 / 64=2∧65536≤v4 b0 b1 b2 b3∧v4 b0 b1 b2 b3≤1114111
def fin0 (d:Nat × Nat):Nat × Nat:=if d.1=65533∧d.2<2 then(0,0) else d
theorem dec2 {n b0 b1 b2 b3:Nat} (h:128≤b0) (h255:b0≤255) (g:g2 n b0 b1):fin0 (Lib.decodeN n b0 b1 b2 b3)=(v2 b0 b1,2):=by
 obtain⟨a1,a2,a3,a4⟩:=g
 unfold Lib.decodeN
 unfold v2 at a4
 rw[if_neg zdC,if_pos ⟨a2,a1,a3⟩,if_pos a4]
 exact zds
theorem dec3 {n b0 b1 b2 b3:Nat} (h:128≤b0) (h255:b0≤255) (g:g3 n b0 b1 b2):fin0 (Lib.decodeN n b0 b1 b2 b3)=(v3 b0 b1 b2,3):=by
 obtain⟨a1,a2,a3,a4,a5,a6⟩:=g
 unfold v3 at a5 a6
 unfold Lib.decodeN
 rw[if_neg zdC,if_neg zdC,if_pos ⟨a2,⟨by omega,a3⟩,a1,a4⟩,if_pos ⟨a5,by omega⟩]
 exact zds
theorem dec4 {n b0 b1 b2 b3:Nat} (h:128≤b0) (h255:b0≤255) (g:g4 n b0 b1 b2 b3):fin0 (Lib.decodeN n b0 b1 b2 b3)=(v4 b0 b1 b2 b3,4):=by
 obtain⟨a1,a2,a3,a4,a5,a6,a7⟩:=g
 unfold v4 at a6 a7
 unfold Lib.decodeN
 rw[if_neg zdC,if_neg zdC,if_neg zdC,if_pos ⟨a2,⟨by omega,a3⟩,⟨by omega,a4⟩,a1,a5⟩,if_pos ⟨a6,by omega⟩]
 exact zds
theorem dec0 {n b0 b1 b2 b3:Nat} (h:128≤b0) (_h255:b0≤255) (n2:¬ g2 n b0 b1) (n3:¬ g3 n b0 b1 b2) (n4:¬ g4 n b0 b1 b2 b3):fin0 (Lib.decodeN n b0 b1 b2 b3)=(0,0):=by
 have none:fin0 (65533,1)=(0,0):=by unfold fin0;rw[if_pos ⟨rfl,by decide⟩]
 unfold Lib.decodeN
 rw[if_neg zdC]
 split
 ·next x=>
  split
  ·next y=>exact absurd ⟨x.2.1,x.1,x.2.2,y⟩ n2
  ·exact none
 ·split
  ·next x=>
   split
   ·next y=>exact absurd ⟨x.2.2.1,x.1,x.2.1.2,x.2.2.2,y.1,by unfold v3;omega⟩ n3
   ·exact none
  ·split
   ·next x=>
    split
    ·next y=>exact absurd ⟨x.2.2.2.1,x.1,x.2.1.2,x.2.2.1.2,x.2.2.2.2,y.1,by unfold v4;omega⟩ n4
    ·exact none
   ·exact none
theorem get_b (x:List UInt8) (i:Nat):(B x).get! i=x.getD i 0:=by
 show x.toArray[i]! = _
 simp [List.getD]
 rfl
theorem zno (l:List UInt8) (h:1<l.length):charL (l.drop 1)=fin0 (Lib.decodeN (l.length - 1) (l.getD 1 0).toNat (l.getD 2 0).toNat (l.getD 3 0).toNat (l.getD 4 0).toNat):=by
 have hd:∀ i,(l.drop 1).getD i 0=l.getD (1+i) 0:=fun i=>by simp [List.getD,Nat.add_comm 1 i]
 have e:Lib.decodeGo (B (l.drop 1))=Lib.decodeN (l.length - 1) (l.getD 1 0).toNat (l.getD 2 0).toNat (l.getD 3 0).toNat (l.getD 4 0).toNat:=by
  unfold Lib.decodeGo
  rw[if_neg (by rw[bsize,List.length_drop];omega),Lib.decode_at,get_b,get_b,get_b,get_b,hd,hd,hd,hd,bsize,List.length_drop]
  rfl
 unfold charL
 rw[e]
 rfl
theorem ok0 (l:List UInt8) (n:Nat):okTo l n 0=true↔(ldC n≤bz l 1∧bz l 1 - ldC n<capC n):=by
 rw[okTo,Bool.and_eq_true,decide_eq_true_eq,decide_eq_true_eq]
theorem okS (l:List UInt8) (n k:Nat):okTo l n (k+1)=true↔(okTo l n k=true∧bz l (2+k) / 64*64=128):=by
 rw[okTo,Bool.and_eq_true,decide_eq_true_eq]
theorem hit2 (l:List UInt8) (h128:128≤(l.getD 1 0).toNat):(3≤l.length∧hitC l 2)↔g2 (l.length - 1) (l.getD 1 0).toNat (l.getD 2 0).toNat:=by
 have b1:=UInt8.toNat_lt (l.getD 1 0)
 have b2:=UInt8.toNat_lt (l.getD 2 0)
 unfold hitC g2 v2
 rw[show(2 - 1:Nat)=0+1 from rfl,okS,ok0]
 simp only[uTo,bz,ldC,capC,leastC,Nat.add_zero,if_true]
 omega
theorem val2 (l:List UInt8) (g:g2 (l.length - 1) (l.getD 1 0).toNat (l.getD 2 0).toNat):uTo l 2 1=(v2 (l.getD 1 0).toNat (l.getD 2 0).toNat:Nat):=by
 have b1:=UInt8.toNat_lt (l.getD 1 0)
 obtain⟨_,a,_⟩:=g
 simp only[uTo,bz,ldC,Nat.add_zero,if_true]
 unfold v2
 omega
theorem hit3 (l:List UInt8) (h128:128≤(l.getD 1 0).toNat):(4≤l.length∧hitC l 3)↔g3 (l.length - 1) (l.getD 1 0).toNat (l.getD 2 0).toNat (l.getD 3 0).toNat:=by
 have b1:=UInt8.toNat_lt (l.getD 1 0)
 have b2:=UInt8.toNat_lt (l.getD 2 0)
 have b3:=UInt8.toNat_lt (l.getD 3 0)
 unfold hitC g3 v3
 rw[show(3 - 1:Nat)=0+1+1 from rfl,okS,okS,ok0]
 simp only[uTo,bz,ldC,capC,leastC,Nat.reduceAdd,Nat.reduceEqDiff,Nat.add_zero,if_true,if_false]
 omega
theorem val3 (l:List UInt8) (g:g3 (l.length - 1) (l.getD 1 0).toNat (l.getD 2 0).toNat (l.getD 3 0).toNat):uTo l 3 2=(v3 (l.getD 1 0).toNat (l.getD 2 0).toNat (l.getD 3 0).toNat:Nat):=by
 have b1:=UInt8.toNat_lt (l.getD 1 0)
 obtain⟨_,a,_⟩:=g
 simp only[uTo,bz,ldC,Nat.add_zero,Nat.reduceAdd,Nat.reduceEqDiff,if_true,if_false]
 unfold v3
 omega
theorem hit4 (l:List UInt8) (h128:128≤(l.getD 1 0).toNat):(5≤l.length∧hitC l 4)↔g4 (l.length - 1) (l.getD 1 0).toNat (l.getD 2 0).toNat (l.getD 3 0).toNat (l.getD 4 0).toNat:=by
 have b1:=UInt8.toNat_lt (l.getD 1 0)
 have b2:=UInt8.toNat_lt (l.getD 2 0)
 have b3:=UInt8.toNat_lt (l.getD 3 0)
 have b4:=UInt8.toNat_lt (l.getD 4 0)
 unfold hitC g4 v4
 rw[show(4 - 1:Nat)=0+1+1+1 from rfl,okS,okS,okS,ok0]
 simp only[uTo,bz,ldC,capC,leastC,Nat.reduceAdd,Nat.reduceEqDiff,Nat.add_zero,if_false]
 omega
theorem val4 (l:List UInt8) (g:g4 (l.length - 1) (l.getD 1 0).toNat (l.getD 2 0).toNat (l.getD 3 0).toNat (l.getD 4 0).toNat):uTo l 4 3=(v4 (l.getD 1 0).toNat (l.getD 2 0).toNat (l.getD 3 0).toNat (l.getD 4 0).toNat:Nat):=by
 have b1:=UInt8.toNat_lt (l.getD 1 0)
 obtain⟨_,a,_⟩:=g
 simp only[uTo,bz,ldC,Nat.add_zero,Nat.reduceAdd,Nat.reduceEqDiff,if_false]
 unfold v4
 omega
theorem zqr (l:List UInt8) (h:1<l.length) (h128:128≤(l.getD 1 0).toNat):charC l=((((charL (l.drop 1)).1:Nat):Int),(charL (l.drop 1)).2):=by
 have b:=UInt8.toNat_lt (l.getD 1 0)
 rw[zno l h]
 unfold charC
 by_cases c2:g2 (l.length - 1) (l.getD 1 0).toNat (l.getD 2 0).toNat
 ·rw[if_pos ((hit2 l h128).2 c2),dec2 h128 zdC c2,val2 l c2]
 rw[if_neg (fun g=>c2 ((hit2 l h128).1 g))]
 by_cases c3:g3 (l.length - 1) (l.getD 1 0).toNat (l.getD 2 0).toNat (l.getD 3 0).toNat
 ·rw[if_pos ((hit3 l h128).2 c3),dec3 h128 zdC c3,val3 l c3]
 rw[if_neg (fun g=>c3 ((hit3 l h128).1 g))]
 by_cases c4:g4 (l.length - 1) (l.getD 1 0).toNat (l.getD 2 0).toNat (l.getD 3 0).toNat (l.getD 4 0).toNat
 ·rw[if_pos ((hit4 l h128).2 c4),dec4 h128 zdC c4,val4 l c4]
 rw[if_neg (fun g=>c4 ((hit4 l h128).1 g)),dec0 h128 zdC c2 c3 c4]
 rfl
open Go.RowKit
def ChrOf (x:List UInt8):Int × Nat:=(((charL x).1:Nat),(charL x).2)
theorem zpW (s:ByteArray) (c:UInt8) (w:World) (h1:1<s.size) (hc:s[1]=c) (h128:c.toNat<128) :
  Calls Tryz.prog 186 #[.string s,.int .i64 1] w (Chr ((c.toNat:Int),1) w):=by
 have hix0:∀ u:World,(Instr.index 9 (.string s) (.int .i64 1)).run Tryz.prog u=.ok (.int .u8 (c.toNat:Int)) u:=fun u=>by
  rw[zfJ s 1 1 zdC zdC u,hc]
 have hd:decide ((s.size:Int)≤1)=false:=decide_eq_false zdC
 have hd2:decide ((c.toNat:Int)<128)=true:=decide_eq_true zdC
 clear hc
 go_enter Tryz.func186,Tryz.ntmps186
 go_wp2_with fail
 go_ret2
 exact⟨rfl,Below.refl _ _⟩
theorem zue (l:List UInt8) (h:1<l.length) (h128:(l.getD 1 0).toNat<128):charL (l.drop 1)=((l.getD 1 0).toNat,1):=by
 rw[zno l h]
 unfold Lib.decodeN
 rw[if_pos h128]
 unfold fin0
 rw[if_neg (by simp only;omega)]
theorem zqg (s:ByteArray) (w:World) (hs:s.size≤140737488351232) (h1:1<s.size) :
  Calls Tryz.prog 186 #[.string s,.int .i64 1] w (Chr (ChrOf (s.data.toList.drop 1)) w):=by
 obtain⟨c,hc⟩:∃ c,s[1]=c:=⟨_,rfl⟩
 have hl:1<s.data.toList.length:=by rw[sdata];exact h1
 have hg:s.data.toList.getD 1 0=c:=by
  rw[List.getD_eq_getElem?_getD,List.getElem?_eq_getElem hl,zfY h1,hc]
  rfl
 by_cases h128:c.toNat<128
 ·have e:ChrOf (s.data.toList.drop 1)=((c.toNat:Int),1):=by
   unfold ChrOf
   rw[zue _ hl (by rw[hg];exact h128),hg]
  rw[e]
  exact zpW s c w h1 hc h128
 ·have e:ChrOf (s.data.toList.drop 1)=charC s.data.toList:=(zqr _ hl (by rw[hg];omega)).symm
  rw[e]
  exact zpH s c w hs h1 hc zdC
theorem drop_one {l:List UInt8} {n:Nat}:l.drop (1+n)=[39]↔(l.length=n+2∧l[n+1]? = some 39):=by
 constructor
 ·intro h
  have hl:=congrArg List.length h
  rw[List.length_drop,List.length_singleton] at hl
  refine⟨by omega,?_⟩
  have:=congrArg (fun x=>x[0]?) h
  simp only[List.getElem?_drop,Nat.add_zero] at this
  rw[Nat.add_comm n 1,this]
  rfl
 ·intro⟨hl,h⟩
  apply List.ext_getElem?
  intro i
  rw[List.getElem?_drop]
  match i with
  |0=>rw[Nat.add_zero,Nat.add_comm 1 n,h];rfl
  |i+1=>rw[List.getElem?_eq_none zdC];rfl
theorem zoC {l:List UInt8} {u:Int} {n:Nat} (h:¬ (n≠0∧l.length=n+2∧l[n+1]? = some 39)):finOf l u n=(0,107,0):=by
 unfold finOf
 rw[if_pos]
 by_cases h0:n=0
 ·exact .inl h0
 ·exact .inr (fun g=>h ⟨h0,drop_one.1 g⟩)
theorem zwl {l:List UInt8} {u:Int} {n:Nat} (h0:n≠0) (h1:l.length=n+2) (h2:l[n+1]? = some 39):finOf l u n=(u,0,0):=by
 unfold finOf
 rw[if_neg]
 exact fun g=>g.elim h0 (fun g=>g (drop_one.2 ⟨h1,h2⟩))
end Go.Proofs.YtcekbbkidipbnaaGreat.tok
