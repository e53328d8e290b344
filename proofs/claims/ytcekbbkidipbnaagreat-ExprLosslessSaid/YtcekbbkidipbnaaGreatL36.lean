/-
  Texts put together: RefCharC, RefRune, RefRuneB.
-/
import Derived.Test.YtcekbbkidipbnaaGreatL34
import Derived.Test.YtcekbbkidipbnaaGreatL25
import Derived.Test.YtcekbbkidipbnaaGreatL35
set_option maxRecDepth 100000
set_option maxHeartbeats 8000000
namespace Go.Proofs.YtcekbbkidipbnaaGreat.tok
open Go.RowKit
def v2 (b0 b1:Nat):Nat:=b0 % 32*64+b1 % 64
def v3 (b0 b1 b2:Nat):Nat:=b0 % 16*4096+b1 % 64*64+b2 % 64
def v4 (b0 b1 b2 b3:Nat):Nat:=b0 % 8*262144+b1 % 64*4096+b2 % 64*64+b3 % 64
def g2 (n b0 b1:Nat):Prop:=1<n∧b0 / 32=6∧b1 / 64=2∧128≤v2 b0 b1
def g3 (n b0 b1 b2:Nat):Prop:=2<n∧b0 / 16=14∧b1 / 64=2∧b2 / 64=2∧2048≤v3 b0 b1 b2∧(v3 b0 b1 b2<55296∨57343<v3 b0 b1 b2)
def g4 (n b0 b1 b2 b3:Nat):Prop:=3<n∧b0 / 8=30∧b1 / 64=2∧b2 / 64=2∧b3 / 64=2∧65536≤v4 b0 b1 b2 b3∧v4 b0 b1 b2 b3≤1114111
def fin0 (d:Nat × Nat):Nat × Nat:=if d.1=65533∧d.2<2 then(0,0) else d
theorem dec2 {n b0 b1 b2 b3:Nat} (h:128≤b0) (h255:b0≤255) (g:g2 n b0 b1):fin0 (Lib.decodeN n b0 b1 b2 b3)=(v2 b0 b1,2):=by
 obtain⟨a1,a2,a3,a4⟩:=g
 unfold Lib.decodeN
 unfold v2 at a4
 rw[if_neg (by omega),if_pos ⟨a2,a1,a3⟩,if_pos a4]
 exact if_neg (fun x=>by have:=x.2;simp at this)
theorem dec3 {n b0 b1 b2 b3:Nat} (h:128≤b0) (h255:b0≤255) (g:g3 n b0 b1 b2):fin0 (Lib.decodeN n b0 b1 b2 b3)=(v3 b0 b1 b2,3):=by
 obtain⟨a1,a2,a3,a4,a5,a6⟩:=g
 unfold v3 at a5 a6
 unfold Lib.decodeN
 rw[if_neg (by omega),if_neg (by omega),if_pos ⟨a2,⟨by omega,a3⟩,a1,a4⟩,if_pos ⟨a5,by omega⟩]
 exact if_neg (fun x=>by have:=x.2;simp at this)
theorem dec4 {n b0 b1 b2 b3:Nat} (h:128≤b0) (h255:b0≤255) (g:g4 n b0 b1 b2 b3):fin0 (Lib.decodeN n b0 b1 b2 b3)=(v4 b0 b1 b2 b3,4):=by
 obtain⟨a1,a2,a3,a4,a5,a6,a7⟩:=g
 unfold v4 at a6 a7
 unfold Lib.decodeN
 rw[if_neg (by omega),if_neg (by omega),if_neg (by omega),if_pos ⟨a2,⟨by omega,a3⟩,⟨by omega,a4⟩,a1,a5⟩,if_pos ⟨a6,by omega⟩]
 exact if_neg (fun x=>by have:=x.2;simp at this)
theorem dec0 {n b0 b1 b2 b3:Nat} (h:128≤b0) (_h255:b0≤255) (n2:¬ g2 n b0 b1) (n3:¬ g3 n b0 b1 b2) (n4:¬ g4 n b0 b1 b2 b3):fin0 (Lib.decodeN n b0 b1 b2 b3)=(0,0):=by
 have none:fin0 (65533,1)=(0,0):=by unfold fin0;rw[if_pos ⟨rfl,by decide⟩]
 unfold Lib.decodeN
 rw[if_neg (by omega)]
 split
 ·next x=>
  split
  ·next y=>exact absurd ⟨x.2.1,x.1,x.2.2,y⟩ n2
  ·exact none
 ·split
  ·next x=>
   split
   ·next y=>exact absurd ⟨x.2.2.1,x.1,x.2.1.2,x.2.2.2,y.1,by unfold v3;omega⟩ n3
   ·exact none
  ·split
   ·next x=>
    split
    ·next y=>exact absurd ⟨x.2.2.2.1,x.1,x.2.1.2,x.2.2.1.2,x.2.2.2.2,y.1,by unfold v4;omega⟩ n4
    ·exact none
   ·exact none
theorem get_b (x:List UInt8) (i:Nat):(B x).get! i=x.getD i 0:=by
 show x.toArray[i]! = _
 simp [List.getD]
 rfl
theorem charL_dec (l:List UInt8) (h:1<l.length):charL (l.drop 1)=fin0 (Lib.decodeN (l.length - 1) (l.getD 1 0).toNat (l.getD 2 0).toNat (l.getD 3 0).toNat (l.getD 4 0).toNat):=by
 have hd:∀ i,(l.drop 1).getD i 0=l.getD (1+i) 0:=fun i=>by simp [List.getD,Nat.add_comm 1 i]
 have e:Lib.decodeGo (B (l.drop 1))=Lib.decodeN (l.length - 1) (l.getD 1 0).toNat (l.getD 2 0).toNat (l.getD 3 0).toNat (l.getD 4 0).toNat:=by
  unfold Lib.decodeGo
  rw[if_neg (by rw[bsize,List.length_drop];omega),Lib.decode_at,get_b,get_b,get_b,get_b,hd,hd,hd,hd,bsize,List.length_drop]
  rfl
 unfold charL
 rw[e]
 rfl
theorem ok0 (l:List UInt8) (n:Nat):okTo l n 0=true↔(ldC n≤bz l 1∧bz l 1 - ldC n<capC n):=by
 rw[okTo,Bool.and_eq_true,decide_eq_true_eq,decide_eq_true_eq]
theorem okS (l:List UInt8) (n k:Nat):okTo l n (k+1)=true↔(okTo l n k=true∧bz l (2+k) / 64*64=128):=by
 rw[okTo,Bool.and_eq_true,decide_eq_true_eq]
theorem hit2 (l:List UInt8) (h128:128≤(l.getD 1 0).toNat):(3≤l.length∧hitC l 2)↔g2 (l.length - 1) (l.getD 1 0).toNat (l.getD 2 0).toNat:=by
 have b1:=UInt8.toNat_lt (l.getD 1 0)
 have b2:=UInt8.toNat_lt (l.getD 2 0)
 unfold hitC g2 v2
 rw[show(2 - 1:Nat)=0+1 from rfl,okS,ok0]
 simp only[uTo,bz,ldC,capC,leastC,Nat.add_zero,if_true]
 omega
theorem val2 (l:List UInt8) (g:g2 (l.length - 1) (l.getD 1 0).toNat (l.getD 2 0).toNat):uTo l 2 1=(v2 (l.getD 1 0).toNat (l.getD 2 0).toNat:Nat):=by
 have b1:=UInt8.toNat_lt (l.getD 1 0)
 obtain⟨_,a,_⟩:=g
 simp only[uTo,bz,ldC,Nat.add_zero,if_true]
 unfold v2
 omega
theorem hit3 (l:List UInt8) (h128:128≤(l.getD 1 0).toNat):(4≤l.length∧hitC l 3)↔g3 (l.length - 1) (l.getD 1 0).toNat (l.getD 2 0).toNat (l.getD 3 0).toNat:=by
 have b1:=UInt8.toNat_lt (l.getD 1 0)
 have b2:=UInt8.toNat_lt (l.getD 2 0)
 have b3:=UInt8.toNat_lt (l.getD 3 0)
 unfold hitC g3 v3
 rw[show(3 - 1:Nat)=0+1+1 from rfl,okS,okS,ok0]
 simp only[uTo,bz,ldC,capC,leastC,Nat.reduceAdd,Nat.reduceEqDiff,Nat.add_zero,if_true,if_false]
 omega
theorem val3 (l:List UInt8) (g:g3 (l.length - 1) (l.getD 1 0).toNat (l.getD 2 0).toNat (l.getD 3 0).toNat):uTo l 3 2=(v3 (l.getD 1 0).toNat (l.getD 2 0).toNat (l.getD 3 0).toNat:Nat):=by
 have b1:=UInt8.toNat_lt (l.getD 1 0)
 obtain⟨_,a,_⟩:=g
 simp only[uTo,bz,ldC,Nat.add_zero,Nat.reduceAdd,Nat.reduceEqDiff,if_true,if_false]
 unfold v3
 omega
theorem hit4 (l:List UInt8) (h128:128≤(l.getD 1 0).toNat):(5≤l.length∧hitC l 4)↔g4 (l.length - 1) (l.getD 1 0).toNat (l.getD 2 0).toNat (l.getD 3 0).toNat (l.getD 4 0).toNat:=by
 have b1:=UInt8.toNat_lt (l.getD 1 0)
 have b2:=UInt8.toNat_lt (l.getD 2 0)
 have b3:=UInt8.toNat_lt (l.getD 3 0)
 have b4:=UInt8.toNat_lt (l.getD 4 0)
 unfold hitC g4 v4
 rw[show(4 - 1:Nat)=0+1+1+1 from rfl,okS,okS,okS,ok0]
 simp only[uTo,bz,ldC,capC,leastC,Nat.reduceAdd,Nat.reduceEqDiff,Nat.add_zero,if_false]
 omega
theorem val4 (l:List UInt8) (g:g4 (l.length - 1) (l.getD 1 0).toNat (l.getD 2 0).toNat (l.getD 3 0).toNat (l.getD 4 0).toNat):uTo l 4 3=(v4 (l.getD 1 0).toNat (l.getD 2 0).toNat (l.getD 3 0).toNat (l.getD 4 0).toNat:Nat):=by
 have b1:=UInt8.toNat_lt (l.getD 1 0)
 obtain⟨_,a,_⟩:=g
 simp only[uTo,bz,ldC,Nat.add_zero,Nat.reduceAdd,Nat.reduceEqDiff,if_false]
 unfold v4
 omega
theorem char_bridge (l:List UInt8) (h:1<l.length) (h128:128≤(l.getD 1 0).toNat):charC l=((((charL (l.drop 1)).1:Nat):Int),(charL (l.drop 1)).2):=by
 have b:=UInt8.toNat_lt (l.getD 1 0)
 rw[charL_dec l h]
 unfold charC
 by_cases c2:g2 (l.length - 1) (l.getD 1 0).toNat (l.getD 2 0).toNat
 ·rw[if_pos ((hit2 l h128).2 c2),dec2 h128 (by omega) c2,val2 l c2]
 rw[if_neg (fun g=>c2 ((hit2 l h128).1 g))]
 by_cases c3:g3 (l.length - 1) (l.getD 1 0).toNat (l.getD 2 0).toNat (l.getD 3 0).toNat
 ·rw[if_pos ((hit3 l h128).2 c3),dec3 h128 (by omega) c3,val3 l c3]
 rw[if_neg (fun g=>c3 ((hit3 l h128).1 g))]
 by_cases c4:g4 (l.length - 1) (l.getD 1 0).toNat (l.getD 2 0).toNat (l.getD 3 0).toNat (l.getD 4 0).toNat
 ·rw[if_pos ((hit4 l h128).2 c4),dec4 h128 (by omega) c4,val4 l c4]
 rw[if_neg (fun g=>c4 ((hit4 l h128).1 g)),dec0 h128 (by omega) c2 c3 c4]
 rfl
open Go.RowKit
def ChrOf (x:List UInt8):Int × Nat:=(((charL x).1:Nat),(charL x).2)
theorem refChar_one (s:ByteArray) (c:UInt8) (w:World) (h1:1<s.size) (hc:s[1]=c) (h128:c.toNat<128) :
  Calls Tryz.prog 186 #[.string s,.int .i64 1] w (Chr ((c.toNat:Int),1) w):=by
 have hix0:∀ u:World,(Instr.index 9 (.string s) (.int .i64 1)).run Tryz.prog u=.ok (.int .u8 (c.toNat:Int)) u:=fun u=>by
  rw[index_at s 1 1 (by omega) (by omega) u,hc]
 have hd:decide ((s.size:Int)≤1)=false:=decide_eq_false (by omega)
 have hd2:decide ((c.toNat:Int)<128)=true:=decide_eq_true (by omega)
 clear hc
 go_enter Tryz.func186,Tryz.ntmps186
 go_wp2_with fail
 go_ret2
 exact⟨rfl,Below.refl _ _⟩
theorem charL_one (l:List UInt8) (h:1<l.length) (h128:(l.getD 1 0).toNat<128):charL (l.drop 1)=((l.getD 1 0).toNat,1):=by
 rw[charL_dec l h]
 unfold Lib.decodeN
 rw[if_pos h128]
 unfold fin0
 rw[if_neg (by simp only;omega)]
theorem refChar_any (s:ByteArray) (w:World) (hs:s.size≤140737488351232) (h1:1<s.size) :
  Calls Tryz.prog 186 #[.string s,.int .i64 1] w (Chr (ChrOf (s.data.toList.drop 1)) w):=by
 obtain⟨c,hc⟩:∃ c,s[1]=c:=⟨_,rfl⟩
 have hl:1<s.data.toList.length:=by rw[sdata];exact h1
 have hg:s.data.toList.getD 1 0=c:=by
  rw[List.getD_eq_getElem?_getD,List.getElem?_eq_getElem hl,at_data h1,hc]
  rfl
 by_cases h128:c.toNat<128
 ·have e:ChrOf (s.data.toList.drop 1)=((c.toNat:Int),1):=by
   unfold ChrOf
   rw[charL_one _ hl (by rw[hg];exact h128),hg]
  rw[e]
  exact refChar_one s c w h1 hc h128
 ·have e:ChrOf (s.data.toList.drop 1)=charC s.data.toList:=(char_bridge _ hl (by rw[hg];omega)).symm
  rw[e]
  exact refChar_more s c w hs h1 hc (by omega)
theorem drop_one {l:List UInt8} {n:Nat}:l.drop (1+n)=[39]↔(l.length=n+2∧l[n+1]? = some 39):=by
 constructor
 ·intro h
  have hl:=congrArg List.length h
  rw[List.length_drop,List.length_singleton] at hl
  refine⟨by omega,?_⟩
  have:=congrArg (fun x=>x[0]?) h
  simp only[List.getElem?_drop,Nat.add_zero] at this
  rw[Nat.add_comm n 1,this]
  rfl
 ·intro⟨hl,h⟩
  apply List.ext_getElem?
  intro i
  rw[List.getElem?_drop]
  match i with
  |0=>rw[Nat.add_zero,Nat.add_comm 1 n,h];rfl
  |i+1=>rw[List.getElem?_eq_none (by omega)];rfl
theorem fin_no {l:List UInt8} {u:Int} {n:Nat} (h:¬ (n≠0∧l.length=n+2∧l[n+1]? = some 39)):finOf l u n=(0,107,0):=by
 unfold finOf
 rw[if_pos]
 by_cases h0:n=0
 ·exact .inl h0
 ·exact .inr (fun g=>h ⟨h0,drop_one.1 g⟩)
theorem fin_yes {l:List UInt8} {u:Int} {n:Nat} (h0:n≠0) (h1:l.length=n+2) (h2:l[n+1]? = some 39):finOf l u n=(u,0,0):=by
 unfold finOf
 rw[if_neg]
 exact fun g=>g.elim h0 (fun g=>g (drop_one.2 ⟨h1,h2⟩))
open Go.RowKit
theorem refRune_any (s:ByteArray) (w:World) (hs:s.size≤140737488351232) :
  Calls Tryz.prog 170 #[.string s] w (Runed (runeOf s.data.toList) w):=by
 by_cases h2:s.size<2
 ·have hd:decide ((s.size:Int)<2)=true:=decide_eq_true (by omega)
  have HF:=Lib.hid (rune_short (l:=s.data.toList) (by rw[sdata];exact h2))
  go_enter Tryz.func170,Tryz.ntmps170
  go_wp2_with fail
  go_ret3
  exact⟨by rw[HF.out];rfl,Below.refl _ _⟩
 have hd:decide ((s.size:Int)<2)=false:=decide_eq_false (by omega)
 have h0:0<s.size:=by omega
 have h1:1<s.size:=by omega
 have e:=rune_long (l:=s.data.toList) (by rw[sdata];exact h1)
 rw[at_data h0,at_data h1] at e
 obtain⟨a,ha⟩:∃ a,s[0]'h0=a:=⟨_,rfl⟩
 obtain⟨c,hc⟩:∃ c,s[1]'h1=c:=⟨_,rfl⟩
 have hix0:∀ u:World,(Instr.index 9 (.string s) (.int .i64 0)).run Tryz.prog u=.ok (.int .u8 (a.toNat:Int)) u:=fun u=>by
  rw[index_at s 0 0 (by omega) (by omega) u,ha]
 have hix1:∀ u:World,(Instr.index 9 (.string s) (.int .i64 1)).run Tryz.prog u=.ok (.int .u8 (c.toNat:Int)) u:=fun u=>by
  rw[index_at s 1 1 (by omega) (by omega) u,hc]
 rw[ha,hc] at e
 by_cases ca:a=39
 ·have za:((a.toNat:Int) != 39)=false:=byte_eq' (d:=39) ca
  rw[if_pos ca] at e
  have HCH:Hid (∀ u:World,Calls Tryz.prog 186 #[.string s,.int .i64 1] u (Chr (ChrOf (s.data.toList.drop 1)) u)):=Lib.hid (fun u=>refChar_any s u hs h1)
  obtain⟨p,m,hpm⟩:∃ p m,ChrOf (s.data.toList.drop 1)=(p,m):=⟨_,_,rfl⟩
  have hmb:m≤4:=by have:=(charL_bounds (s.data.toList.drop 1)).2.2;have h':=congrArg Prod.snd hpm;simp only[ChrOf] at h';omega
  have hp1:((charL (s.data.toList.drop 1)).1:Int)=p:=congrArg Prod.fst hpm
  have hm1:(charL (s.data.toList.drop 1)).2=m:=congrArg Prod.snd hpm
  rw[hpm] at HCH
  rw[hp1,hm1] at e
  clear ca ha hpm hp1 hm1
  by_cases c92:c=92
  ·have z92:((c.toNat:Int) == 92)=true:=byte_eq (d:=92) c92
   have z39:((c.toNat:Int) == 39)=false:=byte_ne (d:=39) (by rw[c92];decide)
   have z10:((c.toNat:Int) == 10)=false:=byte_ne (d:=10) (by rw[c92];decide)
   rw[if_pos c92] at e
   have hfit:=escV_fit s.data.toList 1 39
   have HES:Hid (∀ u:World,Calls Tryz.prog 185 #[.string s,.int .i64 1,.int .u8 39] u (RefEsc (escV s.data.toList 1 39) u)):=Lib.hid (fun u=>refEsc_any s 1 39 u (by omega) (by omega) (.inr rfl))
   obtain⟨n,r,wd,hv⟩:∃ n r wd,escV s.data.toList 1 39=(n,r,wd):=⟨_,_,_,rfl⟩
   rw[hv] at e hfit HES
   simp only[] at e
   obtain⟨t,ht⟩:∃ t,escT (n,r,wd)=t:=⟨_,rfl⟩
   unfold RefEsc at HES
   rw[ht] at HES
   have HFIT:=Lib.hid hfit
   clear c92 hv hfit ht hc
   by_cases hw:wd=0
   ·have hwz:((wd:Int) == 0)=true:=by rw[hw];rfl
    rw[if_pos hw] at e
    have HF:=Lib.hid e
    clear e HFIT
    go_enter Tryz.func170,Tryz.ntmps170
    go_wp2_with (first|(go_at_call 186;refine(HCH.out _).mono ?_;rintro e w1 ⟨rfl,hb⟩;have HB1:=Lib.hid hb;have hbz:=hb.size;clear hb)|(go_at_call 185;refine(HES.out _).mono ?_;rintro e w2 ⟨rfl,hb⟩;have HB2:=Lib.hid hb;clear hb))
    go_ret3
    exact⟨by rw[HF.out];rfl,HB1.out.trans (HB2.out.mono hbz)⟩
   ·rw[if_neg hw] at e
    have HFN:=Lib.hid e
    have hwb:wd≤s.size:=by have:=(HFIT.out.2 hw).1;rw[sdata] at this;simp only[] at this;omega
    clear e HFIT
    have h0:¬ wd=0:=hw
    clear hw
    have hnz:((wd:Int) == 0)=false:=beq_eq_false_iff_ne.2 (by omega)
    by_cases hlen:s.size=wd+2
    ·have hl:((s.size:Int) != (wd:Int)+2)=false:=by rw[hlen];simp
     obtain⟨d,hd⟩:∃ d,s[wd+1]=d:=⟨_,rfl⟩
     have hixd:∀ u:World,(Instr.index 9 (.string s) (.int .i64 ((wd:Int)+1))).run Tryz.prog u=.ok (.int .u8 (d.toNat:Int)) u:=fun u=>by
      rw[← hd];exact index_at s _ (wd+1) (by omega) (by omega) u
     have hat:s.data.toList[wd+1]? = some d:=by rw[List.getElem?_eq_getElem (by rw[sdata];omega),at_data (by omega),hd]
     by_cases h39:d=39
     ·have z3:((d.toNat:Int) != 39)=false:=byte_eq' (d:=39) h39
      have HR:Hid (runeOf s.data.toList=(n,0,0)):=Lib.hid (by rw[HFN.out];exact fin_yes h0 (by rw[sdata];exact hlen) (by rw[hat,h39]))
      clear h39 hat hd hlen
      go_enter Tryz.func170,Tryz.ntmps170
      go_wp2_with (first|(go_at_call 186;refine(HCH.out _).mono ?_;rintro e w1 ⟨rfl,hb⟩;have HB1:=Lib.hid hb;have hbz:=hb.size;clear hb)|(go_at_call 185;refine(HES.out _).mono ?_;rintro e w2 ⟨rfl,hb⟩;have HB2:=Lib.hid hb;clear hb))
      go_ret3
      exact⟨by rw[HR.out];rfl,HB1.out.trans (HB2.out.mono hbz)⟩
     ·have z3:((d.toNat:Int) != 39)=true:=byte_ne' (d:=39) h39
      have HR:Hid (runeOf s.data.toList=(0,107,0)):=Lib.hid (by rw[HFN.out];exact fin_no (fun g=>h39 (by have:=g.2.2;rw[hat] at this;exact Option.some.inj this)))
      clear h39 hat hd hlen
      go_enter Tryz.func170,Tryz.ntmps170
      go_wp2_with (first|(go_at_call 186;refine(HCH.out _).mono ?_;rintro e w1 ⟨rfl,hb⟩;have HB1:=Lib.hid hb;have hbz:=hb.size;clear hb)|(go_at_call 185;refine(HES.out _).mono ?_;rintro e w2 ⟨rfl,hb⟩;have HB2:=Lib.hid hb;clear hb))
      go_ret3
      exact⟨by rw[HR.out];rfl,HB1.out.trans (HB2.out.mono hbz)⟩
    ·have hl:((s.size:Int) != (wd:Int)+2)=true:=by simp;omega
     have HR:Hid (runeOf s.data.toList=(0,107,0)):=Lib.hid (by rw[HFN.out];exact fin_no (fun g=>hlen (by have:=g.2.1;rwa [sdata] at this)))
     go_enter Tryz.func170,Tryz.ntmps170
     go_wp2_with (first|(go_at_call 186;refine(HCH.out _).mono ?_;rintro e w1 ⟨rfl,hb⟩;have HB1:=Lib.hid hb;have hbz:=hb.size;clear hb)|(go_at_call 185;refine(HES.out _).mono ?_;rintro e w2 ⟨rfl,hb⟩;have HB2:=Lib.hid hb;clear hb))
     go_ret3
     exact⟨by rw[HR.out];rfl,HB1.out.trans (HB2.out.mono hbz)⟩
  ·have z92:((c.toNat:Int) == 92)=false:=byte_ne (d:=92) c92
   rw[if_neg c92] at e
   by_cases c3:c=39
   ·have z39:((c.toNat:Int) == 39)=true:=byte_eq (d:=39) c3
    rw[if_pos (.inl c3)] at e
    have HF:=Lib.hid e
    clear e c3 c92 hc
    by_cases h0:m=0
    ·have hnz:((m:Int) == 0)=true:=by rw[h0];rfl
     clear h0
     go_enter Tryz.func170,Tryz.ntmps170
     go_wp2_with (go_at_call 186;refine(HCH.out _).mono ?_;rintro e w1 ⟨rfl,hb⟩;have HB1:=Lib.hid hb;have hbz:=hb.size;clear hb)
     go_ret3
     exact⟨by rw[HF.out];rfl,HB1.out⟩
    ·have hnz:((m:Int) == 0)=false:=beq_eq_false_iff_ne.2 (by omega)
     clear h0
     go_enter Tryz.func170,Tryz.ntmps170
     go_wp2_with (go_at_call 186;refine(HCH.out _).mono ?_;rintro e w1 ⟨rfl,hb⟩;have HB1:=Lib.hid hb;have hbz:=hb.size;clear hb)
     go_ret3
     exact⟨by rw[HF.out];rfl,HB1.out⟩
   have z39:((c.toNat:Int) == 39)=false:=byte_ne (d:=39) c3
   by_cases c1:c=10
   ·have z10:((c.toNat:Int) == 10)=true:=byte_eq (d:=10) c1
    rw[if_pos (.inr c1)] at e
    have HF:=Lib.hid e
    clear e c3 c92 c1 hc
    by_cases h0:m=0
    ·have hnz:((m:Int) == 0)=true:=by rw[h0];rfl
     clear h0
     go_enter Tryz.func170,Tryz.ntmps170
     go_wp2_with (go_at_call 186;refine(HCH.out _).mono ?_;rintro e w1 ⟨rfl,hb⟩;have HB1:=Lib.hid hb;have hbz:=hb.size;clear hb)
     go_ret3
     exact⟨by rw[HF.out];rfl,HB1.out⟩
    ·have hnz:((m:Int) == 0)=false:=beq_eq_false_iff_ne.2 (by omega)
     clear h0
     go_enter Tryz.func170,Tryz.ntmps170
     go_wp2_with (go_at_call 186;refine(HCH.out _).mono ?_;rintro e w1 ⟨rfl,hb⟩;have HB1:=Lib.hid hb;have hbz:=hb.size;clear hb)
     go_ret3
     exact⟨by rw[HF.out];rfl,HB1.out⟩
   have z10:((c.toNat:Int) == 10)=false:=byte_ne (d:=10) c1
   rw[if_neg (fun g=>g.elim c3 c1)] at e
   have HFN:=Lib.hid e
   clear e c3 c92 c1 hc
   by_cases h0:m=0
   ·have hnz:((m:Int) == 0)=true:=by rw[h0];rfl
    have HR:Hid (runeOf s.data.toList=(0,107,0)):=Lib.hid (by rw[HFN.out];exact fin_no (fun g=>g.1 h0))
    clear h0
    go_enter Tryz.func170,Tryz.ntmps170
    go_wp2_with (go_at_call 186;refine(HCH.out _).mono ?_;rintro e w1 ⟨rfl,hb⟩;have HB1:=Lib.hid hb;have hbz:=hb.size;clear hb)
    go_ret3
    exact⟨by rw[HR.out];rfl,HB1.out⟩
   have hnz:((m:Int) == 0)=false:=beq_eq_false_iff_ne.2 (by omega)
   by_cases hlen:s.size=m+2
   ·have hl:((s.size:Int) != (m:Int)+2)=false:=by rw[hlen];simp
    obtain⟨d,hd⟩:∃ d,s[m+1]=d:=⟨_,rfl⟩
    have hixd:∀ u:World,(Instr.index 9 (.string s) (.int .i64 ((m:Int)+1))).run Tryz.prog u=.ok (.int .u8 (d.toNat:Int)) u:=fun u=>by
     rw[← hd];exact index_at s _ (m+1) (by omega) (by omega) u
    have hat:s.data.toList[m+1]? = some d:=by rw[List.getElem?_eq_getElem (by rw[sdata];omega),at_data (by omega),hd]
    by_cases h39:d=39
    ·have z3:((d.toNat:Int) != 39)=false:=byte_eq' (d:=39) h39
     have HR:Hid (runeOf s.data.toList=(p,0,0)):=Lib.hid (by rw[HFN.out];exact fin_yes h0 (by rw[sdata];exact hlen) (by rw[hat,h39]))
     clear h39 hat hd hlen
     go_enter Tryz.func170,Tryz.ntmps170
     go_wp2_with (go_at_call 186;refine(HCH.out _).mono ?_;rintro e w1 ⟨rfl,hb⟩;have HB1:=Lib.hid hb;have hbz:=hb.size;clear hb)
     go_ret3
     exact⟨by rw[HR.out];rfl,HB1.out⟩
    ·have z3:((d.toNat:Int) != 39)=true:=byte_ne' (d:=39) h39
     have HR:Hid (runeOf s.data.toList=(0,107,0)):=Lib.hid (by rw[HFN.out];exact fin_no (fun g=>h39 (by have:=g.2.2;rw[hat] at this;exact Option.some.inj this)))
     clear h39 hat hd hlen
     go_enter Tryz.func170,Tryz.ntmps170
     go_wp2_with (go_at_call 186;refine(HCH.out _).mono ?_;rintro e w1 ⟨rfl,hb⟩;have HB1:=Lib.hid hb;have hbz:=hb.size;clear hb)
     go_ret3
     exact⟨by rw[HR.out];rfl,HB1.out⟩
   ·have hl:((s.size:Int) != (m:Int)+2)=true:=by simp;omega
    have HR:Hid (runeOf s.data.toList=(0,107,0)):=Lib.hid (by rw[HFN.out];exact fin_no (fun g=>hlen (by have:=g.2.1;rwa [sdata] at this)))
    go_enter Tryz.func170,Tryz.ntmps170
    go_wp2_with (go_at_call 186;refine(HCH.out _).mono ?_;rintro e w1 ⟨rfl,hb⟩;have HB1:=Lib.hid hb;have hbz:=hb.size;clear hb)
    go_ret3
    exact⟨by rw[HR.out];rfl,HB1.out⟩
 ·have za:((a.toNat:Int) != 39)=true:=byte_ne' (d:=39) ca
  rw[if_neg ca] at e
  have HF:=Lib.hid e
  clear e ca ha hc
  go_enter Tryz.func170,Tryz.ntmps170
  go_wp2_with fail
  go_ret3
  exact⟨by rw[HF.out];rfl,Below.refl _ _⟩
end Go.Proofs.YtcekbbkidipbnaaGreat.tok
