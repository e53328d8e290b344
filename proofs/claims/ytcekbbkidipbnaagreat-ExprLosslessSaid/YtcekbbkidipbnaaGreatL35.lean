/-
  Texts put together: RefCharB.
-/
import Derived.Test.YtcekbbkidipbnaaGreatL34
set_option maxRecDepth 100000
set_option maxHeartbeats 8000000
namespace Go.Proofs.YtcekbbkidipbnaaGreat.tok
open Go.RowKit
theorem refChar_more (s:ByteArray) (c:UInt8) (w:World) (hs:s.size≤140737488351232) (h1:1<s.size) (hc:s[1]=c) (h128:128≤c.toNat) :
  Calls Tryz.prog 186 #[.string s,.int .i64 1] w (Chr (charC s.data.toList) w):=by
 have hix0:∀ u:World,(Instr.index 9 (.string s) (.int .i64 1)).run Tryz.prog u=.ok (.int .u8 (c.toNat:Int)) u:=fun u=>by
  rw[index_at s 1 1 (by omega) (by omega) u,hc]
 have hbz:∀ j,∀ h:j<s.size,bz s.data.toList j=(s[j].toNat:Int):=fun j h=>by
  unfold bz
  rw[List.getD_eq_getElem?_getD,List.getElem?_eq_getElem (by rw[sdata];exact h),at_data h]
  rfl
 have HC1:Hid (bz s.data.toList 1=(c.toNat:Int)):=Lib.hid (by rw[hbz 1 h1,hc])
 have HIX:Hid (∀ (z:Int) (j:Nat),z=(j:Int)→j<s.size→∀ u:World,(Instr.index 9 (.string s) (.int .i64 z)).run Tryz.prog u=.ok (.int .u8 (bz s.data.toList j)) u):=Lib.hid (fun z j hz hj u=>by
  rw[hbz j hj];exact index_at s z j hz hj u)
 have hd:decide ((s.size:Int)≤1)=false:=decide_eq_false (by omega)
 have hc0:(0:Int)≤(c.toNat:Int):=by omega
 have hc1:(c.toNat:Int)≤255:=by have:=UInt8.toNat_lt c;omega
 have hd2:decide ((c.toNat:Int)<128)=false:=decide_eq_false (by omega)
 have HSL:=Lib.hid (sdata s)
 clear hc hbz
 go_enter Tryz.func186,Tryz.ntmps186
 go_wp2_with fail
 go_loopw [7] (fun nv wr=>∃ n:Nat,2≤n∧n≤5∧nv=.int .i64 n∧(∀ m,2≤m→m<n→1+m≤s.size∧¬ hitC s.data.toList m)∧Below w.heap.size w wr) (fun nv _=>5 - (intOf nv).toNat)
 case atStart=>exact⟨2,by omega,by omega,rfl,fun m _ _=>by omega,Below.refl _ _⟩
 case round=>
  obtain⟨n,hn2,hn5,rfl,hbef,hbel⟩:=hrel
  have hsz:=hbel.size
  have HB:=Lib.hid hbel
  have HBF:=Lib.hid hbef
  clear hbel hbef
  by_cases hin:n≤4∧1+n≤s.size
  ·obtain⟨hn4,hns⟩:=hin
   have hda:decide ((n:Int)≤4)=true:=decide_eq_true (by omega)
   have hdb:decide (1+(n:Int)≤(s.size:Int))=true:=decide_eq_true (by omega)
   have hnn:n=2∨n=3∨n=4:=by omega
   clear hn4
   rcases hnn with rfl|rfl|rfl
   ·have HU0:Hid (uTo s.data.toList 2 0=(c.toNat:Int) - 192):=Lib.hid (by rw[← HC1.out];rfl)
    by_cases hlo:192≤(c.toNat:Int)
    ·obtain⟨g,hg1⟩:∃ g,decide ((c.toNat:Int) - 192<32)=g:=⟨_,rfl⟩
     go_wp2_with fail
     have hg:okTo s.data.toList 2 0=g:=by
      show(decide (192≤bz s.data.toList 1) && decide (bz s.data.toList 1 - 192<32))=_
      rw[HC1.out]
      rw[decide_eq_true hlo,hg1];rfl
     go_loop [9,10,11] (fun u b i=>∃ k:Nat,k≤1∧i=.int .i64 (2+(k:Int))∧b=.bool (okTo s.data.toList 2 k)∧u=.int .i64 (uTo s.data.toList 2 k)) (fun _ _ i=>3 - (intOf i).toNat)
     case atStart=>exact⟨0,by omega,rfl,by rw[hg],by rw[HU0.out]⟩
     case round=>
      obtain⟨k,hk,rfl,rfl,rfl⟩:=hrel
      clear hg
      by_cases hkl:k<1
      ·have hdk:decide (2+(k:Int)<3)=true:=decide_eq_true (by omega)
       have hix:=HIX.out (2+(k:Int)) (2+k) (by omega) (by omega)
       have hub:=uTo_bounds s.data.toList 2 k (by omega)
       have HO1:Hid (okTo s.data.toList 2 (k+1)=(okTo s.data.toList 2 k && decide (bz s.data.toList (2+k) / 64*64=128))):=Lib.hid rfl
       have HU1:Hid (uTo s.data.toList 2 (k+1)=uTo s.data.toList 2 k*64+bz s.data.toList (2+k) % 64):=Lib.hid rfl
       obtain⟨x,hx⟩:∃ x,bz s.data.toList (2+k)=x:=⟨_,rfl⟩
       obtain⟨hx0,hx1⟩:=bz_bounds s.data.toList (2+k)
       obtain⟨u,hu⟩:∃ u,uTo s.data.toList 2 k=u:=⟨_,rfl⟩
       obtain⟨b,hb⟩:∃ b,okTo s.data.toList 2 k=b:=⟨_,rfl⟩
       rw[hx] at hix HO1 HU1 hx0 hx1
       rw[hu] at hub HU1 ⊢
       rw[hb] at HO1 ⊢
       have a1:=and192 x hx0 hx1
       have a2:=and63 x hx0 hx1
       clear hx hu hb
       cases b with
       |false=>
        go_wp2_with fail
        go_round
        case rel=>exact⟨k+1,by omega,by go_num,by rw[HO1.out];rfl,by rw[HU1.out]⟩
        case measure=>simp [intOf];omega
       |true=>
        go_wp2_with fail
        go_round
        case rel=>exact⟨k+1,by omega,by go_num,by rw[HO1.out,Bool.true_and];rfl,by rw[HU1.out]⟩
        case measure=>simp [intOf];omega
      ·obtain rfl:k=1:=by omega
       obtain⟨u,hu⟩:∃ u,uTo s.data.toList 2 1=u:=⟨_,rfl⟩
       obtain⟨b,hb⟩:∃ b,okTo s.data.toList 2 1=b:=⟨_,rfl⟩
       have HH:Hid (hitC s.data.toList 2↔(b=true∧u≤1114111∧(u<55296∨57343<u)∧128≤u)):=Lib.hid (by rw[← hu,← hb];exact Iff.rfl)
       have hub:=uTo_bounds s.data.toList 2 1 (by omega)
       rw[hu] at hub ⊢
       rw[hb]
       have HU:=Lib.hid hu
       clear hu hb hkl hk
       cases b with
       |false=>
        have HNH:Hid (¬ hitC s.data.toList 2):=Lib.hid (fun h=>by have:=(HH.out.1 h).1;cases this)
        clear HH
        go_wp2_with fail
        have HNB:Hid (∀ m,2≤m→m<3→1+m≤s.size∧¬ hitC s.data.toList m):=Lib.hid (fun m h2 h3=>by
         by_cases e:m=2
         ·subst e;exact⟨hns,HNH.out⟩
         ·exact HBF.out m h2 (by omega))
        go_roundw
        case rel=>exact⟨3,by omega,by omega,by go_num,HNB.out,by first|exact HB.out.alloc hsz _|exact(HB.out.alloc hsz _).drew|exact((HB.out.alloc hsz _).alloc (by rw[World.size_alloc];omega) _)|exact((HB.out.alloc hsz _).alloc (by rw[World.size_alloc];omega) _).drew⟩
        case measure=>simp [intOf]
       |true=>
        by_cases u1:u≤1114111
        ·have du1:decide (u≤1114111)=true:=decide_eq_true u1
         by_cases u2:u<55296
         ·have du2:decide (u<55296)=true:=decide_eq_true u2
          by_cases u4:128≤u
          ·have du4:decide (128≤u)=true:=decide_eq_true u4
           have HR:Hid (charC s.data.toList=(u,2)):=Lib.hid (by rw[charC,if_pos ⟨by rw[HSL.out];omega,HH.out.2 ⟨rfl,u1,.inl u2,u4⟩⟩,HU.out])
           clear HH u1 u2 u4
           go_wp2_with fail
           go_ret2
           exact⟨by rw[HR.out];rfl,by first|exact HB.out.alloc hsz _|exact(HB.out.alloc hsz _).drew|exact((HB.out.alloc hsz _).alloc (by rw[World.size_alloc];omega) _)|exact((HB.out.alloc hsz _).alloc (by rw[World.size_alloc];omega) _).drew⟩
          ·have du4:decide (128≤u)=false:=decide_eq_false u4
           have HNH:Hid (¬ hitC s.data.toList 2):=Lib.hid (fun h=>u4 (HH.out.1 h).2.2.2)
           clear HH u1 u2 u4
           go_wp2_with fail
           have HNB:Hid (∀ m,2≤m→m<3→1+m≤s.size∧¬ hitC s.data.toList m):=Lib.hid (fun m h2 h3=>by
            by_cases e:m=2
            ·subst e;exact⟨hns,HNH.out⟩
            ·exact HBF.out m h2 (by omega))
           go_roundw
           case rel=>exact⟨3,by omega,by omega,by go_num,HNB.out,by first|exact HB.out.alloc hsz _|exact(HB.out.alloc hsz _).drew|exact((HB.out.alloc hsz _).alloc (by rw[World.size_alloc];omega) _)|exact((HB.out.alloc hsz _).alloc (by rw[World.size_alloc];omega) _).drew⟩
           case measure=>simp [intOf]
         ·have du2:decide (u<55296)=false:=decide_eq_false u2
          by_cases u3:57343<u
          ·have du3:decide (57343<u)=true:=decide_eq_true u3
           by_cases u4:128≤u
           ·have du4:decide (128≤u)=true:=decide_eq_true u4
            have HR:Hid (charC s.data.toList=(u,2)):=Lib.hid (by rw[charC,if_pos ⟨by rw[HSL.out];omega,HH.out.2 ⟨rfl,u1,.inr u3,u4⟩⟩,HU.out])
            clear HH u1 u2 u4 u3
            go_wp2_with fail
            go_ret2
            exact⟨by rw[HR.out];rfl,by first|exact HB.out.alloc hsz _|exact(HB.out.alloc hsz _).drew|exact((HB.out.alloc hsz _).alloc (by rw[World.size_alloc];omega) _)|exact((HB.out.alloc hsz _).alloc (by rw[World.size_alloc];omega) _).drew⟩
           ·have du4:decide (128≤u)=false:=decide_eq_false u4
            have HNH:Hid (¬ hitC s.data.toList 2):=Lib.hid (fun h=>u4 (HH.out.1 h).2.2.2)
            clear HH u1 u2 u4 u3
            go_wp2_with fail
            have HNB:Hid (∀ m,2≤m→m<3→1+m≤s.size∧¬ hitC s.data.toList m):=Lib.hid (fun m h2 h3=>by
             by_cases e:m=2
             ·subst e;exact⟨hns,HNH.out⟩
             ·exact HBF.out m h2 (by omega))
            go_roundw
            case rel=>exact⟨3,by omega,by omega,by go_num,HNB.out,by first|exact HB.out.alloc hsz _|exact(HB.out.alloc hsz _).drew|exact((HB.out.alloc hsz _).alloc (by rw[World.size_alloc];omega) _)|exact((HB.out.alloc hsz _).alloc (by rw[World.size_alloc];omega) _).drew⟩
            case measure=>simp [intOf]
          ·have du3:decide (57343<u)=false:=decide_eq_false u3
           have HNH:Hid (¬ hitC s.data.toList 2):=Lib.hid (fun h=>by have:=(HH.out.1 h).2.2.1;omega)
           clear HH u1 u2 u3
           go_wp2_with fail
           have HNB:Hid (∀ m,2≤m→m<3→1+m≤s.size∧¬ hitC s.data.toList m):=Lib.hid (fun m h2 h3=>by
            by_cases e:m=2
            ·subst e;exact⟨hns,HNH.out⟩
            ·exact HBF.out m h2 (by omega))
           go_roundw
           case rel=>exact⟨3,by omega,by omega,by go_num,HNB.out,by first|exact HB.out.alloc hsz _|exact(HB.out.alloc hsz _).drew|exact((HB.out.alloc hsz _).alloc (by rw[World.size_alloc];omega) _)|exact((HB.out.alloc hsz _).alloc (by rw[World.size_alloc];omega) _).drew⟩
           case measure=>simp [intOf]
        ·have du1:decide (u≤1114111)=false:=decide_eq_false u1
         have HNH:Hid (¬ hitC s.data.toList 2):=Lib.hid (fun h=>u1 (HH.out.1 h).2.1)
         clear HH u1
         go_wp2_with fail
         have HNB:Hid (∀ m,2≤m→m<3→1+m≤s.size∧¬ hitC s.data.toList m):=Lib.hid (fun m h2 h3=>by
          by_cases e:m=2
          ·subst e;exact⟨hns,HNH.out⟩
          ·exact HBF.out m h2 (by omega))
         go_roundw
         case rel=>exact⟨3,by omega,by omega,by go_num,HNB.out,by first|exact HB.out.alloc hsz _|exact(HB.out.alloc hsz _).drew|exact((HB.out.alloc hsz _).alloc (by rw[World.size_alloc];omega) _)|exact((HB.out.alloc hsz _).alloc (by rw[World.size_alloc];omega) _).drew⟩
         case measure=>simp [intOf]
    ·go_wp2_with fail
     have hg:okTo s.data.toList 2 0=false:=by
      show(decide (192≤bz s.data.toList 1) && decide (bz s.data.toList 1 - 192<32))=_
      rw[HC1.out]
      rw[decide_eq_false (by omega)];rfl
     go_loop [9,10,11] (fun u b i=>∃ k:Nat,k≤1∧i=.int .i64 (2+(k:Int))∧b=.bool (okTo s.data.toList 2 k)∧u=.int .i64 (uTo s.data.toList 2 k)) (fun _ _ i=>3 - (intOf i).toNat)
     case atStart=>exact⟨0,by omega,rfl,by rw[hg],by rw[HU0.out]⟩
     case round=>
      obtain⟨k,hk,rfl,rfl,rfl⟩:=hrel
      clear hg
      by_cases hkl:k<1
      ·have hdk:decide (2+(k:Int)<3)=true:=decide_eq_true (by omega)
       have hix:=HIX.out (2+(k:Int)) (2+k) (by omega) (by omega)
       have hub:=uTo_bounds s.data.toList 2 k (by omega)
       have HO1:Hid (okTo s.data.toList 2 (k+1)=(okTo s.data.toList 2 k && decide (bz s.data.toList (2+k) / 64*64=128))):=Lib.hid rfl
       have HU1:Hid (uTo s.data.toList 2 (k+1)=uTo s.data.toList 2 k*64+bz s.data.toList (2+k) % 64):=Lib.hid rfl
       obtain⟨x,hx⟩:∃ x,bz s.data.toList (2+k)=x:=⟨_,rfl⟩
       obtain⟨hx0,hx1⟩:=bz_bounds s.data.toList (2+k)
       obtain⟨u,hu⟩:∃ u,uTo s.data.toList 2 k=u:=⟨_,rfl⟩
       obtain⟨b,hb⟩:∃ b,okTo s.data.toList 2 k=b:=⟨_,rfl⟩
       rw[hx] at hix HO1 HU1 hx0 hx1
       rw[hu] at hub HU1 ⊢
       rw[hb] at HO1 ⊢
       have a1:=and192 x hx0 hx1
       have a2:=and63 x hx0 hx1
       clear hx hu hb
       cases b with
       |false=>
        go_wp2_with fail
        go_round
        case rel=>exact⟨k+1,by omega,by go_num,by rw[HO1.out];rfl,by rw[HU1.out]⟩
        case measure=>simp [intOf];omega
       |true=>
        go_wp2_with fail
        go_round
        case rel=>exact⟨k+1,by omega,by go_num,by rw[HO1.out,Bool.true_and];rfl,by rw[HU1.out]⟩
        case measure=>simp [intOf];omega
      ·obtain rfl:k=1:=by omega
       obtain⟨u,hu⟩:∃ u,uTo s.data.toList 2 1=u:=⟨_,rfl⟩
       obtain⟨b,hb⟩:∃ b,okTo s.data.toList 2 1=b:=⟨_,rfl⟩
       have HH:Hid (hitC s.data.toList 2↔(b=true∧u≤1114111∧(u<55296∨57343<u)∧128≤u)):=Lib.hid (by rw[← hu,← hb];exact Iff.rfl)
       have hub:=uTo_bounds s.data.toList 2 1 (by omega)
       rw[hu] at hub ⊢
       rw[hb]
       have HU:=Lib.hid hu
       clear hu hb hkl hk
       cases b with
       |false=>
        have HNH:Hid (¬ hitC s.data.toList 2):=Lib.hid (fun h=>by have:=(HH.out.1 h).1;cases this)
        clear HH
        go_wp2_with fail
        have HNB:Hid (∀ m,2≤m→m<3→1+m≤s.size∧¬ hitC s.data.toList m):=Lib.hid (fun m h2 h3=>by
         by_cases e:m=2
         ·subst e;exact⟨hns,HNH.out⟩
         ·exact HBF.out m h2 (by omega))
        go_roundw
        case rel=>exact⟨3,by omega,by omega,by go_num,HNB.out,by first|exact HB.out.alloc hsz _|exact(HB.out.alloc hsz _).drew|exact((HB.out.alloc hsz _).alloc (by rw[World.size_alloc];omega) _)|exact((HB.out.alloc hsz _).alloc (by rw[World.size_alloc];omega) _).drew⟩
        case measure=>simp [intOf]
       |true=>
        by_cases u1:u≤1114111
        ·have du1:decide (u≤1114111)=true:=decide_eq_true u1
         by_cases u2:u<55296
         ·have du2:decide (u<55296)=true:=decide_eq_true u2
          by_cases u4:128≤u
          ·have du4:decide (128≤u)=true:=decide_eq_true u4
           have HR:Hid (charC s.data.toList=(u,2)):=Lib.hid (by rw[charC,if_pos ⟨by rw[HSL.out];omega,HH.out.2 ⟨rfl,u1,.inl u2,u4⟩⟩,HU.out])
           clear HH u1 u2 u4
           go_wp2_with fail
           go_ret2
           exact⟨by rw[HR.out];rfl,by first|exact HB.out.alloc hsz _|exact(HB.out.alloc hsz _).drew|exact((HB.out.alloc hsz _).alloc (by rw[World.size_alloc];omega) _)|exact((HB.out.alloc hsz _).alloc (by rw[World.size_alloc];omega) _).drew⟩
          ·have du4:decide (128≤u)=false:=decide_eq_false u4
           have HNH:Hid (¬ hitC s.data.toList 2):=Lib.hid (fun h=>u4 (HH.out.1 h).2.2.2)
           clear HH u1 u2 u4
           go_wp2_with fail
           have HNB:Hid (∀ m,2≤m→m<3→1+m≤s.size∧¬ hitC s.data.toList m):=Lib.hid (fun m h2 h3=>by
            by_cases e:m=2
            ·subst e;exact⟨hns,HNH.out⟩
            ·exact HBF.out m h2 (by omega))
           go_roundw
           case rel=>exact⟨3,by omega,by omega,by go_num,HNB.out,by first|exact HB.out.alloc hsz _|exact(HB.out.alloc hsz _).drew|exact((HB.out.alloc hsz _).alloc (by rw[World.size_alloc];omega) _)|exact((HB.out.alloc hsz _).alloc (by rw[World.size_alloc];omega) _).drew⟩
           case measure=>simp [intOf]
         ·have du2:decide (u<55296)=false:=decide_eq_false u2
          by_cases u3:57343<u
          ·have du3:decide (57343<u)=true:=decide_eq_true u3
           by_cases u4:128≤u
           ·have du4:decide (128≤u)=true:=decide_eq_true u4
            have HR:Hid (charC s.data.toList=(u,2)):=Lib.hid (by rw[charC,if_pos ⟨by rw[HSL.out];omega,HH.out.2 ⟨rfl,u1,.inr u3,u4⟩⟩,HU.out])
            clear HH u1 u2 u4 u3
            go_wp2_with fail
            go_ret2
            exact⟨by rw[HR.out];rfl,by first|exact HB.out.alloc hsz _|exact(HB.out.alloc hsz _).drew|exact((HB.out.alloc hsz _).alloc (by rw[World.size_alloc];omega) _)|exact((HB.out.alloc hsz _).alloc (by rw[World.size_alloc];omega) _).drew⟩
           ·have du4:decide (128≤u)=false:=decide_eq_false u4
            have HNH:Hid (¬ hitC s.data.toList 2):=Lib.hid (fun h=>u4 (HH.out.1 h).2.2.2)
            clear HH u1 u2 u4 u3
            go_wp2_with fail
            have HNB:Hid (∀ m,2≤m→m<3→1+m≤s.size∧¬ hitC s.data.toList m):=Lib.hid (fun m h2 h3=>by
             by_cases e:m=2
             ·subst e;exact⟨hns,HNH.out⟩
             ·exact HBF.out m h2 (by omega))
            go_roundw
            case rel=>exact⟨3,by omega,by omega,by go_num,HNB.out,by first|exact HB.out.alloc hsz _|exact(HB.out.alloc hsz _).drew|exact((HB.out.alloc hsz _).alloc (by rw[World.size_alloc];omega) _)|exact((HB.out.alloc hsz _).alloc (by rw[World.size_alloc];omega) _).drew⟩
            case measure=>simp [intOf]
          ·have du3:decide (57343<u)=false:=decide_eq_false u3
           have HNH:Hid (¬ hitC s.data.toList 2):=Lib.hid (fun h=>by have:=(HH.out.1 h).2.2.1;omega)
           clear HH u1 u2 u3
           go_wp2_with fail
           have HNB:Hid (∀ m,2≤m→m<3→1+m≤s.size∧¬ hitC s.data.toList m):=Lib.hid (fun m h2 h3=>by
            by_cases e:m=2
            ·subst e;exact⟨hns,HNH.out⟩
            ·exact HBF.out m h2 (by omega))
           go_roundw
           case rel=>exact⟨3,by omega,by omega,by go_num,HNB.out,by first|exact HB.out.alloc hsz _|exact(HB.out.alloc hsz _).drew|exact((HB.out.alloc hsz _).alloc (by rw[World.size_alloc];omega) _)|exact((HB.out.alloc hsz _).alloc (by rw[World.size_alloc];omega) _).drew⟩
           case measure=>simp [intOf]
        ·have du1:decide (u≤1114111)=false:=decide_eq_false u1
         have HNH:Hid (¬ hitC s.data.toList 2):=Lib.hid (fun h=>u1 (HH.out.1 h).2.1)
         clear HH u1
         go_wp2_with fail
         have HNB:Hid (∀ m,2≤m→m<3→1+m≤s.size∧¬ hitC s.data.toList m):=Lib.hid (fun m h2 h3=>by
          by_cases e:m=2
          ·subst e;exact⟨hns,HNH.out⟩
          ·exact HBF.out m h2 (by omega))
         go_roundw
         case rel=>exact⟨3,by omega,by omega,by go_num,HNB.out,by first|exact HB.out.alloc hsz _|exact(HB.out.alloc hsz _).drew|exact((HB.out.alloc hsz _).alloc (by rw[World.size_alloc];omega) _)|exact((HB.out.alloc hsz _).alloc (by rw[World.size_alloc];omega) _).drew⟩
         case measure=>simp [intOf]
   ·have HU0:Hid (uTo s.data.toList 3 0=(c.toNat:Int) - 224):=Lib.hid (by rw[← HC1.out];rfl)
    by_cases hlo:224≤(c.toNat:Int)
    ·obtain⟨g,hg1⟩:∃ g,decide ((c.toNat:Int) - 224<16)=g:=⟨_,rfl⟩
     go_wp2_with fail
     have hg:okTo s.data.toList 3 0=g:=by
      show(decide (224≤bz s.data.toList 1) && decide (bz s.data.toList 1 - 224<16))=_
      rw[HC1.out]
      rw[decide_eq_true hlo,hg1];rfl
     go_loop [9,10,11] (fun u b i=>∃ k:Nat,k≤2∧i=.int .i64 (2+(k:Int))∧b=.bool (okTo s.data.toList 3 k)∧u=.int .i64 (uTo s.data.toList 3 k)) (fun _ _ i=>4 - (intOf i).toNat)
     case atStart=>exact⟨0,by omega,rfl,by rw[hg],by rw[HU0.out]⟩
     case round=>
      obtain⟨k,hk,rfl,rfl,rfl⟩:=hrel
      clear hg
      by_cases hkl:k<2
      ·have hdk:decide (2+(k:Int)<4)=true:=decide_eq_true (by omega)
       have hix:=HIX.out (2+(k:Int)) (2+k) (by omega) (by omega)
       have hub:=uTo_bounds s.data.toList 3 k (by omega)
       have HO1:Hid (okTo s.data.toList 3 (k+1)=(okTo s.data.toList 3 k && decide (bz s.data.toList (2+k) / 64*64=128))):=Lib.hid rfl
       have HU1:Hid (uTo s.data.toList 3 (k+1)=uTo s.data.toList 3 k*64+bz s.data.toList (2+k) % 64):=Lib.hid rfl
       obtain⟨x,hx⟩:∃ x,bz s.data.toList (2+k)=x:=⟨_,rfl⟩
       obtain⟨hx0,hx1⟩:=bz_bounds s.data.toList (2+k)
       obtain⟨u,hu⟩:∃ u,uTo s.data.toList 3 k=u:=⟨_,rfl⟩
       obtain⟨b,hb⟩:∃ b,okTo s.data.toList 3 k=b:=⟨_,rfl⟩
       rw[hx] at hix HO1 HU1 hx0 hx1
       rw[hu] at hub HU1 ⊢
       rw[hb] at HO1 ⊢
       have a1:=and192 x hx0 hx1
       have a2:=and63 x hx0 hx1
       clear hx hu hb
       cases b with
       |false=>
        go_wp2_with fail
        go_round
        case rel=>exact⟨k+1,by omega,by go_num,by rw[HO1.out];rfl,by rw[HU1.out]⟩
        case measure=>simp [intOf];omega
       |true=>
        go_wp2_with fail
        go_round
        case rel=>exact⟨k+1,by omega,by go_num,by rw[HO1.out,Bool.true_and];rfl,by rw[HU1.out]⟩
        case measure=>simp [intOf];omega
      ·obtain rfl:k=2:=by omega
       obtain⟨u,hu⟩:∃ u,uTo s.data.toList 3 2=u:=⟨_,rfl⟩
       obtain⟨b,hb⟩:∃ b,okTo s.data.toList 3 2=b:=⟨_,rfl⟩
       have HH:Hid (hitC s.data.toList 3↔(b=true∧u≤1114111∧(u<55296∨57343<u)∧2048≤u)):=Lib.hid (by rw[← hu,← hb];exact Iff.rfl)
       have hub:=uTo_bounds s.data.toList 3 2 (by omega)
       rw[hu] at hub ⊢
       rw[hb]
       have HU:=Lib.hid hu
       clear hu hb hkl hk
       cases b with
       |false=>
        have HNH:Hid (¬ hitC s.data.toList 3):=Lib.hid (fun h=>by have:=(HH.out.1 h).1;cases this)
        clear HH
        go_wp2_with fail
        have HNB:Hid (∀ m,2≤m→m<4→1+m≤s.size∧¬ hitC s.data.toList m):=Lib.hid (fun m h2 h3=>by
         by_cases e:m=3
         ·subst e;exact⟨hns,HNH.out⟩
         ·exact HBF.out m h2 (by omega))
        go_roundw
        case rel=>exact⟨4,by omega,by omega,by go_num,HNB.out,by first|exact HB.out.alloc hsz _|exact(HB.out.alloc hsz _).drew|exact((HB.out.alloc hsz _).alloc (by rw[World.size_alloc];omega) _)|exact((HB.out.alloc hsz _).alloc (by rw[World.size_alloc];omega) _).drew⟩
        case measure=>simp [intOf]
       |true=>
        by_cases u1:u≤1114111
        ·have du1:decide (u≤1114111)=true:=decide_eq_true u1
         by_cases u2:u<55296
         ·have du2:decide (u<55296)=true:=decide_eq_true u2
          by_cases u4:2048≤u
          ·have du4:decide (2048≤u)=true:=decide_eq_true u4
           have HR:Hid (charC s.data.toList=(u,3)):=Lib.hid (by rw[charC,if_neg (fun g=>(HBF.out 2 (by omega) (by omega)).2 g.2),if_pos ⟨by rw[HSL.out];omega,HH.out.2 ⟨rfl,u1,.inl u2,u4⟩⟩,HU.out])
           clear HH u1 u2 u4
           go_wp2_with fail
           go_ret2
           exact⟨by rw[HR.out];rfl,by first|exact HB.out.alloc hsz _|exact(HB.out.alloc hsz _).drew|exact((HB.out.alloc hsz _).alloc (by rw[World.size_alloc];omega) _)|exact((HB.out.alloc hsz _).alloc (by rw[World.size_alloc];omega) _).drew⟩
          ·have du4:decide (2048≤u)=false:=decide_eq_false u4
           have HNH:Hid (¬ hitC s.data.toList 3):=Lib.hid (fun h=>u4 (HH.out.1 h).2.2.2)
           clear HH u1 u2 u4
           go_wp2_with fail
           have HNB:Hid (∀ m,2≤m→m<4→1+m≤s.size∧¬ hitC s.data.toList m):=Lib.hid (fun m h2 h3=>by
            by_cases e:m=3
            ·subst e;exact⟨hns,HNH.out⟩
            ·exact HBF.out m h2 (by omega))
           go_roundw
           case rel=>exact⟨4,by omega,by omega,by go_num,HNB.out,by first|exact HB.out.alloc hsz _|exact(HB.out.alloc hsz _).drew|exact((HB.out.alloc hsz _).alloc (by rw[World.size_alloc];omega) _)|exact((HB.out.alloc hsz _).alloc (by rw[World.size_alloc];omega) _).drew⟩
           case measure=>simp [intOf]
         ·have du2:decide (u<55296)=false:=decide_eq_false u2
          by_cases u3:57343<u
          ·have du3:decide (57343<u)=true:=decide_eq_true u3
           by_cases u4:2048≤u
           ·have du4:decide (2048≤u)=true:=decide_eq_true u4
            have HR:Hid (charC s.data.toList=(u,3)):=Lib.hid (by rw[charC,if_neg (fun g=>(HBF.out 2 (by omega) (by omega)).2 g.2),if_pos ⟨by rw[HSL.out];omega,HH.out.2 ⟨rfl,u1,.inr u3,u4⟩⟩,HU.out])
            clear HH u1 u2 u4 u3
            go_wp2_with fail
            go_ret2
            exact⟨by rw[HR.out];rfl,by first|exact HB.out.alloc hsz _|exact(HB.out.alloc hsz _).drew|exact((HB.out.alloc hsz _).alloc (by rw[World.size_alloc];omega) _)|exact((HB.out.alloc hsz _).alloc (by rw[World.size_alloc];omega) _).drew⟩
           ·have du4:decide (2048≤u)=false:=decide_eq_false u4
            have HNH:Hid (¬ hitC s.data.toList 3):=Lib.hid (fun h=>u4 (HH.out.1 h).2.2.2)
            clear HH u1 u2 u4 u3
            go_wp2_with fail
            have HNB:Hid (∀ m,2≤m→m<4→1+m≤s.size∧¬ hitC s.data.toList m):=Lib.hid (fun m h2 h3=>by
             by_cases e:m=3
             ·subst e;exact⟨hns,HNH.out⟩
             ·exact HBF.out m h2 (by omega))
            go_roundw
            case rel=>exact⟨4,by omega,by omega,by go_num,HNB.out,by first|exact HB.out.alloc hsz _|exact(HB.out.alloc hsz _).drew|exact((HB.out.alloc hsz _).alloc (by rw[World.size_alloc];omega) _)|exact((HB.out.alloc hsz _).alloc (by rw[World.size_alloc];omega) _).drew⟩
            case measure=>simp [intOf]
          ·have du3:decide (57343<u)=false:=decide_eq_false u3
           have HNH:Hid (¬ hitC s.data.toList 3):=Lib.hid (fun h=>by have:=(HH.out.1 h).2.2.1;omega)
           clear HH u1 u2 u3
           go_wp2_with fail
           have HNB:Hid (∀ m,2≤m→m<4→1+m≤s.size∧¬ hitC s.data.toList m):=Lib.hid (fun m h2 h3=>by
            by_cases e:m=3
            ·subst e;exact⟨hns,HNH.out⟩
            ·exact HBF.out m h2 (by omega))
           go_roundw
           case rel=>exact⟨4,by omega,by omega,by go_num,HNB.out,by first|exact HB.out.alloc hsz _|exact(HB.out.alloc hsz _).drew|exact((HB.out.alloc hsz _).alloc (by rw[World.size_alloc];omega) _)|exact((HB.out.alloc hsz _).alloc (by rw[World.size_alloc];omega) _).drew⟩
           case measure=>simp [intOf]
        ·have du1:decide (u≤1114111)=false:=decide_eq_false u1
         have HNH:Hid (¬ hitC s.data.toList 3):=Lib.hid (fun h=>u1 (HH.out.1 h).2.1)
         clear HH u1
         go_wp2_with fail
         have HNB:Hid (∀ m,2≤m→m<4→1+m≤s.size∧¬ hitC s.data.toList m):=Lib.hid (fun m h2 h3=>by
          by_cases e:m=3
          ·subst e;exact⟨hns,HNH.out⟩
          ·exact HBF.out m h2 (by omega))
         go_roundw
         case rel=>exact⟨4,by omega,by omega,by go_num,HNB.out,by first|exact HB.out.alloc hsz _|exact(HB.out.alloc hsz _).drew|exact((HB.out.alloc hsz _).alloc (by rw[World.size_alloc];omega) _)|exact((HB.out.alloc hsz _).alloc (by rw[World.size_alloc];omega) _).drew⟩
         case measure=>simp [intOf]
    ·go_wp2_with fail
     have hg:okTo s.data.toList 3 0=false:=by
      show(decide (224≤bz s.data.toList 1) && decide (bz s.data.toList 1 - 224<16))=_
      rw[HC1.out]
      rw[decide_eq_false (by omega)];rfl
     go_loop [9,10,11] (fun u b i=>∃ k:Nat,k≤2∧i=.int .i64 (2+(k:Int))∧b=.bool (okTo s.data.toList 3 k)∧u=.int .i64 (uTo s.data.toList 3 k)) (fun _ _ i=>4 - (intOf i).toNat)
     case atStart=>exact⟨0,by omega,rfl,by rw[hg],by rw[HU0.out]⟩
     case round=>
      obtain⟨k,hk,rfl,rfl,rfl⟩:=hrel
      clear hg
      by_cases hkl:k<2
      ·have hdk:decide (2+(k:Int)<4)=true:=decide_eq_true (by omega)
       have hix:=HIX.out (2+(k:Int)) (2+k) (by omega) (by omega)
       have hub:=uTo_bounds s.data.toList 3 k (by omega)
       have HO1:Hid (okTo s.data.toList 3 (k+1)=(okTo s.data.toList 3 k && decide (bz s.data.toList (2+k) / 64*64=128))):=Lib.hid rfl
       have HU1:Hid (uTo s.data.toList 3 (k+1)=uTo s.data.toList 3 k*64+bz s.data.toList (2+k) % 64):=Lib.hid rfl
       obtain⟨x,hx⟩:∃ x,bz s.data.toList (2+k)=x:=⟨_,rfl⟩
       obtain⟨hx0,hx1⟩:=bz_bounds s.data.toList (2+k)
       obtain⟨u,hu⟩:∃ u,uTo s.data.toList 3 k=u:=⟨_,rfl⟩
       obtain⟨b,hb⟩:∃ b,okTo s.data.toList 3 k=b:=⟨_,rfl⟩
       rw[hx] at hix HO1 HU1 hx0 hx1
       rw[hu] at hub HU1 ⊢
       rw[hb] at HO1 ⊢
       have a1:=and192 x hx0 hx1
       have a2:=and63 x hx0 hx1
       clear hx hu hb
       cases b with
       |false=>
        go_wp2_with fail
        go_round
        case rel=>exact⟨k+1,by omega,by go_num,by rw[HO1.out];rfl,by rw[HU1.out]⟩
        case measure=>simp [intOf];omega
       |true=>
        go_wp2_with fail
        go_round
        case rel=>exact⟨k+1,by omega,by go_num,by rw[HO1.out,Bool.true_and];rfl,by rw[HU1.out]⟩
        case measure=>simp [intOf];omega
      ·obtain rfl:k=2:=by omega
       obtain⟨u,hu⟩:∃ u,uTo s.data.toList 3 2=u:=⟨_,rfl⟩
       obtain⟨b,hb⟩:∃ b,okTo s.data.toList 3 2=b:=⟨_,rfl⟩
       have HH:Hid (hitC s.data.toList 3↔(b=true∧u≤1114111∧(u<55296∨57343<u)∧2048≤u)):=Lib.hid (by rw[← hu,← hb];exact Iff.rfl)
       have hub:=uTo_bounds s.data.toList 3 2 (by omega)
       rw[hu] at hub ⊢
       rw[hb]
       have HU:=Lib.hid hu
       clear hu hb hkl hk
       cases b with
       |false=>
        have HNH:Hid (¬ hitC s.data.toList 3):=Lib.hid (fun h=>by have:=(HH.out.1 h).1;cases this)
        clear HH
        go_wp2_with fail
        have HNB:Hid (∀ m,2≤m→m<4→1+m≤s.size∧¬ hitC s.data.toList m):=Lib.hid (fun m h2 h3=>by
         by_cases e:m=3
         ·subst e;exact⟨hns,HNH.out⟩
         ·exact HBF.out m h2 (by omega))
        go_roundw
        case rel=>exact⟨4,by omega,by omega,by go_num,HNB.out,by first|exact HB.out.alloc hsz _|exact(HB.out.alloc hsz _).drew|exact((HB.out.alloc hsz _).alloc (by rw[World.size_alloc];omega) _)|exact((HB.out.alloc hsz _).alloc (by rw[World.size_alloc];omega) _).drew⟩
        case measure=>simp [intOf]
       |true=>
        by_cases u1:u≤1114111
        ·have du1:decide (u≤1114111)=true:=decide_eq_true u1
         by_cases u2:u<55296
         ·have du2:decide (u<55296)=true:=decide_eq_true u2
          by_cases u4:2048≤u
          ·have du4:decide (2048≤u)=true:=decide_eq_true u4
           have HR:Hid (charC s.data.toList=(u,3)):=Lib.hid (by rw[charC,if_neg (fun g=>(HBF.out 2 (by omega) (by omega)).2 g.2),if_pos ⟨by rw[HSL.out];omega,HH.out.2 ⟨rfl,u1,.inl u2,u4⟩⟩,HU.out])
           clear HH u1 u2 u4
           go_wp2_with fail
           go_ret2
           exact⟨by rw[HR.out];rfl,by first|exact HB.out.alloc hsz _|exact(HB.out.alloc hsz _).drew|exact((HB.out.alloc hsz _).alloc (by rw[World.size_alloc];omega) _)|exact((HB.out.alloc hsz _).alloc (by rw[World.size_alloc];omega) _).drew⟩
          ·have du4:decide (2048≤u)=false:=decide_eq_false u4
           have HNH:Hid (¬ hitC s.data.toList 3):=Lib.hid (fun h=>u4 (HH.out.1 h).2.2.2)
           clear HH u1 u2 u4
           go_wp2_with fail
           have HNB:Hid (∀ m,2≤m→m<4→1+m≤s.size∧¬ hitC s.data.toList m):=Lib.hid (fun m h2 h3=>by
            by_cases e:m=3
            ·subst e;exact⟨hns,HNH.out⟩
            ·exact HBF.out m h2 (by omega))
           go_roundw
           case rel=>exact⟨4,by omega,by omega,by go_num,HNB.out,by first|exact HB.out.alloc hsz _|exact(HB.out.alloc hsz _).drew|exact((HB.out.alloc hsz _).alloc (by rw[World.size_alloc];omega) _)|exact((HB.out.alloc hsz _).alloc (by rw[World.size_alloc];omega) _).drew⟩
           case measure=>simp [intOf]
         ·have du2:decide (u<55296)=false:=decide_eq_false u2
          by_cases u3:57343<u
          ·have du3:decide (57343<u)=true:=decide_eq_true u3
           by_cases u4:2048≤u
           ·have du4:decide (2048≤u)=true:=decide_eq_true u4
            have HR:Hid (charC s.data.toList=(u,3)):=Lib.hid (by rw[charC,if_neg (fun g=>(HBF.out 2 (by omega) (by omega)).2 g.2),if_pos ⟨by rw[HSL.out];omega,HH.out.2 ⟨rfl,u1,.inr u3,u4⟩⟩,HU.out])
            clear HH u1 u2 u4 u3
            go_wp2_with fail
            go_ret2
            exact⟨by rw[HR.out];rfl,by first|exact HB.out.alloc hsz _|exact(HB.out.alloc hsz _).drew|exact((HB.out.alloc hsz _).alloc (by rw[World.size_alloc];omega) _)|exact((HB.out.alloc hsz _).alloc (by rw[World.size_alloc];omega) _).drew⟩
           ·have du4:decide (2048≤u)=false:=decide_eq_false u4
            have HNH:Hid (¬ hitC s.data.toList 3):=Lib.hid (fun h=>u4 (HH.out.1 h).2.2.2)
            clear HH u1 u2 u4 u3
            go_wp2_with fail
            have HNB:Hid (∀ m,2≤m→m<4→1+m≤s.size∧¬ hitC s.data.toList m):=Lib.hid (fun m h2 h3=>by
             by_cases e:m=3
             ·subst e;exact⟨hns,HNH.out⟩
             ·exact HBF.out m h2 (by omega))
            go_roundw
            case rel=>exact⟨4,by omega,by omega,by go_num,HNB.out,by first|exact HB.out.alloc hsz _|exact(HB.out.alloc hsz _).drew|exact((HB.out.alloc hsz _).alloc (by rw[World.size_alloc];omega) _)|exact((HB.out.alloc hsz _).alloc (by rw[World.size_alloc];omega) _).drew⟩
            case measure=>simp [intOf]
          ·have du3:decide (57343<u)=false:=decide_eq_false u3
           have HNH:Hid (¬ hitC s.data.toList 3):=Lib.hid (fun h=>by have:=(HH.out.1 h).2.2.1;omega)
           clear HH u1 u2 u3
           go_wp2_with fail
           have HNB:Hid (∀ m,2≤m→m<4→1+m≤s.size∧¬ hitC s.data.toList m):=Lib.hid (fun m h2 h3=>by
            by_cases e:m=3
            ·subst e;exact⟨hns,HNH.out⟩
            ·exact HBF.out m h2 (by omega))
           go_roundw
           case rel=>exact⟨4,by omega,by omega,by go_num,HNB.out,by first|exact HB.out.alloc hsz _|exact(HB.out.alloc hsz _).drew|exact((HB.out.alloc hsz _).alloc (by rw[World.size_alloc];omega) _)|exact((HB.out.alloc hsz _).alloc (by rw[World.size_alloc];omega) _).drew⟩
           case measure=>simp [intOf]
        ·have du1:decide (u≤1114111)=false:=decide_eq_false u1
         have HNH:Hid (¬ hitC s.data.toList 3):=Lib.hid (fun h=>u1 (HH.out.1 h).2.1)
         clear HH u1
         go_wp2_with fail
         have HNB:Hid (∀ m,2≤m→m<4→1+m≤s.size∧¬ hitC s.data.toList m):=Lib.hid (fun m h2 h3=>by
          by_cases e:m=3
          ·subst e;exact⟨hns,HNH.out⟩
          ·exact HBF.out m h2 (by omega))
         go_roundw
         case rel=>exact⟨4,by omega,by omega,by go_num,HNB.out,by first|exact HB.out.alloc hsz _|exact(HB.out.alloc hsz _).drew|exact((HB.out.alloc hsz _).alloc (by rw[World.size_alloc];omega) _)|exact((HB.out.alloc hsz _).alloc (by rw[World.size_alloc];omega) _).drew⟩
         case measure=>simp [intOf]
   ·have HU0:Hid (uTo s.data.toList 4 0=(c.toNat:Int) - 240):=Lib.hid (by rw[← HC1.out];rfl)
    by_cases hlo:240≤(c.toNat:Int)
    ·obtain⟨g,hg1⟩:∃ g,decide ((c.toNat:Int) - 240<8)=g:=⟨_,rfl⟩
     go_wp2_with fail
     have hg:okTo s.data.toList 4 0=g:=by
      show(decide (240≤bz s.data.toList 1) && decide (bz s.data.toList 1 - 240<8))=_
      rw[HC1.out]
      rw[decide_eq_true hlo,hg1];rfl
     go_loop [9,10,11] (fun u b i=>∃ k:Nat,k≤3∧i=.int .i64 (2+(k:Int))∧b=.bool (okTo s.data.toList 4 k)∧u=.int .i64 (uTo s.data.toList 4 k)) (fun _ _ i=>5 - (intOf i).toNat)
     case atStart=>exact⟨0,by omega,rfl,by rw[hg],by rw[HU0.out]⟩
     case round=>
      obtain⟨k,hk,rfl,rfl,rfl⟩:=hrel
      clear hg
      by_cases hkl:k<3
      ·have hdk:decide (2+(k:Int)<5)=true:=decide_eq_true (by omega)
       have hix:=HIX.out (2+(k:Int)) (2+k) (by omega) (by omega)
       have hub:=uTo_bounds s.data.toList 4 k (by omega)
       have HO1:Hid (okTo s.data.toList 4 (k+1)=(okTo s.data.toList 4 k && decide (bz s.data.toList (2+k) / 64*64=128))):=Lib.hid rfl
       have HU1:Hid (uTo s.data.toList 4 (k+1)=uTo s.data.toList 4 k*64+bz s.data.toList (2+k) % 64):=Lib.hid rfl
       obtain⟨x,hx⟩:∃ x,bz s.data.toList (2+k)=x:=⟨_,rfl⟩
       obtain⟨hx0,hx1⟩:=bz_bounds s.data.toList (2+k)
       obtain⟨u,hu⟩:∃ u,uTo s.data.toList 4 k=u:=⟨_,rfl⟩
       obtain⟨b,hb⟩:∃ b,okTo s.data.toList 4 k=b:=⟨_,rfl⟩
       rw[hx] at hix HO1 HU1 hx0 hx1
       rw[hu] at hub HU1 ⊢
       rw[hb] at HO1 ⊢
       have a1:=and192 x hx0 hx1
       have a2:=and63 x hx0 hx1
       clear hx hu hb
       cases b with
       |false=>
        go_wp2_with fail
        go_round
        case rel=>exact⟨k+1,by omega,by go_num,by rw[HO1.out];rfl,by rw[HU1.out]⟩
        case measure=>simp [intOf];omega
       |true=>
        go_wp2_with fail
        go_round
        case rel=>exact⟨k+1,by omega,by go_num,by rw[HO1.out,Bool.true_and];rfl,by rw[HU1.out]⟩
        case measure=>simp [intOf];omega
      ·obtain rfl:k=3:=by omega
       obtain⟨u,hu⟩:∃ u,uTo s.data.toList 4 3=u:=⟨_,rfl⟩
       obtain⟨b,hb⟩:∃ b,okTo s.data.toList 4 3=b:=⟨_,rfl⟩
       have HH:Hid (hitC s.data.toList 4↔(b=true∧u≤1114111∧(u<55296∨57343<u)∧65536≤u)):=Lib.hid (by rw[← hu,← hb];exact Iff.rfl)
       have hub:=uTo_bounds s.data.toList 4 3 (by omega)
       rw[hu] at hub ⊢
       rw[hb]
       have HU:=Lib.hid hu
       clear hu hb hkl hk
       cases b with
       |false=>
        have HNH:Hid (¬ hitC s.data.toList 4):=Lib.hid (fun h=>by have:=(HH.out.1 h).1;cases this)
        clear HH
        go_wp2_with fail
        have HNB:Hid (∀ m,2≤m→m<5→1+m≤s.size∧¬ hitC s.data.toList m):=Lib.hid (fun m h2 h3=>by
         by_cases e:m=4
         ·subst e;exact⟨hns,HNH.out⟩
         ·exact HBF.out m h2 (by omega))
        go_roundw
        case rel=>exact⟨5,by omega,by omega,by go_num,HNB.out,by first|exact HB.out.alloc hsz _|exact(HB.out.alloc hsz _).drew|exact((HB.out.alloc hsz _).alloc (by rw[World.size_alloc];omega) _)|exact((HB.out.alloc hsz _).alloc (by rw[World.size_alloc];omega) _).drew⟩
        case measure=>simp [intOf]
       |true=>
        by_cases u1:u≤1114111
        ·have du1:decide (u≤1114111)=true:=decide_eq_true u1
         by_cases u2:u<55296
         ·have du2:decide (u<55296)=true:=decide_eq_true u2
          by_cases u4:65536≤u
          ·have du4:decide (65536≤u)=true:=decide_eq_true u4
           have HR:Hid (charC s.data.toList=(u,4)):=Lib.hid (by rw[charC,if_neg (fun g=>(HBF.out 2 (by omega) (by omega)).2 g.2),if_neg (fun g=>(HBF.out 3 (by omega) (by omega)).2 g.2),if_pos ⟨by rw[HSL.out];omega,HH.out.2 ⟨rfl,u1,.inl u2,u4⟩⟩,HU.out])
           clear HH u1 u2 u4
           go_wp2_with fail
           go_ret2
           exact⟨by rw[HR.out];rfl,by first|exact HB.out.alloc hsz _|exact(HB.out.alloc hsz _).drew|exact((HB.out.alloc hsz _).alloc (by rw[World.size_alloc];omega) _)|exact((HB.out.alloc hsz _).alloc (by rw[World.size_alloc];omega) _).drew⟩
          ·have du4:decide (65536≤u)=false:=decide_eq_false u4
           have HNH:Hid (¬ hitC s.data.toList 4):=Lib.hid (fun h=>u4 (HH.out.1 h).2.2.2)
           clear HH u1 u2 u4
           go_wp2_with fail
           have HNB:Hid (∀ m,2≤m→m<5→1+m≤s.size∧¬ hitC s.data.toList m):=Lib.hid (fun m h2 h3=>by
            by_cases e:m=4
            ·subst e;exact⟨hns,HNH.out⟩
            ·exact HBF.out m h2 (by omega))
           go_roundw
           case rel=>exact⟨5,by omega,by omega,by go_num,HNB.out,by first|exact HB.out.alloc hsz _|exact(HB.out.alloc hsz _).drew|exact((HB.out.alloc hsz _).alloc (by rw[World.size_alloc];omega) _)|exact((HB.out.alloc hsz _).alloc (by rw[World.size_alloc];omega) _).drew⟩
           case measure=>simp [intOf]
         ·have du2:decide (u<55296)=false:=decide_eq_false u2
          by_cases u3:57343<u
          ·have du3:decide (57343<u)=true:=decide_eq_true u3
           by_cases u4:65536≤u
           ·have du4:decide (65536≤u)=true:=decide_eq_true u4
            have HR:Hid (charC s.data.toList=(u,4)):=Lib.hid (by rw[charC,if_neg (fun g=>(HBF.out 2 (by omega) (by omega)).2 g.2),if_neg (fun g=>(HBF.out 3 (by omega) (by omega)).2 g.2),if_pos ⟨by rw[HSL.out];omega,HH.out.2 ⟨rfl,u1,.inr u3,u4⟩⟩,HU.out])
            clear HH u1 u2 u4 u3
            go_wp2_with fail
            go_ret2
            exact⟨by rw[HR.out];rfl,by first|exact HB.out.alloc hsz _|exact(HB.out.alloc hsz _).drew|exact((HB.out.alloc hsz _).alloc (by rw[World.size_alloc];omega) _)|exact((HB.out.alloc hsz _).alloc (by rw[World.size_alloc];omega) _).drew⟩
           ·have du4:decide (65536≤u)=false:=decide_eq_false u4
            have HNH:Hid (¬ hitC s.data.toList 4):=Lib.hid (fun h=>u4 (HH.out.1 h).2.2.2)
            clear HH u1 u2 u4 u3
            go_wp2_with fail
            have HNB:Hid (∀ m,2≤m→m<5→1+m≤s.size∧¬ hitC s.data.toList m):=Lib.hid (fun m h2 h3=>by
             by_cases e:m=4
             ·subst e;exact⟨hns,HNH.out⟩
             ·exact HBF.out m h2 (by omega))
            go_roundw
            case rel=>exact⟨5,by omega,by omega,by go_num,HNB.out,by first|exact HB.out.alloc hsz _|exact(HB.out.alloc hsz _).drew|exact((HB.out.alloc hsz _).alloc (by rw[World.size_alloc];omega) _)|exact((HB.out.alloc hsz _).alloc (by rw[World.size_alloc];omega) _).drew⟩
            case measure=>simp [intOf]
          ·have du3:decide (57343<u)=false:=decide_eq_false u3
           have HNH:Hid (¬ hitC s.data.toList 4):=Lib.hid (fun h=>by have:=(HH.out.1 h).2.2.1;omega)
           clear HH u1 u2 u3
           go_wp2_with fail
           have HNB:Hid (∀ m,2≤m→m<5→1+m≤s.size∧¬ hitC s.data.toList m):=Lib.hid (fun m h2 h3=>by
            by_cases e:m=4
            ·subst e;exact⟨hns,HNH.out⟩
            ·exact HBF.out m h2 (by omega))
           go_roundw
           case rel=>exact⟨5,by omega,by omega,by go_num,HNB.out,by first|exact HB.out.alloc hsz _|exact(HB.out.alloc hsz _).drew|exact((HB.out.alloc hsz _).alloc (by rw[World.size_alloc];omega) _)|exact((HB.out.alloc hsz _).alloc (by rw[World.size_alloc];omega) _).drew⟩
           case measure=>simp [intOf]
        ·have du1:decide (u≤1114111)=false:=decide_eq_false u1
         have HNH:Hid (¬ hitC s.data.toList 4):=Lib.hid (fun h=>u1 (HH.out.1 h).2.1)
         clear HH u1
         go_wp2_with fail
         have HNB:Hid (∀ m,2≤m→m<5→1+m≤s.size∧¬ hitC s.data.toList m):=Lib.hid (fun m h2 h3=>by
          by_cases e:m=4
          ·subst e;exact⟨hns,HNH.out⟩
          ·exact HBF.out m h2 (by omega))
         go_roundw
         case rel=>exact⟨5,by omega,by omega,by go_num,HNB.out,by first|exact HB.out.alloc hsz _|exact(HB.out.alloc hsz _).drew|exact((HB.out.alloc hsz _).alloc (by rw[World.size_alloc];omega) _)|exact((HB.out.alloc hsz _).alloc (by rw[World.size_alloc];omega) _).drew⟩
         case measure=>simp [intOf]
    ·go_wp2_with fail
     have hg:okTo s.data.toList 4 0=false:=by
      show(decide (240≤bz s.data.toList 1) && decide (bz s.data.toList 1 - 240<8))=_
      rw[HC1.out]
      rw[decide_eq_false (by omega)];rfl
     go_loop [9,10,11] (fun u b i=>∃ k:Nat,k≤3∧i=.int .i64 (2+(k:Int))∧b=.bool (okTo s.data.toList 4 k)∧u=.int .i64 (uTo s.data.toList 4 k)) (fun _ _ i=>5 - (intOf i).toNat)
     case atStart=>exact⟨0,by omega,rfl,by rw[hg],by rw[HU0.out]⟩
     case round=>
      obtain⟨k,hk,rfl,rfl,rfl⟩:=hrel
      clear hg
      by_cases hkl:k<3
      ·have hdk:decide (2+(k:Int)<5)=true:=decide_eq_true (by omega)
       have hix:=HIX.out (2+(k:Int)) (2+k) (by omega) (by omega)
       have hub:=uTo_bounds s.data.toList 4 k (by omega)
       have HO1:Hid (okTo s.data.toList 4 (k+1)=(okTo s.data.toList 4 k && decide (bz s.data.toList (2+k) / 64*64=128))):=Lib.hid rfl
       have HU1:Hid (uTo s.data.toList 4 (k+1)=uTo s.data.toList 4 k*64+bz s.data.toList (2+k) % 64):=Lib.hid rfl
       obtain⟨x,hx⟩:∃ x,bz s.data.toList (2+k)=x:=⟨_,rfl⟩
       obtain⟨hx0,hx1⟩:=bz_bounds s.data.toList (2+k)
       obtain⟨u,hu⟩:∃ u,uTo s.data.toList 4 k=u:=⟨_,rfl⟩
       obtain⟨b,hb⟩:∃ b,okTo s.data.toList 4 k=b:=⟨_,rfl⟩
       rw[hx] at hix HO1 HU1 hx0 hx1
       rw[hu] at hub HU1 ⊢
       rw[hb] at HO1 ⊢
       have a1:=and192 x hx0 hx1
       have a2:=and63 x hx0 hx1
       clear hx hu hb
       cases b with
       |false=>
        go_wp2_with fail
        go_round
        case rel=>exact⟨k+1,by omega,by go_num,by rw[HO1.out];rfl,by rw[HU1.out]⟩
        case measure=>simp [intOf];omega
       |true=>
        go_wp2_with fail
        go_round
        case rel=>exact⟨k+1,by omega,by go_num,by rw[HO1.out,Bool.true_and];rfl,by rw[HU1.out]⟩
        case measure=>simp [intOf];omega
      ·obtain rfl:k=3:=by omega
       obtain⟨u,hu⟩:∃ u,uTo s.data.toList 4 3=u:=⟨_,rfl⟩
       obtain⟨b,hb⟩:∃ b,okTo s.data.toList 4 3=b:=⟨_,rfl⟩
       have HH:Hid (hitC s.data.toList 4↔(b=true∧u≤1114111∧(u<55296∨57343<u)∧65536≤u)):=Lib.hid (by rw[← hu,← hb];exact Iff.rfl)
       have hub:=uTo_bounds s.data.toList 4 3 (by omega)
       rw[hu] at hub ⊢
       rw[hb]
       have HU:=Lib.hid hu
       clear hu hb hkl hk
       cases b with
       |false=>
        have HNH:Hid (¬ hitC s.data.toList 4):=Lib.hid (fun h=>by have:=(HH.out.1 h).1;cases this)
        clear HH
        go_wp2_with fail
        have HNB:Hid (∀ m,2≤m→m<5→1+m≤s.size∧¬ hitC s.data.toList m):=Lib.hid (fun m h2 h3=>by
         by_cases e:m=4
         ·subst e;exact⟨hns,HNH.out⟩
         ·exact HBF.out m h2 (by omega))
        go_roundw
        case rel=>exact⟨5,by omega,by omega,by go_num,HNB.out,by first|exact HB.out.alloc hsz _|exact(HB.out.alloc hsz _).drew|exact((HB.out.alloc hsz _).alloc (by rw[World.size_alloc];omega) _)|exact((HB.out.alloc hsz _).alloc (by rw[World.size_alloc];omega) _).drew⟩
        case measure=>simp [intOf]
       |true=>
        by_cases u1:u≤1114111
        ·have du1:decide (u≤1114111)=true:=decide_eq_true u1
         by_cases u2:u<55296
         ·have du2:decide (u<55296)=true:=decide_eq_true u2
          by_cases u4:65536≤u
          ·have du4:decide (65536≤u)=true:=decide_eq_true u4
           have HR:Hid (charC s.data.toList=(u,4)):=Lib.hid (by rw[charC,if_neg (fun g=>(HBF.out 2 (by omega) (by omega)).2 g.2),if_neg (fun g=>(HBF.out 3 (by omega) (by omega)).2 g.2),if_pos ⟨by rw[HSL.out];omega,HH.out.2 ⟨rfl,u1,.inl u2,u4⟩⟩,HU.out])
           clear HH u1 u2 u4
           go_wp2_with fail
           go_ret2
           exact⟨by rw[HR.out];rfl,by first|exact HB.out.alloc hsz _|exact(HB.out.alloc hsz _).drew|exact((HB.out.alloc hsz _).alloc (by rw[World.size_alloc];omega) _)|exact((HB.out.alloc hsz _).alloc (by rw[World.size_alloc];omega) _).drew⟩
          ·have du4:decide (65536≤u)=false:=decide_eq_false u4
           have HNH:Hid (¬ hitC s.data.toList 4):=Lib.hid (fun h=>u4 (HH.out.1 h).2.2.2)
           clear HH u1 u2 u4
           go_wp2_with fail
           have HNB:Hid (∀ m,2≤m→m<5→1+m≤s.size∧¬ hitC s.data.toList m):=Lib.hid (fun m h2 h3=>by
            by_cases e:m=4
            ·subst e;exact⟨hns,HNH.out⟩
            ·exact HBF.out m h2 (by omega))
           go_roundw
           case rel=>exact⟨5,by omega,by omega,by go_num,HNB.out,by first|exact HB.out.alloc hsz _|exact(HB.out.alloc hsz _).drew|exact((HB.out.alloc hsz _).alloc (by rw[World.size_alloc];omega) _)|exact((HB.out.alloc hsz _).alloc (by rw[World.size_alloc];omega) _).drew⟩
           case measure=>simp [intOf]
         ·have du2:decide (u<55296)=false:=decide_eq_false u2
          by_cases u3:57343<u
          ·have du3:decide (57343<u)=true:=decide_eq_true u3
           by_cases u4:65536≤u
           ·have du4:decide (65536≤u)=true:=decide_eq_true u4
            have HR:Hid (charC s.data.toList=(u,4)):=Lib.hid (by rw[charC,if_neg (fun g=>(HBF.out 2 (by omega) (by omega)).2 g.2),if_neg (fun g=>(HBF.out 3 (by omega) (by omega)).2 g.2),if_pos ⟨by rw[HSL.out];omega,HH.out.2 ⟨rfl,u1,.inr u3,u4⟩⟩,HU.out])
            clear HH u1 u2 u4 u3
            go_wp2_with fail
            go_ret2
            exact⟨by rw[HR.out];rfl,by first|exact HB.out.alloc hsz _|exact(HB.out.alloc hsz _).drew|exact((HB.out.alloc hsz _).alloc (by rw[World.size_alloc];omega) _)|exact((HB.out.alloc hsz _).alloc (by rw[World.size_alloc];omega) _).drew⟩
           ·have du4:decide (65536≤u)=false:=decide_eq_false u4
            have HNH:Hid (¬ hitC s.data.toList 4):=Lib.hid (fun h=>u4 (HH.out.1 h).2.2.2)
            clear HH u1 u2 u4 u3
            go_wp2_with fail
            have HNB:Hid (∀ m,2≤m→m<5→1+m≤s.size∧¬ hitC s.data.toList m):=Lib.hid (fun m h2 h3=>by
             by_cases e:m=4
             ·subst e;exact⟨hns,HNH.out⟩
             ·exact HBF.out m h2 (by omega))
            go_roundw
            case rel=>exact⟨5,by omega,by omega,by go_num,HNB.out,by first|exact HB.out.alloc hsz _|exact(HB.out.alloc hsz _).drew|exact((HB.out.alloc hsz _).alloc (by rw[World.size_alloc];omega) _)|exact((HB.out.alloc hsz _).alloc (by rw[World.size_alloc];omega) _).drew⟩
            case measure=>simp [intOf]
          ·have du3:decide (57343<u)=false:=decide_eq_false u3
           have HNH:Hid (¬ hitC s.data.toList 4):=Lib.hid (fun h=>by have:=(HH.out.1 h).2.2.1;omega)
           clear HH u1 u2 u3
           go_wp2_with fail
           have HNB:Hid (∀ m,2≤m→m<5→1+m≤s.size∧¬ hitC s.data.toList m):=Lib.hid (fun m h2 h3=>by
            by_cases e:m=4
            ·subst e;exact⟨hns,HNH.out⟩
            ·exact HBF.out m h2 (by omega))
           go_roundw
           case rel=>exact⟨5,by omega,by omega,by go_num,HNB.out,by first|exact HB.out.alloc hsz _|exact(HB.out.alloc hsz _).drew|exact((HB.out.alloc hsz _).alloc (by rw[World.size_alloc];omega) _)|exact((HB.out.alloc hsz _).alloc (by rw[World.size_alloc];omega) _).drew⟩
           case measure=>simp [intOf]
        ·have du1:decide (u≤1114111)=false:=decide_eq_false u1
         have HNH:Hid (¬ hitC s.data.toList 4):=Lib.hid (fun h=>u1 (HH.out.1 h).2.1)
         clear HH u1
         go_wp2_with fail
         have HNB:Hid (∀ m,2≤m→m<5→1+m≤s.size∧¬ hitC s.data.toList m):=Lib.hid (fun m h2 h3=>by
          by_cases e:m=4
          ·subst e;exact⟨hns,HNH.out⟩
          ·exact HBF.out m h2 (by omega))
         go_roundw
         case rel=>exact⟨5,by omega,by omega,by go_num,HNB.out,by first|exact HB.out.alloc hsz _|exact(HB.out.alloc hsz _).drew|exact((HB.out.alloc hsz _).alloc (by rw[World.size_alloc];omega) _)|exact((HB.out.alloc hsz _).alloc (by rw[World.size_alloc];omega) _).drew⟩
         case measure=>simp [intOf]
  ·have HR:Hid (charC s.data.toList=(0,0)):=Lib.hid (by
    have hf:∀ m,2≤m→m≤4→¬ (1+m≤s.data.toList.length∧hitC s.data.toList m):=fun m g2 g4 g=>by
     rw[HSL.out] at g
     by_cases hm:m<n
     ·exact(HBF.out m g2 hm).2 g.2
     ·omega
    rw[charC,if_neg (hf 2 (by omega) (by omega)),if_neg (hf 3 (by omega) (by omega)),if_neg (hf 4 (by omega) (by omega))])
   by_cases hn4:n≤4
   ·have hda:decide ((n:Int)≤4)=true:=decide_eq_true (by omega)
    have hdb:decide (1+(n:Int)≤(s.size:Int))=false:=decide_eq_false (by omega)
    clear hin
    go_wp2_with fail
    go_ret2
    exact⟨by rw[HR.out];rfl,HB.out⟩
   ·have hda:decide ((n:Int)≤4)=false:=decide_eq_false (by omega)
    clear hin
    go_wp2_with fail
    go_ret2
    exact⟨by rw[HR.out];rfl,HB.out⟩
end Go.Proofs.YtcekbbkidipbnaaGreat.tok
