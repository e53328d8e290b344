/-
  Texts put together: RefLists, RefOper.
-/
import Derived.Test.YtcekbbkidipbnaaGreatL21
set_option maxRecDepth 100000
set_option maxHeartbeats 8000000
namespace Go.Proofs.YtcekbbkidipbnaaGreat.tok
open Go.RowKit
theorem refSigns_any (w:World):Calls Tryz.prog 187 #[] w (MadeTexts signs w):=by
 go_enter Tryz.func187,Tryz.ntmps187
 go_wp2_with (go_at_call 183;refine(cut_any _ _ (by decide)).mono ?_;rintro e w1 ⟨v,rfl,ho,hb⟩;have HO:=Lib.hid ho;have HB:=Lib.hid hb;clear ho hb)
 go_ret
 exact⟨_,rfl,HO.out,HB.out⟩
theorem refWords_any (w:World):Calls Tryz.prog 166 #[] w (MadeTexts words w):=by
 go_enter Tryz.func166,Tryz.ntmps166
 go_wp2_with (go_at_call 183;refine(cut_any _ _ (by decide)).mono ?_;rintro e w1 ⟨v,rfl,ho,hb⟩;have HO:=Lib.hid ho;have HB:=Lib.hid hb;clear ho hb)
 go_ret
 exact⟨_,rfl,HO.out,HB.out⟩
theorem refKeyword_any (s:ByteArray) (w:World):Calls Tryz.prog 149 #[.string s] w fun e w'=>e=.returned (.int .i64 (kwOf s.data.toList))∧Below w.heap.size w w':=by
 go_enter Tryz.func149,Tryz.ntmps149
 go_wp2_with (go_at_call 166;refine(refWords_any _).mono ?_;rintro e w1 ⟨v,rfl,ho,hb⟩;obtain⟨g,cap,rfl,hcell⟩:=ho.shape (by decide);rw[words_length] at hcell;rw[words_length];have HC:=Lib.hid hcell;have HB:=Lib.hid hb;clear ho hb hcell)
 go_loop [7] (fun i=>∃ k:Nat,k≤21∧(∀ j,j<k→words.getD j []≠s.data.toList)∧i=.int .i64 k) (fun i=>21 - (intOf i).toNat)
 case atStart=>exact⟨0,by omega,fun j hj=>by omega,rfl⟩
 case round=>
  obtain⟨k,hk,hbef,rfl⟩:=hrel
  have HF:=Lib.hid hbef
  clear hbef
  by_cases hlt:k<21
  ·have hcell:=HC.out k hlt
   obtain⟨x,hx⟩:∃ x,B (words.getD k [])=x:=⟨_,rfl⟩
   rw[hx] at hcell
   have hxl:x.toList=words.getD k []:=by rw[← hx,blist]
   have HX:=Lib.hid hxl
   clear hx hxl
   by_cases he:x.toList=s.toList
   ·have he':(x.toList == s.toList)=true:=by simpa using he
    have HE:Hid (words.getD k []=s.data.toList):=Lib.hid (by rw[← HX.out,he,Lib.toList_data])
    clear he
    go_wp2_with fail
    go_ret
    refine⟨?_,HB.out⟩
    have:=idx_here (l:=words) (by rw[words_length];exact hlt) HE.out HF.out
    unfold kwOf
    rw[this,if_pos hlt]
    rfl
   ·have he':(x.toList == s.toList)=false:=by simpa using he
    have HE:Hid (words.getD k []≠s.data.toList):=Lib.hid (by rw[← HX.out,← Lib.toList_data];exact he)
    clear he
    go_wp2_with fail
    go_round
    case rel=>exact⟨k+1,by omega,fun j hj=>(Decidable.em (j=k)).elim (fun e=>by subst e;exact HE.out) (fun e=>HF.out j (by omega)),by go_num⟩
    case measure=>simp [intOf];omega
  ·go_wp2_with fail
   go_ret
   refine⟨?_,HB.out⟩
   have:=idx_none (l:=words) (s:=s.data.toList) (fun j hj=>HF.out j (by rw[words_length] at hj;omega))
   unfold kwOf
   rw[this,words_length,if_neg (by omega)]
   rfl
open Go.RowKit
theorem semi_yes {s:ByteArray} (h:0<s.size) (hc:s[0]=59):Lib.hasPrefix s.data.toList [59]=true:=by
 have h':0<s.data.toList.length:=by rw[sdata];exact h
 cases hl:s.data.toList with
 |nil=>rw[hl] at h';simp at h'
 |cons a t=>
  have:s.data.toList[0]'h'=59:=(at_data h).trans hc
  simp only[hl,List.getElem_cons_zero] at this
  subst this
  simp [Lib.hasPrefix]
theorem semi_no {s:ByteArray} (h:∀ h:0<s.size,s[0]≠59):Lib.hasPrefix s.data.toList [59]=false:=by
 cases hl:s.data.toList with
 |nil=>rfl
 |cons a t=>
  have h':0<s.size:=by rw[← sdata,hl];simp
  have h2:=h h'
  have:s.data.toList[0]'(by rw[sdata];exact h')=s[0]:=at_data h'
  simp only[hl,List.getElem_cons_zero] at this
  rw[← this] at h2
  show((59:UInt8) == a && List.isPrefixOf [] t)=false
  rw[show((59:UInt8) == a)=false by simpa using Ne.symm h2]
  rfl
def Pair2 (p q:Nat) (w:World) (e:Ending) (w':World):Prop:=e=.returned (.tuple #[.int .i64 p,.int .i64 q])∧Below w.heap.size w w'
theorem refOper_no (s:ByteArray) (w:World) (h0:∀ h:0<s.size,s[0]≠59):Calls Tryz.prog 171 #[.string s] w (Pair2 (best s.data.toList 46).1 (best s.data.toList 46).2 w):=by
 by_cases h:0<s.size
 ·have hd:decide ((0:Int)<(s.size:Int))=true:=decide_eq_true (by omega)
  have h1:=h0 h
  obtain⟨c,hc'⟩:∃ c,s[0]'h=c:=⟨_,rfl⟩
  rw[hc'] at h1
  have hcz:((c.toNat:Int) == 59)=false:=byte_ne (d:=59) h1
  clear h0 h1
  go_enter Tryz.func171,Tryz.ntmps171
  go_wp2_with (go_at_call 187;refine(refSigns_any _).mono ?_;rintro e w1 ⟨v,rfl,ho,hb⟩;obtain⟨g,cap,rfl,hcell⟩:=ho.shape (by decide);rw[signs_length] at hcell;rw[signs_length];have HC:=Lib.hid hcell;have HB:=Lib.hid hb;clear ho hb hcell)
  go_loop [4,5,18] (fun p q i=>∃ k:Nat,k≤46∧p=.int .i64 (best s.data.toList k).1∧q=.int .i64 (best s.data.toList k).2∧i=.int .i64 k) (fun _ _ i=>46 - (intOf i).toNat)
  case atStart=>exact⟨0,by omega,rfl,rfl,rfl⟩
  case round=>
   obtain⟨k,hk,rfl,rfl,rfl⟩:=hrel
   obtain⟨hb1,hb2⟩:=best_le s.data.toList k
   by_cases hlt:k<46
   ·have hcell:=HC.out k hlt
    have hsh:=sign_short k
    obtain⟨x,hx⟩:∃ x,B (signs.getD k [])=x:=⟨_,rfl⟩
    rw[hx] at hcell
    have hxd:x.data.toList=signs.getD k []:=by rw[← hx,bdata]
    have hxs:x.size=(signs.getD k []).length:=by rw[← hx,bsize]
    have hraw:=Lib.hasPrefix_raw s x
    obtain⟨n,hn⟩:∃ n,x.size=n:=⟨_,rfl⟩
    rw[hn] at hraw
    obtain⟨p,q,hpq⟩:∃ p q,best s.data.toList k=(p,q):=⟨_,_,rfl⟩
    rw[hpq] at hb1 hb2
    have hn3:n≤3:=by omega
    have HX:=Lib.hid hxd
    have HL:Hid ((signs.getD k []).length=n):=Lib.hid (by omega)
    have HP:=Lib.hid hpq
    simp only[] at hb1 hb2
    clear hx hxd hxs hsh
    rw[hpq]
    clear hpq
    by_cases c1:q<n
    ·have d1:decide ((q:Int)<(n:Int))=true:=decide_eq_true (by omega)
     by_cases c2:n≤s.size
     ·have d2:decide ((n:Int)≤(s.size:Int))=true:=decide_eq_true (by omega)
      by_cases c3:(s.extract 0 n).toList=x.toList
      ·have d3:((s.extract 0 n).toList == x.toList)=true:=by simpa using c3
       have HC3:Hid (Lib.hasPrefix s.data.toList x.data.toList=true):=Lib.hid (by rw[← hraw,d3,decide_eq_true c2];rfl)
       clear c3 hraw
       go_wp2_with fail
       go_round
       case rel=>
        have e:=best_yes (s:=s.data.toList) (k:=k) (by rw[HP.out,HL.out];exact c1) (by rw[← HX.out];exact HC3.out)
        exact⟨k+1,by omega,by rw[e];show _=Value.int .i64 ((20+k:Nat):Int);go_num,by rw[e];show _=Value.int .i64 (((signs.getD k []).length:Nat):Int);rw[HL.out],by go_num⟩
       case measure=>simp [intOf];omega
      ·have d3:((s.extract 0 n).toList == x.toList)=false:=by simpa using c3
       have HC3:Hid (Lib.hasPrefix s.data.toList x.data.toList=false):=Lib.hid (by rw[← hraw,d3,Bool.and_false])
       clear c3 hraw
       go_wp2_with fail
       go_round
       case rel=>
        have e:=best_no (s:=s.data.toList) (k:=k) (by rw[← HX.out,HC3.out];simp)
        exact⟨k+1,by omega,by rw[e,HP.out],by rw[e,HP.out],by go_num⟩
       case measure=>simp [intOf];omega
     ·have d2:decide ((n:Int)≤(s.size:Int))=false:=decide_eq_false (by omega)
      have HC3:Hid (Lib.hasPrefix s.data.toList x.data.toList=false):=Lib.hid (by rw[← hraw,decide_eq_false c2];rfl)
      clear hraw
      go_wp2_with fail
      go_round
      case rel=>
       have e:=best_no (s:=s.data.toList) (k:=k) (by rw[← HX.out,HC3.out];simp)
       exact⟨k+1,by omega,by rw[e,HP.out],by rw[e,HP.out],by go_num⟩
      case measure=>simp [intOf];omega
    ·have d1:decide ((q:Int)<(n:Int))=false:=decide_eq_false (by omega)
     clear hraw
     go_wp2_with fail
     go_round
     case rel=>
      have e:=best_no (s:=s.data.toList) (k:=k) (by rw[HP.out,HL.out];exact fun h=>c1 h.1)
      exact⟨k+1,by omega,by rw[e,HP.out],by rw[e,HP.out],by go_num⟩
     case measure=>simp [intOf];omega
   ·obtain rfl:k=46:=by omega
    go_wp2_with fail
    go_ret2
    exact⟨rfl,HB.out⟩
 ·have hd:decide ((0:Int)<(s.size:Int))=false:=decide_eq_false (by omega)
  clear h0
  go_enter Tryz.func171,Tryz.ntmps171
  go_wp2_with (go_at_call 187;refine(refSigns_any _).mono ?_;rintro e w1 ⟨v,rfl,ho,hb⟩;obtain⟨g,cap,rfl,hcell⟩:=ho.shape (by decide);rw[signs_length] at hcell;rw[signs_length];have HC:=Lib.hid hcell;have HB:=Lib.hid hb;clear ho hb hcell)
  go_loop [4,5,18] (fun p q i=>∃ k:Nat,k≤46∧p=.int .i64 (best s.data.toList k).1∧q=.int .i64 (best s.data.toList k).2∧i=.int .i64 k) (fun _ _ i=>46 - (intOf i).toNat)
  case atStart=>exact⟨0,by omega,rfl,rfl,rfl⟩
  case round=>
   obtain⟨k,hk,rfl,rfl,rfl⟩:=hrel
   obtain⟨hb1,hb2⟩:=best_le s.data.toList k
   by_cases hlt:k<46
   ·have hcell:=HC.out k hlt
    have hsh:=sign_short k
    obtain⟨x,hx⟩:∃ x,B (signs.getD k [])=x:=⟨_,rfl⟩
    rw[hx] at hcell
    have hxd:x.data.toList=signs.getD k []:=by rw[← hx,bdata]
    have hxs:x.size=(signs.getD k []).length:=by rw[← hx,bsize]
    have hraw:=Lib.hasPrefix_raw s x
    obtain⟨n,hn⟩:∃ n,x.size=n:=⟨_,rfl⟩
    rw[hn] at hraw
    obtain⟨p,q,hpq⟩:∃ p q,best s.data.toList k=(p,q):=⟨_,_,rfl⟩
    rw[hpq] at hb1 hb2
    have hn3:n≤3:=by omega
    have HX:=Lib.hid hxd
    have HL:Hid ((signs.getD k []).length=n):=Lib.hid (by omega)
    have HP:=Lib.hid hpq
    simp only[] at hb1 hb2
    clear hx hxd hxs hsh
    rw[hpq]
    clear hpq
    by_cases c1:q<n
    ·have d1:decide ((q:Int)<(n:Int))=true:=decide_eq_true (by omega)
     by_cases c2:n≤s.size
     ·exfalso;omega
     ·have d2:decide ((n:Int)≤(s.size:Int))=false:=decide_eq_false (by omega)
      have HC3:Hid (Lib.hasPrefix s.data.toList x.data.toList=false):=Lib.hid (by rw[← hraw,decide_eq_false c2];rfl)
      clear hraw
      go_wp2_with fail
      go_round
      case rel=>
       have e:=best_no (s:=s.data.toList) (k:=k) (by rw[← HX.out,HC3.out];simp)
       exact⟨k+1,by omega,by rw[e,HP.out],by rw[e,HP.out],by go_num⟩
      case measure=>simp [intOf];omega
    ·have d1:decide ((q:Int)<(n:Int))=false:=decide_eq_false (by omega)
     clear hraw
     go_wp2_with fail
     go_round
     case rel=>
      have e:=best_no (s:=s.data.toList) (k:=k) (by rw[HP.out,HL.out];exact fun h=>c1 h.1)
      exact⟨k+1,by omega,by rw[e,HP.out],by rw[e,HP.out],by go_num⟩
     case measure=>simp [intOf];omega
   ·obtain rfl:k=46:=by omega
    go_wp2_with fail
    go_ret2
    exact⟨rfl,HB.out⟩
theorem refOper_yes (s:ByteArray) (w:World) (h:0<s.size) (hc:s[0]=59):Calls Tryz.prog 171 #[.string s] w (Pair2 15 1 w):=by
 have hd:decide ((0:Int)<(s.size:Int))=true:=decide_eq_true (by omega)
 obtain⟨c,hc'⟩:∃ c,s[0]'h=c:=⟨_,rfl⟩
 rw[hc'] at hc
 have hcz:((c.toNat:Int) == 59)=true:=byte_eq (d:=59) hc
 clear hc
 go_enter Tryz.func171,Tryz.ntmps171
 go_wp2_with fail
 go_ret2
 exact⟨rfl,Below.refl _ _⟩
theorem refOperator_any (s:ByteArray) (w:World):Calls Tryz.prog 171 #[.string s] w (Pair2 (opOf s.data.toList).1 (opOf s.data.toList).2 w):=by
 by_cases h:∃ h:0<s.size,s[0]=59
 ·obtain⟨h,hc⟩:=h
  have e:opOf s.data.toList=(15,1):=by rw[opOf,if_pos (semi_yes h hc)]
  rw[e]
  exact refOper_yes s w h hc
 ·have h':∀ h:0<s.size,s[0]≠59:=fun a b=>h ⟨a,b⟩
  have e:opOf s.data.toList=best s.data.toList 46:=by rw[opOf,if_neg (by rw[semi_no h'];simp)]
  rw[e]
  exact refOper_no s w h'
end Go.Proofs.YtcekbbkidipbnaaGreat.tok
