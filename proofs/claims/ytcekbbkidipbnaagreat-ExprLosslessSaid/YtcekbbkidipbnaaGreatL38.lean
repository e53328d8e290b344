/-
  Texts put together: Row, RefDigits.
-/
import Derived.Test.YtcekbbkidipbnaaGreatL23
set_option maxRecDepth 100000
set_option maxHeartbeats 8000000
namespace Go.Proofs.YtcekbbkidipbnaaGreat.tok
open Go.RowKit
def rowed (base:Int) (l:List UInt8):List UInt8 × Bool:=match jTo base l l.length with
 |some (d,false)=>(d,true)
 |_=>([],false)
theorem rowed_none {base:Int} {l:List UInt8} (h:jTo base l l.length=none):rowed base l=([],false):=by rw[rowed,h]
theorem rowed_apart {base:Int} {l d:List UInt8} (h:jTo base l l.length=some (d,true)):rowed base l=([],false):=by rw[rowed,h]
theorem jTo_digit_le {base:Int} {l:List UInt8}:∀ k,k≤l.length→∀ d a,jTo base l k=some (d,a)→a=false→d≠[]:=by
 intro k
 induction k with
 |zero=>intro _ d a h g;simp [jTo] at h;rw[g] at h;simp at h
 |succ k ih=>
  intro hk d a h g
  rw[jTo_succ (by omega)] at h
  cases hp:jTo base l k with
  |none=>rw[hp] at h;simp [jStep] at h
  |some p=>
   obtain⟨d',a'⟩:=p
   rw[hp] at h
   simp only[jStep] at h
   split at h
   ·obtain⟨h1,h2⟩:=Prod.mk.inj (Option.some.inj h);rw[← h1];simp
   ·split at h
    ·obtain⟨h1,h2⟩:=Prod.mk.inj (Option.some.inj h);rw[g] at h2;cases h2
    ·cases h
theorem jTo_digit {base:Int} {l d:List UInt8} (h:jTo base l l.length=some (d,false)):d≠[]:=jTo_digit_le _ (Nat.le_refl _) d false h rfl
def Side (l:List UInt8) (k:Nat) (a:Bool):Prop:=(a=true↔k=0∨∃ h:k - 1<l.length,0<k∧l[k - 1]=95)∧(0<k→k=l.length→a=false)
theorem Side.zero (l:List UInt8):Side l 0 true:=⟨⟨fun _=>.inl rfl,fun _=>rfl⟩,fun h=>by omega⟩
theorem Side.prev {l:List UInt8} {k:Nat} {a:Bool} (h:Side l k a) (hk:0<k) (hl:k - 1<l.length):a=true↔l[k - 1]=95:=by
 rw[h.1]
 exact⟨fun g=>g.elim (fun e=>by omega) (fun⟨_,_,e⟩=>e),fun e=>.inr ⟨hl,hk,e⟩⟩
theorem Side.zero_true {l:List UInt8} {k:Nat} {a:Bool} (h:Side l k a) (hk:k=0):a=true:=h.1.2 (.inl hk)
theorem Side.at_end {l:List UInt8} {k:Nat} {a:Bool} (h:Side l k a) (hk:0<k) (hl:k=l.length):a=false:=h.2 hk hl
theorem Side.step {l:List UInt8} {k:Nat} {a:Bool} (hl:k<l.length) (h:a=true↔l[k]=95) (he:a=true→k+1<l.length):Side l (k+1) a:=by
 refine⟨?_,fun _ e=>?_⟩
 ·rw[h]
  constructor
  ·intro g;exact .inr ⟨by simpa using hl,by omega,by simpa using g⟩
  ·intro g
   rcases g with g|⟨_,_,g⟩
   ·omega
   ·simpa using g
 ·cases a with
  |false=>rfl
  |true=>have:=he rfl;omega
def RowPost (x:List UInt8) (b:Bool) (w:World) (e:Ending) (w':World):Prop:=e=.returned (.tuple #[.string (B x),.bool b])∧w=w'
theorem row_plain (y:ByteArray) (base:Int) (w:World) (hs:y.size≤16777216) (hb:base≤16) :
  Calls Tryz.prog 167 #[.string y,.int .i64 base,.bool false] w (RowPost (rowed base y.data.toList).1 (rowed base y.data.toList).2 w):=by
 go_enter Tryz.func167,Tryz.ntmps167
 go_wp2_with fail
 go_loop [8,9] (fun out i=>∃ (k:Nat) (d:List UInt8) (a:Bool),k≤y.size∧i=.int .i64 k∧out=.string (B d)∧jTo base y.data.toList k=some (d,a)∧Side y.data.toList k a) (fun _ i=>y.size - (intOf i).toNat)
 case atStart=>exact⟨0,[],true,Nat.zero_le _,rfl,rfl,rfl,Side.zero _⟩
 case round=>
  obtain⟨k,d,a,hk,rfl,rfl,hj,hside⟩:=hrel
  have hsd:=sdata y
  have hf:=jTo_few k d a (by omega) hj
  have HJ:=Lib.hid hj
  have HS:=Lib.hid hside
  have hbd:(B d).size≤16777216:=by rw[bsize];omega
  clear hj hside
  have HD:=Lib.hid hsd
  clear hsd
  by_cases hlt:k<y.size
  ·have HN:=Lib.hid (jTo_succ (base:=base) (l:=y.data.toList) (k:=k) (by have:=HD.out;omega))
   obtain⟨c,hc⟩:∃ c,y[k]'hlt=c:=⟨_,rfl⟩
   have hsl:=slice_one y k hlt c hc
   have HC:=Lib.hid hc
   rw[at_data hlt,hc,HJ.out] at HN
   have hc0:(0:Int)≤(c.toNat:Int):=by omega
   have hc1:(c.toNat:Int)≤255:=by have:=UInt8.toNat_lt c;omega
   obtain⟨z,hz⟩:∃ z,digZ (c.toNat:Int) 99=z:=⟨_,rfl⟩
   have HZ:=Lib.hid hz
   have HI:Hid (isDig base c=decide (z<base)):=Lib.hid (by rw[isDig,← hz];exact decide_eq_decide.2 (digZ_lt _ 16 99 base (by omega) (by omega) hb))
   clear hz
   by_cases h95:c=95
   ·have hcz:((c.toNat:Int) == 95)=true:=byte_eq (d:=95) h95
    have hz99:z=99:=by rw[← HZ.out,h95];rfl
    have hdd:decide (z<base)=false:=decide_eq_false (by omega)
    have hdd':decide (base≤z)=true:=decide_eq_true (by omega)
    rw[hdd] at HI
    by_cases hk0:0<k
    ·have hd0:decide ((0:Int)<(k:Int))=true:=decide_eq_true (by omega)
     obtain⟨p,hp⟩:∃ p,y[k - 1]'(by omega)=p:=⟨_,rfl⟩
     have hix:∀ u:World,(Instr.index 9 (.string y) (.int .i64 ((k:Int) - 1))).run Tryz.prog u=.ok (.int .u8 (p.toNat:Int)) u:=fun u=>by
      rw[← hp];exact index_at y _ (k - 1) (by omega) (by omega) u
     have ha:=HS.out.prev hk0 (by have:=HD.out;omega)
     rw[at_data (s:=y) (i:=k - 1) (by omega),hp] at ha
     by_cases hp95:p=95
     ·have hpz:((p.toNat:Int) != 95)=false:=byte_eq' (d:=95) hp95
      have hat:a=true:=ha.2 hp95
      have HR0:Hid (rowed base y.data.toList=([],false)):=Lib.hid (rowed_none (jTo_end (by have:=HD.out;omega) (show jTo base y.data.toList (k+1)=none by rw[HN.out,jStep,HI.out,if_neg (by simp),if_neg (by rw[hat];simp)])))
      clear h95 HN ha hp95 hat hp
      go_wp2_with (go_at_call 184;refine(refDigit_any _ _ hc0 hc1).mono ?_;rintro e w' ⟨rfl,rfl⟩;rw[HZ.out])
      go_ret2
      exact⟨by rw[HR0.out];rfl,rfl⟩
     ·have hpz:((p.toNat:Int) != 95)=true:=byte_ne' (d:=95) hp95
      have haf:a=false:=by cases a with|false=>rfl|true=>exact absurd (ha.1 rfl) hp95
      have HR0:Hid (jTo base y.data.toList (k+1)=some (d,true)):=Lib.hid (by rw[HN.out,jStep,HI.out,if_neg (by simp),if_pos ⟨h95,haf⟩])
      clear HN ha hp95 haf hp
      by_cases hend:k+1<y.size
      ·have he:decide ((k:Int)+1<(y.size:Int))=true:=decide_eq_true (by omega)
       have HS1:Hid (Side y.data.toList (k+1) true):=Lib.hid (Side.step (by have:=HD.out;omega) (by rw[at_data hlt,HC.out];exact⟨fun _=>h95,fun _=>rfl⟩) (fun _=>by have:=HD.out;omega))
       clear h95
       go_wp2_with fail
       go_round
       case rel=>exact⟨k+1,d,true,by omega,by go_num,rfl,HR0.out,HS1.out⟩
       case measure=>simp [intOf];omega
      ·have he:decide ((k:Int)+1<(y.size:Int))=false:=decide_eq_false (by omega)
       have HR1:Hid (rowed base y.data.toList=([],false)):=Lib.hid (rowed_apart (d:=d) (by rw[HD.out,show y.size=k+1 by omega];exact HR0.out))
       clear h95
       go_wp2_with (go_at_call 184;refine(refDigit_any _ _ hc0 hc1).mono ?_;rintro e w' ⟨rfl,rfl⟩;rw[HZ.out])
       go_ret2
       exact⟨by rw[HR1.out];rfl,rfl⟩
    ·have hd0:decide ((0:Int)<(k:Int))=false:=decide_eq_false (by omega)
     have hat:a=true:=HS.out.zero_true (by omega)
     have HR0:Hid (rowed base y.data.toList=([],false)):=Lib.hid (rowed_none (jTo_end (by have:=HD.out;omega) (show jTo base y.data.toList (k+1)=none by rw[HN.out,jStep,HI.out,if_neg (by simp),if_neg (by rw[hat];simp)])))
     clear h95 HN hat
     have hk00:k=0:=by omega
     subst hk00
     go_wp2_with (go_at_call 184;refine(refDigit_any _ _ hc0 hc1).mono ?_;rintro e w' ⟨rfl,rfl⟩;rw[HZ.out])
     go_ret2
     exact⟨by rw[HR0.out];rfl,rfl⟩
   ·have hcz:((c.toNat:Int) == 95)=false:=byte_ne (d:=95) h95
    by_cases hdig:z<base
    ·have hdd':decide (base≤z)=false:=decide_eq_false (by omega)
     have HR0:Hid (jTo base y.data.toList (k+1)=some (d ++ [c],false)):=Lib.hid (by rw[HN.out,jStep,HI.out,if_pos (decide_eq_true hdig)])
     have HS1:Hid (Side y.data.toList (k+1) false):=Lib.hid (Side.step (by have:=HD.out;omega) (by rw[at_data hlt,HC.out];exact⟨fun g=>(by cases g),fun g=>absurd g h95⟩) (fun g=>(by cases g)))
     have hbc:(B [c]).size≤1:=by rw[bsize];simp
     clear h95 HN
     go_wp2_with (go_at_call 184;refine(refDigit_any _ _ hc0 hc1).mono ?_;rintro e w' ⟨rfl,rfl⟩;rw[HZ.out])
     go_round
     case rel=>exact⟨k+1,d ++ [c],false,by omega,by go_num,by rw[b_append],HR0.out,HS1.out⟩
     case measure=>simp [intOf];omega
    ·have hdd':decide (base≤z)=true:=decide_eq_true (by omega)
     have HR0:Hid (rowed base y.data.toList=([],false)):=Lib.hid (rowed_none (jTo_end (by have:=HD.out;omega) (show jTo base y.data.toList (k+1)=none by rw[HN.out,jStep,HI.out,if_neg (by simpa using hdig),if_neg (fun g=>h95 g.1)])))
     clear h95 HN
     go_wp2_with (go_at_call 184;refine(refDigit_any _ _ hc0 hc1).mono ?_;rintro e w' ⟨rfl,rfl⟩;rw[HZ.out])
     go_ret2
     exact⟨by rw[HR0.out];rfl,rfl⟩
  ·obtain rfl:k=y.size:=by omega
   by_cases hk0:y.size=0
   ·have hda:d=[]∧a=true:=by have:=HJ.out;rw[hk0] at this;obtain⟨h1,h2⟩:=Prod.mk.inj (Option.some.inj this);exact⟨h1.symm,h2.symm⟩
    obtain⟨rfl,rfl⟩:=hda
    have HR0:Hid (rowed base y.data.toList=([],false)):=Lib.hid (rowed_apart (d:=[]) (by rw[HD.out];exact HJ.out))
    have hem:(B []).toList=[]:=by rw[blist]
    go_wp2_with fail
    go_ret2
    exact⟨by rw[HR0.out];rfl,rfl⟩
   ·have haf:a=false:=HS.out.at_end (by omega) (by rw[HD.out])
    subst haf
    have hdne:=jTo_digit (by rw[HD.out];exact HJ.out)
    have HR0:Hid (rowed base y.data.toList=(d,true)):=Lib.hid (by rw[rowed,HD.out,HJ.out])
    have hem:(B d).toList≠[]:=by rw[blist];exact hdne
    have hem2:(!(B d).toList.isEmpty)=true:=by rw[blist];simpa using hdne
    go_wp2_with fail
    go_ret2
    exact⟨by rw[HR0.out];rfl,rfl⟩
theorem row_off (y:ByteArray) (base:Int) (w:World) (hs:y.size≤16777216) (hb:base≤16) (hno:∀ h:0<y.size,y[0]≠95) :
  Calls Tryz.prog 167 #[.string y,.int .i64 base,.bool true] w (RowPost (rowed base y.data.toList).1 (rowed base y.data.toList).2 w):=by
 by_cases hp:0<y.size
 ·have hd0:decide ((0:Int)<(y.size:Int))=true:=decide_eq_true (by omega)
  have h1:=hno hp
  obtain⟨c,hc⟩:∃ c,y[0]'hp=c:=⟨_,rfl⟩
  rw[hc] at h1
  have hcz:((c.toNat:Int) == 95)=false:=byte_ne (d:=95) h1
  clear hno h1
  go_enter Tryz.func167,Tryz.ntmps167
  go_wp2_with fail
  clear hcz hc hd0
  go_loop [8,9] (fun out i=>∃ (k:Nat) (d:List UInt8) (a:Bool),k≤y.size∧i=.int .i64 k∧out=.string (B d)∧jTo base y.data.toList k=some (d,a)∧Side y.data.toList k a) (fun _ i=>y.size - (intOf i).toNat)
  case atStart=>exact⟨0,[],true,Nat.zero_le _,rfl,rfl,rfl,Side.zero _⟩
  case round=>
   obtain⟨k,d,a,hk,rfl,rfl,hj,hside⟩:=hrel
   have hsd:=sdata y
   have hf:=jTo_few k d a (by omega) hj
   have HJ:=Lib.hid hj
   have HS:=Lib.hid hside
   have hbd:(B d).size≤16777216:=by rw[bsize];omega
   clear hj hside
   have HD:=Lib.hid hsd
   clear hsd
   by_cases hlt:k<y.size
   ·have HN:=Lib.hid (jTo_succ (base:=base) (l:=y.data.toList) (k:=k) (by have:=HD.out;omega))
    obtain⟨c,hc⟩:∃ c,y[k]'hlt=c:=⟨_,rfl⟩
    have hsl:=slice_one y k hlt c hc
    have HC:=Lib.hid hc
    rw[at_data hlt,hc,HJ.out] at HN
    have hc0:(0:Int)≤(c.toNat:Int):=by omega
    have hc1:(c.toNat:Int)≤255:=by have:=UInt8.toNat_lt c;omega
    obtain⟨z,hz⟩:∃ z,digZ (c.toNat:Int) 99=z:=⟨_,rfl⟩
    have HZ:=Lib.hid hz
    have HI:Hid (isDig base c=decide (z<base)):=Lib.hid (by rw[isDig,← hz];exact decide_eq_decide.2 (digZ_lt _ 16 99 base (by omega) (by omega) hb))
    clear hz
    by_cases h95:c=95
    ·have hcz:((c.toNat:Int) == 95)=true:=byte_eq (d:=95) h95
     have hz99:z=99:=by rw[← HZ.out,h95];rfl
     have hdd:decide (z<base)=false:=decide_eq_false (by omega)
     have hdd':decide (base≤z)=true:=decide_eq_true (by omega)
     rw[hdd] at HI
     by_cases hk0:0<k
     ·have hd0:decide ((0:Int)<(k:Int))=true:=decide_eq_true (by omega)
      obtain⟨p,hp⟩:∃ p,y[k - 1]'(by omega)=p:=⟨_,rfl⟩
      have hix:∀ u:World,(Instr.index 9 (.string y) (.int .i64 ((k:Int) - 1))).run Tryz.prog u=.ok (.int .u8 (p.toNat:Int)) u:=fun u=>by
       rw[← hp];exact index_at y _ (k - 1) (by omega) (by omega) u
      have ha:=HS.out.prev hk0 (by have:=HD.out;omega)
      rw[at_data (s:=y) (i:=k - 1) (by omega),hp] at ha
      by_cases hp95:p=95
      ·have hpz:((p.toNat:Int) != 95)=false:=byte_eq' (d:=95) hp95
       have hat:a=true:=ha.2 hp95
       have HR0:Hid (rowed base y.data.toList=([],false)):=Lib.hid (rowed_none (jTo_end (by have:=HD.out;omega) (show jTo base y.data.toList (k+1)=none by rw[HN.out,jStep,HI.out,if_neg (by simp),if_neg (by rw[hat];simp)])))
       clear h95 HN ha hp95 hat hp
       go_wp2_with (go_at_call 184;refine(refDigit_any _ _ hc0 hc1).mono ?_;rintro e w' ⟨rfl,rfl⟩;rw[HZ.out])
       go_ret2
       exact⟨by rw[HR0.out];rfl,rfl⟩
      ·have hpz:((p.toNat:Int) != 95)=true:=byte_ne' (d:=95) hp95
       have haf:a=false:=by cases a with|false=>rfl|true=>exact absurd (ha.1 rfl) hp95
       have HR0:Hid (jTo base y.data.toList (k+1)=some (d,true)):=Lib.hid (by rw[HN.out,jStep,HI.out,if_neg (by simp),if_pos ⟨h95,haf⟩])
       clear HN ha hp95 haf hp
       by_cases hend:k+1<y.size
       ·have he:decide ((k:Int)+1<(y.size:Int))=true:=decide_eq_true (by omega)
        have HS1:Hid (Side y.data.toList (k+1) true):=Lib.hid (Side.step (by have:=HD.out;omega) (by rw[at_data hlt,HC.out];exact⟨fun _=>h95,fun _=>rfl⟩) (fun _=>by have:=HD.out;omega))
        clear h95
        go_wp2_with fail
        go_round
        case rel=>exact⟨k+1,d,true,by omega,by go_num,rfl,HR0.out,HS1.out⟩
        case measure=>simp [intOf];omega
       ·have he:decide ((k:Int)+1<(y.size:Int))=false:=decide_eq_false (by omega)
        have HR1:Hid (rowed base y.data.toList=([],false)):=Lib.hid (rowed_apart (d:=d) (by rw[HD.out,show y.size=k+1 by omega];exact HR0.out))
        clear h95
        go_wp2_with (go_at_call 184;refine(refDigit_any _ _ hc0 hc1).mono ?_;rintro e w' ⟨rfl,rfl⟩;rw[HZ.out])
        go_ret2
        exact⟨by rw[HR1.out];rfl,rfl⟩
     ·have hd0:decide ((0:Int)<(k:Int))=false:=decide_eq_false (by omega)
      have hat:a=true:=HS.out.zero_true (by omega)
      have HR0:Hid (rowed base y.data.toList=([],false)):=Lib.hid (rowed_none (jTo_end (by have:=HD.out;omega) (show jTo base y.data.toList (k+1)=none by rw[HN.out,jStep,HI.out,if_neg (by simp),if_neg (by rw[hat];simp)])))
      clear h95 HN hat
      have hk00:k=0:=by omega
      subst hk00
      go_wp2_with (go_at_call 184;refine(refDigit_any _ _ hc0 hc1).mono ?_;rintro e w' ⟨rfl,rfl⟩;rw[HZ.out])
      go_ret2
      exact⟨by rw[HR0.out];rfl,rfl⟩
    ·have hcz:((c.toNat:Int) == 95)=false:=byte_ne (d:=95) h95
     by_cases hdig:z<base
     ·have hdd':decide (base≤z)=false:=decide_eq_false (by omega)
      have HR0:Hid (jTo base y.data.toList (k+1)=some (d ++ [c],false)):=Lib.hid (by rw[HN.out,jStep,HI.out,if_pos (decide_eq_true hdig)])
      have HS1:Hid (Side y.data.toList (k+1) false):=Lib.hid (Side.step (by have:=HD.out;omega) (by rw[at_data hlt,HC.out];exact⟨fun g=>(by cases g),fun g=>absurd g h95⟩) (fun g=>(by cases g)))
      have hbc:(B [c]).size≤1:=by rw[bsize];simp
      clear h95 HN
      go_wp2_with (go_at_call 184;refine(refDigit_any _ _ hc0 hc1).mono ?_;rintro e w' ⟨rfl,rfl⟩;rw[HZ.out])
      go_round
      case rel=>exact⟨k+1,d ++ [c],false,by omega,by go_num,by rw[b_append],HR0.out,HS1.out⟩
      case measure=>simp [intOf];omega
     ·have hdd':decide (base≤z)=true:=decide_eq_true (by omega)
      have HR0:Hid (rowed base y.data.toList=([],false)):=Lib.hid (rowed_none (jTo_end (by have:=HD.out;omega) (show jTo base y.data.toList (k+1)=none by rw[HN.out,jStep,HI.out,if_neg (by simpa using hdig),if_neg (fun g=>h95 g.1)])))
      clear h95 HN
      go_wp2_with (go_at_call 184;refine(refDigit_any _ _ hc0 hc1).mono ?_;rintro e w' ⟨rfl,rfl⟩;rw[HZ.out])
      go_ret2
      exact⟨by rw[HR0.out];rfl,rfl⟩
   ·obtain rfl:k=y.size:=by omega
    by_cases hk0:y.size=0
    ·have hda:d=[]∧a=true:=by have:=HJ.out;rw[hk0] at this;obtain⟨h1,h2⟩:=Prod.mk.inj (Option.some.inj this);exact⟨h1.symm,h2.symm⟩
     obtain⟨rfl,rfl⟩:=hda
     have HR0:Hid (rowed base y.data.toList=([],false)):=Lib.hid (rowed_apart (d:=[]) (by rw[HD.out];exact HJ.out))
     have hem:(B []).toList=[]:=by rw[blist]
     go_wp2_with fail
     go_ret2
     exact⟨by rw[HR0.out];rfl,rfl⟩
    ·have haf:a=false:=HS.out.at_end (by omega) (by rw[HD.out])
     subst haf
     have hdne:=jTo_digit (by rw[HD.out];exact HJ.out)
     have HR0:Hid (rowed base y.data.toList=(d,true)):=Lib.hid (by rw[rowed,HD.out,HJ.out])
     have hem:(B d).toList≠[]:=by rw[blist];exact hdne
     have hem2:(!(B d).toList.isEmpty)=true:=by rw[blist];simpa using hdne
     go_wp2_with fail
     go_ret2
     exact⟨by rw[HR0.out];rfl,rfl⟩
 ·have hd0:decide ((0:Int)<(y.size:Int))=false:=decide_eq_false (by omega)
  clear hno
  go_enter Tryz.func167,Tryz.ntmps167
  go_wp2_with fail
  clear hd0
  go_loop [8,9] (fun out i=>∃ (k:Nat) (d:List UInt8) (a:Bool),k≤y.size∧i=.int .i64 k∧out=.string (B d)∧jTo base y.data.toList k=some (d,a)∧Side y.data.toList k a) (fun _ i=>y.size - (intOf i).toNat)
  case atStart=>exact⟨0,[],true,Nat.zero_le _,rfl,rfl,rfl,Side.zero _⟩
  case round=>
   obtain⟨k,d,a,hk,rfl,rfl,hj,hside⟩:=hrel
   have hsd:=sdata y
   have hf:=jTo_few k d a (by omega) hj
   have HJ:=Lib.hid hj
   have HS:=Lib.hid hside
   have hbd:(B d).size≤16777216:=by rw[bsize];omega
   clear hj hside
   have HD:=Lib.hid hsd
   clear hsd
   by_cases hlt:k<y.size
   ·omega
   ·obtain rfl:k=y.size:=by omega
    by_cases hk0:y.size=0
    ·have hda:d=[]∧a=true:=by have:=HJ.out;rw[hk0] at this;obtain⟨h1,h2⟩:=Prod.mk.inj (Option.some.inj this);exact⟨h1.symm,h2.symm⟩
     obtain⟨rfl,rfl⟩:=hda
     have HR0:Hid (rowed base y.data.toList=([],false)):=Lib.hid (rowed_apart (d:=[]) (by rw[HD.out];exact HJ.out))
     have hem:(B []).toList=[]:=by rw[blist]
     go_wp2_with fail
     go_ret2
     exact⟨by rw[HR0.out];rfl,rfl⟩
    ·omega
theorem row_on (s:ByteArray) (y:ByteArray) (base:Int) (w:World) (hs:y.size≤16777216) (hb:base≤16) (hp:0<s.size) (hc0:s[0]=95) (hy:s.extract 1 s.size=y) :
  Calls Tryz.prog 167 #[.string s,.int .i64 base,.bool true] w (RowPost (rowed base y.data.toList).1 (rowed base y.data.toList).2 w):=by
 have hd0:decide ((0:Int)<(s.size:Int))=true:=decide_eq_true (by omega)
 obtain⟨c,hc⟩:∃ c,s[0]'hp=c:=⟨_,rfl⟩
 rw[hc] at hc0
 have hcz:((c.toNat:Int) == 95)=true:=byte_eq (d:=95) hc0
 have hsl:∀ u:World,(Instr.slice 9 (.string s) (some (.int .i64 1)) none none).run Tryz.prog u=.ok (.string y) u:=fun u=>by
  rw[← hy]
  exact run_slice_string_l (P:=Tryz.prog) (w:=u) (t:=9) (s:=s) (ht:=Tryz.underlying9) .i64 1 (by omega) (by omega)
 clear hy hc0
 go_enter Tryz.func167,Tryz.ntmps167
 go_wp2_with fail
 clear hcz hc hd0 hsl
 go_loop [8,9] (fun out i=>∃ (k:Nat) (d:List UInt8) (a:Bool),k≤y.size∧i=.int .i64 k∧out=.string (B d)∧jTo base y.data.toList k=some (d,a)∧Side y.data.toList k a) (fun _ i=>y.size - (intOf i).toNat)
 case atStart=>exact⟨0,[],true,Nat.zero_le _,rfl,rfl,rfl,Side.zero _⟩
 case round=>
  obtain⟨k,d,a,hk,rfl,rfl,hj,hside⟩:=hrel
  have hsd:=sdata y
  have hf:=jTo_few k d a (by omega) hj
  have HJ:=Lib.hid hj
  have HS:=Lib.hid hside
  have hbd:(B d).size≤16777216:=by rw[bsize];omega
  clear hj hside
  have HD:=Lib.hid hsd
  clear hsd
  by_cases hlt:k<y.size
  ·have HN:=Lib.hid (jTo_succ (base:=base) (l:=y.data.toList) (k:=k) (by have:=HD.out;omega))
   obtain⟨c,hc⟩:∃ c,y[k]'hlt=c:=⟨_,rfl⟩
   have hsl:=slice_one y k hlt c hc
   have HC:=Lib.hid hc
   rw[at_data hlt,hc,HJ.out] at HN
   have hc0:(0:Int)≤(c.toNat:Int):=by omega
   have hc1:(c.toNat:Int)≤255:=by have:=UInt8.toNat_lt c;omega
   obtain⟨z,hz⟩:∃ z,digZ (c.toNat:Int) 99=z:=⟨_,rfl⟩
   have HZ:=Lib.hid hz
   have HI:Hid (isDig base c=decide (z<base)):=Lib.hid (by rw[isDig,← hz];exact decide_eq_decide.2 (digZ_lt _ 16 99 base (by omega) (by omega) hb))
   clear hz
   by_cases h95:c=95
   ·have hcz:((c.toNat:Int) == 95)=true:=byte_eq (d:=95) h95
    have hz99:z=99:=by rw[← HZ.out,h95];rfl
    have hdd:decide (z<base)=false:=decide_eq_false (by omega)
    have hdd':decide (base≤z)=true:=decide_eq_true (by omega)
    rw[hdd] at HI
    by_cases hk0:0<k
    ·have hd0:decide ((0:Int)<(k:Int))=true:=decide_eq_true (by omega)
     obtain⟨p,hp⟩:∃ p,y[k - 1]'(by omega)=p:=⟨_,rfl⟩
     have hix:∀ u:World,(Instr.index 9 (.string y) (.int .i64 ((k:Int) - 1))).run Tryz.prog u=.ok (.int .u8 (p.toNat:Int)) u:=fun u=>by
      rw[← hp];exact index_at y _ (k - 1) (by omega) (by omega) u
     have ha:=HS.out.prev hk0 (by have:=HD.out;omega)
     rw[at_data (s:=y) (i:=k - 1) (by omega),hp] at ha
     by_cases hp95:p=95
     ·have hpz:((p.toNat:Int) != 95)=false:=byte_eq' (d:=95) hp95
      have hat:a=true:=ha.2 hp95
      have HR0:Hid (rowed base y.data.toList=([],false)):=Lib.hid (rowed_none (jTo_end (by have:=HD.out;omega) (show jTo base y.data.toList (k+1)=none by rw[HN.out,jStep,HI.out,if_neg (by simp),if_neg (by rw[hat];simp)])))
      clear h95 HN ha hp95 hat hp
      go_wp2_with (go_at_call 184;refine(refDigit_any _ _ hc0 hc1).mono ?_;rintro e w' ⟨rfl,rfl⟩;rw[HZ.out])
      go_ret2
      exact⟨by rw[HR0.out];rfl,rfl⟩
     ·have hpz:((p.toNat:Int) != 95)=true:=byte_ne' (d:=95) hp95
      have haf:a=false:=by cases a with|false=>rfl|true=>exact absurd (ha.1 rfl) hp95
      have HR0:Hid (jTo base y.data.toList (k+1)=some (d,true)):=Lib.hid (by rw[HN.out,jStep,HI.out,if_neg (by simp),if_pos ⟨h95,haf⟩])
      clear HN ha hp95 haf hp
      by_cases hend:k+1<y.size
      ·have he:decide ((k:Int)+1<(y.size:Int))=true:=decide_eq_true (by omega)
       have HS1:Hid (Side y.data.toList (k+1) true):=Lib.hid (Side.step (by have:=HD.out;omega) (by rw[at_data hlt,HC.out];exact⟨fun _=>h95,fun _=>rfl⟩) (fun _=>by have:=HD.out;omega))
       clear h95
       go_wp2_with fail
       go_round
       case rel=>exact⟨k+1,d,true,by omega,by go_num,rfl,HR0.out,HS1.out⟩
       case measure=>simp [intOf];omega
      ·have he:decide ((k:Int)+1<(y.size:Int))=false:=decide_eq_false (by omega)
       have HR1:Hid (rowed base y.data.toList=([],false)):=Lib.hid (rowed_apart (d:=d) (by rw[HD.out,show y.size=k+1 by omega];exact HR0.out))
       clear h95
       go_wp2_with (go_at_call 184;refine(refDigit_any _ _ hc0 hc1).mono ?_;rintro e w' ⟨rfl,rfl⟩;rw[HZ.out])
       go_ret2
       exact⟨by rw[HR1.out];rfl,rfl⟩
    ·have hd0:decide ((0:Int)<(k:Int))=false:=decide_eq_false (by omega)
     have hat:a=true:=HS.out.zero_true (by omega)
     have HR0:Hid (rowed base y.data.toList=([],false)):=Lib.hid (rowed_none (jTo_end (by have:=HD.out;omega) (show jTo base y.data.toList (k+1)=none by rw[HN.out,jStep,HI.out,if_neg (by simp),if_neg (by rw[hat];simp)])))
     clear h95 HN hat
     have hk00:k=0:=by omega
     subst hk00
     go_wp2_with (go_at_call 184;refine(refDigit_any _ _ hc0 hc1).mono ?_;rintro e w' ⟨rfl,rfl⟩;rw[HZ.out])
     go_ret2
     exact⟨by rw[HR0.out];rfl,rfl⟩
   ·have hcz:((c.toNat:Int) == 95)=false:=byte_ne (d:=95) h95
    by_cases hdig:z<base
    ·have hdd':decide (base≤z)=false:=decide_eq_false (by omega)
     have HR0:Hid (jTo base y.data.toList (k+1)=some (d ++ [c],false)):=Lib.hid (by rw[HN.out,jStep,HI.out,if_pos (decide_eq_true hdig)])
     have HS1:Hid (Side y.data.toList (k+1) false):=Lib.hid (Side.step (by have:=HD.out;omega) (by rw[at_data hlt,HC.out];exact⟨fun g=>(by cases g),fun g=>absurd g h95⟩) (fun g=>(by cases g)))
     have hbc:(B [c]).size≤1:=by rw[bsize];simp
     clear h95 HN
     go_wp2_with (go_at_call 184;refine(refDigit_any _ _ hc0 hc1).mono ?_;rintro e w' ⟨rfl,rfl⟩;rw[HZ.out])
     go_round
     case rel=>exact⟨k+1,d ++ [c],false,by omega,by go_num,by rw[b_append],HR0.out,HS1.out⟩
     case measure=>simp [intOf];omega
    ·have hdd':decide (base≤z)=true:=decide_eq_true (by omega)
     have HR0:Hid (rowed base y.data.toList=([],false)):=Lib.hid (rowed_none (jTo_end (by have:=HD.out;omega) (show jTo base y.data.toList (k+1)=none by rw[HN.out,jStep,HI.out,if_neg (by simpa using hdig),if_neg (fun g=>h95 g.1)])))
     clear h95 HN
     go_wp2_with (go_at_call 184;refine(refDigit_any _ _ hc0 hc1).mono ?_;rintro e w' ⟨rfl,rfl⟩;rw[HZ.out])
     go_ret2
     exact⟨by rw[HR0.out];rfl,rfl⟩
  ·obtain rfl:k=y.size:=by omega
   by_cases hk0:y.size=0
   ·have hda:d=[]∧a=true:=by have:=HJ.out;rw[hk0] at this;obtain⟨h1,h2⟩:=Prod.mk.inj (Option.some.inj this);exact⟨h1.symm,h2.symm⟩
    obtain⟨rfl,rfl⟩:=hda
    have HR0:Hid (rowed base y.data.toList=([],false)):=Lib.hid (rowed_apart (d:=[]) (by rw[HD.out];exact HJ.out))
    have hem:(B []).toList=[]:=by rw[blist]
    go_wp2_with fail
    go_ret2
    exact⟨by rw[HR0.out];rfl,rfl⟩
   ·have haf:a=false:=HS.out.at_end (by omega) (by rw[HD.out])
    subst haf
    have hdne:=jTo_digit (by rw[HD.out];exact HJ.out)
    have HR0:Hid (rowed base y.data.toList=(d,true)):=Lib.hid (by rw[rowed,HD.out,HJ.out])
    have hem:(B d).toList≠[]:=by rw[blist];exact hdne
    have hem2:(!(B d).toList.isEmpty)=true:=by rw[blist];simpa using hdne
    go_wp2_with fail
    go_ret2
    exact⟨by rw[HR0.out];rfl,rfl⟩
open Go.RowKit
theorem trim_on {a:UInt8} {t:List UInt8} (h:a=95):Lib.trimPrefix (a::t) [95]=t:=by
 subst h
 simp [Lib.trimPrefix,Lib.hasPrefix]
theorem trim_off {a:UInt8} {t:List UInt8} (h:a≠95):Lib.trimPrefix (a::t) [95]=a::t:=by
 have:Lib.hasPrefix (a::t) [95]=false:=by
  show((95:UInt8) == a && List.isPrefixOf [] t)=false
  rw[show((95:UInt8) == a)=false by simpa using Ne.symm h]
  rfl
 rw[Lib.trimPrefix,if_neg (by rw[this];simp)]
theorem head_at {x:List UInt8} {a:UInt8} {t:List UInt8} (e:x=a::t) (h:0<(B x).size):(B x)[0]=a:=by
 have h':0<(B x).data.toList.length:=by rw[sdata];exact h
 have e1:(B x).data.toList[0]'h'=(B x)[0]:=at_data h
 rw[← e1]
 simp [bdata,e]
def rowOf (base:Int) (ahead:Bool) (x:List UInt8):List UInt8 × Bool:=rowed base (if ahead then Lib.trimPrefix x [95] else x)
theorem row_b (x:List UInt8) (base:Int) (a:Bool) (w:World) (hs:x.length≤16777216) (hb:base≤16) :
  Calls Tryz.prog 167 #[.string (B x),.int .i64 base,.bool a] w (RowPost (rowOf base a x).1 (rowOf base a x).2 w):=by
 cases a with
 |false=>
  have:=row_plain (B x) base w (by rw[bsize];exact hs) hb
  rwa [bdata] at this
 |true=>
  show Calls _ _ _ _ (RowPost (rowed base (Lib.trimPrefix x [95])).1 (rowed base (Lib.trimPrefix x [95])).2 w)
  cases x with
  |nil=>
   have:=row_off (B []) base w (by rw[bsize];simp) hb (fun h=>by rw[bsize] at h;simp at h)
   rwa [bdata] at this
  |cons a t=>
   by_cases h:a=95
   ·have hy:(B (a::t)).extract 1 (B (a::t)).size=B t:=by
     rw[b_extract,bdata,bsize,List.drop_one,List.tail_cons,List.take_of_length_le (by simp)]
    have:=row_on (B (a::t)) (B t) base w (by rw[bsize];simp at hs;omega) hb (by rw[bsize];simp) (by rw[head_at rfl,h]) hy
    rw[bdata] at this
    rw[trim_on h]
    exact this
   ·have:=row_off (B (a::t)) base w (by rw[bsize];exact hs) hb (fun g=>by rw[head_at rfl];exact h)
    rw[bdata] at this
    rw[trim_off h]
    exact this
theorem num_row (l:List UInt8):numOf l=if (rowOf (prefixOf l).1 (decide (0<(prefixOf l).2)) (l.drop (prefixOf l).2)).2 then((prefixOf l).1,(rowOf (prefixOf l).1 (decide (0<(prefixOf l).2)) (l.drop (prefixOf l).2)).1,true) else(0,[],false):=by
 have e:(if decide (0<(prefixOf l).2)=true then Lib.trimPrefix (l.drop (prefixOf l).2) [95] else l.drop (prefixOf l).2)=restOf l:=by
  unfold restOf
  by_cases h:0<(prefixOf l).2
  ·rw[if_pos (decide_eq_true h),if_pos h]
  ·rw[if_neg (by simpa using h),if_neg h]
 unfold rowOf
 rw[e]
 unfold numOf rowed
 cases jTo ((prefixOf l).1:Int) (restOf l) (restOf l).length with
 |none=>rfl
 |some p=>
  obtain⟨d,a⟩:=p
  cases a <;> rfl
theorem refDigits_short (s:ByteArray) (w:World) (hs:s.size≤16777216) (h48:s.toList≠[48]) (h:s.size<2) (hpre:prefixOf s.data.toList=(10,0)) :
  Calls Tryz.prog 150 #[.string s] w (Triple (numOf s.data.toList).1 (numOf s.data.toList).2.1 (numOf s.data.toList).2.2 w):=by
 have hnum:=num_row s.data.toList
 rw[hpre] at hnum
 have hlen:0≤s.size:=by have:=(prefix_le s.data.toList).1;rw[hpre,sdata] at this;exact this
 obtain⟨x,hx⟩:∃ x,s.data.toList.drop 0=x:=⟨_,rfl⟩
 have hsl:∀ u:World,(Instr.slice 9 (.string s) (some (.int .i64 0)) none none).run Tryz.prog u=.ok (.string (B x)) u:=fun u=>by rw[← hx];exact slice_from s 0 hlen u
 have hxl:x.length≤16777216:=by rw[← hx,List.length_drop,sdata];omega
 obtain⟨d,ok,hr⟩:∃ d ok,rowOf 10 false x=(d,ok):=⟨_,_,rfl⟩
 have HR:=Lib.hid hr
 have HE:Hid (numOf s.data.toList=if ok then(10,d,true) else(0,[],false)):=Lib.hid (by
  rw[hnum]
  show(if (rowOf 10 false (s.data.toList.drop 0)).2 then(10,(rowOf 10 false (s.data.toList.drop 0)).1,true) else(0,[],false))=_
  rw[hx,hr])
 have h48':(s.toList == [48])=false:=by simpa using h48
 have hd1:decide ((1:Int)<(s.size:Int))=false:=decide_eq_false (by omega)
 clear hnum hx hr hpre h48
 cases ok with
 |true=>
  have HF:Hid (numOf s.data.toList=(10,d,true)):=Lib.hid (by rw[HE.out,if_pos rfl])
  clear HE
  go_enter Tryz.func150,Tryz.ntmps150
  go_wp2_with (go_at_call 167;refine(row_b _ _ _ _ hxl (by decide)).mono ?_;rintro e w' ⟨rfl,rfl⟩;rw[HR.out])
  go_ret3
  exact⟨by rw[HF.out];rfl,Below.refl _ _⟩
 |false=>
  have HF:Hid (numOf s.data.toList=(0,[],false)):=Lib.hid (by rw[HE.out,if_neg (by simp)])
  clear HE
  go_enter Tryz.func150,Tryz.ntmps150
  go_wp2_with (go_at_call 167;refine(row_b _ _ _ _ hxl (by decide)).mono ?_;rintro e w' ⟨rfl,rfl⟩;rw[HR.out])
  go_ret3
  exact⟨by rw[HF.out];rfl,Below.refl _ _⟩
theorem refDigits_ten (s:ByteArray) (w:World) (hs:s.size≤16777216) (h48:s.toList≠[48]) (h:1<s.size) (ha:s[0]≠48) (hpre:prefixOf s.data.toList=(10,0)) :
  Calls Tryz.prog 150 #[.string s] w (Triple (numOf s.data.toList).1 (numOf s.data.toList).2.1 (numOf s.data.toList).2.2 w):=by
 have hnum:=num_row s.data.toList
 rw[hpre] at hnum
 have hlen:0≤s.size:=by have:=(prefix_le s.data.toList).1;rw[hpre,sdata] at this;exact this
 obtain⟨x,hx⟩:∃ x,s.data.toList.drop 0=x:=⟨_,rfl⟩
 have hsl:∀ u:World,(Instr.slice 9 (.string s) (some (.int .i64 0)) none none).run Tryz.prog u=.ok (.string (B x)) u:=fun u=>by rw[← hx];exact slice_from s 0 hlen u
 have hxl:x.length≤16777216:=by rw[← hx,List.length_drop,sdata];omega
 obtain⟨d,ok,hr⟩:∃ d ok,rowOf 10 false x=(d,ok):=⟨_,_,rfl⟩
 have HR:=Lib.hid hr
 have HE:Hid (numOf s.data.toList=if ok then(10,d,true) else(0,[],false)):=Lib.hid (by
  rw[hnum]
  show(if (rowOf 10 false (s.data.toList.drop 0)).2 then(10,(rowOf 10 false (s.data.toList.drop 0)).1,true) else(0,[],false))=_
  rw[hx,hr])
 have h48':(s.toList == [48])=false:=by simpa using h48
 have hd1:decide ((1:Int)<(s.size:Int))=true:=decide_eq_true (by omega)
 obtain⟨a,ha'⟩:∃ a,s[0]=a:=⟨_,rfl⟩
 rw[ha'] at ha
 have haz:((a.toNat:Int) == 48)=false:=byte_ne (d:=48) ha
 clear ha
 clear hnum hx hr hpre h48
 cases ok with
 |true=>
  have HF:Hid (numOf s.data.toList=(10,d,true)):=Lib.hid (by rw[HE.out,if_pos rfl])
  clear HE
  go_enter Tryz.func150,Tryz.ntmps150
  go_wp2_with (go_at_call 167;refine(row_b _ _ _ _ hxl (by decide)).mono ?_;rintro e w' ⟨rfl,rfl⟩;rw[HR.out])
  go_ret3
  exact⟨by rw[HF.out];rfl,Below.refl _ _⟩
 |false=>
  have HF:Hid (numOf s.data.toList=(0,[],false)):=Lib.hid (by rw[HE.out,if_neg (by simp)])
  clear HE
  go_enter Tryz.func150,Tryz.ntmps150
  go_wp2_with (go_at_call 167;refine(row_b _ _ _ _ hxl (by decide)).mono ?_;rintro e w' ⟨rfl,rfl⟩;rw[HR.out])
  go_ret3
  exact⟨by rw[HF.out];rfl,Below.refl _ _⟩
theorem refDigits_98 (s:ByteArray) (w:World) (hs:s.size≤16777216) (h48:s.toList≠[48]) (h:1<s.size) (ha:s[0]=48) (hc:s[1]=98) (hpre:prefixOf s.data.toList=(2,2)) :
  Calls Tryz.prog 150 #[.string s] w (Triple (numOf s.data.toList).1 (numOf s.data.toList).2.1 (numOf s.data.toList).2.2 w):=by
 have hnum:=num_row s.data.toList
 rw[hpre] at hnum
 have hlen:2≤s.size:=by have:=(prefix_le s.data.toList).1;rw[hpre,sdata] at this;exact this
 obtain⟨x,hx⟩:∃ x,s.data.toList.drop 2=x:=⟨_,rfl⟩
 have hsl:∀ u:World,(Instr.slice 9 (.string s) (some (.int .i64 2)) none none).run Tryz.prog u=.ok (.string (B x)) u:=fun u=>by rw[← hx];exact slice_from s 2 hlen u
 have hxl:x.length≤16777216:=by rw[← hx,List.length_drop,sdata];omega
 obtain⟨d,ok,hr⟩:∃ d ok,rowOf 2 true x=(d,ok):=⟨_,_,rfl⟩
 have HR:=Lib.hid hr
 have HE:Hid (numOf s.data.toList=if ok then(2,d,true) else(0,[],false)):=Lib.hid (by
  rw[hnum]
  show(if (rowOf 2 true (s.data.toList.drop 2)).2 then(2,(rowOf 2 true (s.data.toList.drop 2)).1,true) else(0,[],false))=_
  rw[hx,hr])
 have h48':(s.toList == [48])=false:=by simpa using h48
 have hd1:decide ((1:Int)<(s.size:Int))=true:=decide_eq_true (by omega)
 obtain⟨a,ha'⟩:∃ a,s[0]=a:=⟨_,rfl⟩
 rw[ha'] at ha
 have haz:((a.toNat:Int) == 48)=true:=byte_eq (d:=48) ha
 clear ha
 obtain⟨c,hc'⟩:∃ c,s[1]=c:=⟨_,rfl⟩
 rw[hc'] at hc
 have hc98:((c.toNat:Int) == 98)=true:=byte_eq (d:=98) hc
 clear hc
 clear hnum hx hr hpre h48
 cases ok with
 |true=>
  have HF:Hid (numOf s.data.toList=(2,d,true)):=Lib.hid (by rw[HE.out,if_pos rfl])
  clear HE
  go_enter Tryz.func150,Tryz.ntmps150
  go_wp2_with (go_at_call 167;refine(row_b _ _ _ _ hxl (by decide)).mono ?_;rintro e w' ⟨rfl,rfl⟩;rw[HR.out])
  go_ret3
  exact⟨by rw[HF.out];rfl,Below.refl _ _⟩
 |false=>
  have HF:Hid (numOf s.data.toList=(0,[],false)):=Lib.hid (by rw[HE.out,if_neg (by simp)])
  clear HE
  go_enter Tryz.func150,Tryz.ntmps150
  go_wp2_with (go_at_call 167;refine(row_b _ _ _ _ hxl (by decide)).mono ?_;rintro e w' ⟨rfl,rfl⟩;rw[HR.out])
  go_ret3
  exact⟨by rw[HF.out];rfl,Below.refl _ _⟩
theorem refDigits_66 (s:ByteArray) (w:World) (hs:s.size≤16777216) (h48:s.toList≠[48]) (h:1<s.size) (ha:s[0]=48) (hc:s[1]=66) (hpre:prefixOf s.data.toList=(2,2)) :
  Calls Tryz.prog 150 #[.string s] w (Triple (numOf s.data.toList).1 (numOf s.data.toList).2.1 (numOf s.data.toList).2.2 w):=by
 have hnum:=num_row s.data.toList
 rw[hpre] at hnum
 have hlen:2≤s.size:=by have:=(prefix_le s.data.toList).1;rw[hpre,sdata] at this;exact this
 obtain⟨x,hx⟩:∃ x,s.data.toList.drop 2=x:=⟨_,rfl⟩
 have hsl:∀ u:World,(Instr.slice 9 (.string s) (some (.int .i64 2)) none none).run Tryz.prog u=.ok (.string (B x)) u:=fun u=>by rw[← hx];exact slice_from s 2 hlen u
 have hxl:x.length≤16777216:=by rw[← hx,List.length_drop,sdata];omega
 obtain⟨d,ok,hr⟩:∃ d ok,rowOf 2 true x=(d,ok):=⟨_,_,rfl⟩
 have HR:=Lib.hid hr
 have HE:Hid (numOf s.data.toList=if ok then(2,d,true) else(0,[],false)):=Lib.hid (by
  rw[hnum]
  show(if (rowOf 2 true (s.data.toList.drop 2)).2 then(2,(rowOf 2 true (s.data.toList.drop 2)).1,true) else(0,[],false))=_
  rw[hx,hr])
 have h48':(s.toList == [48])=false:=by simpa using h48
 have hd1:decide ((1:Int)<(s.size:Int))=true:=decide_eq_true (by omega)
 obtain⟨a,ha'⟩:∃ a,s[0]=a:=⟨_,rfl⟩
 rw[ha'] at ha
 have haz:((a.toNat:Int) == 48)=true:=byte_eq (d:=48) ha
 clear ha
 obtain⟨c,hc'⟩:∃ c,s[1]=c:=⟨_,rfl⟩
 rw[hc'] at hc
 have hc98:((c.toNat:Int) == 98)=false:=byte_ne (d:=98) (by rw[hc];decide)
 have hc66:((c.toNat:Int) == 66)=true:=byte_eq (d:=66) hc
 clear hc
 clear hnum hx hr hpre h48
 cases ok with
 |true=>
  have HF:Hid (numOf s.data.toList=(2,d,true)):=Lib.hid (by rw[HE.out,if_pos rfl])
  clear HE
  go_enter Tryz.func150,Tryz.ntmps150
  go_wp2_with (go_at_call 167;refine(row_b _ _ _ _ hxl (by decide)).mono ?_;rintro e w' ⟨rfl,rfl⟩;rw[HR.out])
  go_ret3
  exact⟨by rw[HF.out];rfl,Below.refl _ _⟩
 |false=>
  have HF:Hid (numOf s.data.toList=(0,[],false)):=Lib.hid (by rw[HE.out,if_neg (by simp)])
  clear HE
  go_enter Tryz.func150,Tryz.ntmps150
  go_wp2_with (go_at_call 167;refine(row_b _ _ _ _ hxl (by decide)).mono ?_;rintro e w' ⟨rfl,rfl⟩;rw[HR.out])
  go_ret3
  exact⟨by rw[HF.out];rfl,Below.refl _ _⟩
theorem refDigits_111 (s:ByteArray) (w:World) (hs:s.size≤16777216) (h48:s.toList≠[48]) (h:1<s.size) (ha:s[0]=48) (hc:s[1]=111) (hpre:prefixOf s.data.toList=(8,2)) :
  Calls Tryz.prog 150 #[.string s] w (Triple (numOf s.data.toList).1 (numOf s.data.toList).2.1 (numOf s.data.toList).2.2 w):=by
 have hnum:=num_row s.data.toList
 rw[hpre] at hnum
 have hlen:2≤s.size:=by have:=(prefix_le s.data.toList).1;rw[hpre,sdata] at this;exact this
 obtain⟨x,hx⟩:∃ x,s.data.toList.drop 2=x:=⟨_,rfl⟩
 have hsl:∀ u:World,(Instr.slice 9 (.string s) (some (.int .i64 2)) none none).run Tryz.prog u=.ok (.string (B x)) u:=fun u=>by rw[← hx];exact slice_from s 2 hlen u
 have hxl:x.length≤16777216:=by rw[← hx,List.length_drop,sdata];omega
 obtain⟨d,ok,hr⟩:∃ d ok,rowOf 8 true x=(d,ok):=⟨_,_,rfl⟩
 have HR:=Lib.hid hr
 have HE:Hid (numOf s.data.toList=if ok then(8,d,true) else(0,[],false)):=Lib.hid (by
  rw[hnum]
  show(if (rowOf 8 true (s.data.toList.drop 2)).2 then(8,(rowOf 8 true (s.data.toList.drop 2)).1,true) else(0,[],false))=_
  rw[hx,hr])
 have h48':(s.toList == [48])=false:=by simpa using h48
 have hd1:decide ((1:Int)<(s.size:Int))=true:=decide_eq_true (by omega)
 obtain⟨a,ha'⟩:∃ a,s[0]=a:=⟨_,rfl⟩
 rw[ha'] at ha
 have haz:((a.toNat:Int) == 48)=true:=byte_eq (d:=48) ha
 clear ha
 obtain⟨c,hc'⟩:∃ c,s[1]=c:=⟨_,rfl⟩
 rw[hc'] at hc
 have hc98:((c.toNat:Int) == 98)=false:=byte_ne (d:=98) (by rw[hc];decide)
 have hc66:((c.toNat:Int) == 66)=false:=byte_ne (d:=66) (by rw[hc];decide)
 have hc111:((c.toNat:Int) == 111)=true:=byte_eq (d:=111) hc
 clear hc
 clear hnum hx hr hpre h48
 cases ok with
 |true=>
  have HF:Hid (numOf s.data.toList=(8,d,true)):=Lib.hid (by rw[HE.out,if_pos rfl])
  clear HE
  go_enter Tryz.func150,Tryz.ntmps150
  go_wp2_with (go_at_call 167;refine(row_b _ _ _ _ hxl (by decide)).mono ?_;rintro e w' ⟨rfl,rfl⟩;rw[HR.out])
  go_ret3
  exact⟨by rw[HF.out];rfl,Below.refl _ _⟩
 |false=>
  have HF:Hid (numOf s.data.toList=(0,[],false)):=Lib.hid (by rw[HE.out,if_neg (by simp)])
  clear HE
  go_enter Tryz.func150,Tryz.ntmps150
  go_wp2_with (go_at_call 167;refine(row_b _ _ _ _ hxl (by decide)).mono ?_;rintro e w' ⟨rfl,rfl⟩;rw[HR.out])
  go_ret3
  exact⟨by rw[HF.out];rfl,Below.refl _ _⟩
theorem refDigits_79 (s:ByteArray) (w:World) (hs:s.size≤16777216) (h48:s.toList≠[48]) (h:1<s.size) (ha:s[0]=48) (hc:s[1]=79) (hpre:prefixOf s.data.toList=(8,2)) :
  Calls Tryz.prog 150 #[.string s] w (Triple (numOf s.data.toList).1 (numOf s.data.toList).2.1 (numOf s.data.toList).2.2 w):=by
 have hnum:=num_row s.data.toList
 rw[hpre] at hnum
 have hlen:2≤s.size:=by have:=(prefix_le s.data.toList).1;rw[hpre,sdata] at this;exact this
 obtain⟨x,hx⟩:∃ x,s.data.toList.drop 2=x:=⟨_,rfl⟩
 have hsl:∀ u:World,(Instr.slice 9 (.string s) (some (.int .i64 2)) none none).run Tryz.prog u=.ok (.string (B x)) u:=fun u=>by rw[← hx];exact slice_from s 2 hlen u
 have hxl:x.length≤16777216:=by rw[← hx,List.length_drop,sdata];omega
 obtain⟨d,ok,hr⟩:∃ d ok,rowOf 8 true x=(d,ok):=⟨_,_,rfl⟩
 have HR:=Lib.hid hr
 have HE:Hid (numOf s.data.toList=if ok then(8,d,true) else(0,[],false)):=Lib.hid (by
  rw[hnum]
  show(if (rowOf 8 true (s.data.toList.drop 2)).2 then(8,(rowOf 8 true (s.data.toList.drop 2)).1,true) else(0,[],false))=_
  rw[hx,hr])
 have h48':(s.toList == [48])=false:=by simpa using h48
 have hd1:decide ((1:Int)<(s.size:Int))=true:=decide_eq_true (by omega)
 obtain⟨a,ha'⟩:∃ a,s[0]=a:=⟨_,rfl⟩
 rw[ha'] at ha
 have haz:((a.toNat:Int) == 48)=true:=byte_eq (d:=48) ha
 clear ha
 obtain⟨c,hc'⟩:∃ c,s[1]=c:=⟨_,rfl⟩
 rw[hc'] at hc
 have hc98:((c.toNat:Int) == 98)=false:=byte_ne (d:=98) (by rw[hc];decide)
 have hc66:((c.toNat:Int) == 66)=false:=byte_ne (d:=66) (by rw[hc];decide)
 have hc111:((c.toNat:Int) == 111)=false:=byte_ne (d:=111) (by rw[hc];decide)
 have hc79:((c.toNat:Int) == 79)=true:=byte_eq (d:=79) hc
 clear hc
 clear hnum hx hr hpre h48
 cases ok with
 |true=>
  have HF:Hid (numOf s.data.toList=(8,d,true)):=Lib.hid (by rw[HE.out,if_pos rfl])
  clear HE
  go_enter Tryz.func150,Tryz.ntmps150
  go_wp2_with (go_at_call 167;refine(row_b _ _ _ _ hxl (by decide)).mono ?_;rintro e w' ⟨rfl,rfl⟩;rw[HR.out])
  go_ret3
  exact⟨by rw[HF.out];rfl,Below.refl _ _⟩
 |false=>
  have HF:Hid (numOf s.data.toList=(0,[],false)):=Lib.hid (by rw[HE.out,if_neg (by simp)])
  clear HE
  go_enter Tryz.func150,Tryz.ntmps150
  go_wp2_with (go_at_call 167;refine(row_b _ _ _ _ hxl (by decide)).mono ?_;rintro e w' ⟨rfl,rfl⟩;rw[HR.out])
  go_ret3
  exact⟨by rw[HF.out];rfl,Below.refl _ _⟩
theorem refDigits_120 (s:ByteArray) (w:World) (hs:s.size≤16777216) (h48:s.toList≠[48]) (h:1<s.size) (ha:s[0]=48) (hc:s[1]=120) (hpre:prefixOf s.data.toList=(16,2)) :
  Calls Tryz.prog 150 #[.string s] w (Triple (numOf s.data.toList).1 (numOf s.data.toList).2.1 (numOf s.data.toList).2.2 w):=by
 have hnum:=num_row s.data.toList
 rw[hpre] at hnum
 have hlen:2≤s.size:=by have:=(prefix_le s.data.toList).1;rw[hpre,sdata] at this;exact this
 obtain⟨x,hx⟩:∃ x,s.data.toList.drop 2=x:=⟨_,rfl⟩
 have hsl:∀ u:World,(Instr.slice 9 (.string s) (some (.int .i64 2)) none none).run Tryz.prog u=.ok (.string (B x)) u:=fun u=>by rw[← hx];exact slice_from s 2 hlen u
 have hxl:x.length≤16777216:=by rw[← hx,List.length_drop,sdata];omega
 obtain⟨d,ok,hr⟩:∃ d ok,rowOf 16 true x=(d,ok):=⟨_,_,rfl⟩
 have HR:=Lib.hid hr
 have HE:Hid (numOf s.data.toList=if ok then(16,d,true) else(0,[],false)):=Lib.hid (by
  rw[hnum]
  show(if (rowOf 16 true (s.data.toList.drop 2)).2 then(16,(rowOf 16 true (s.data.toList.drop 2)).1,true) else(0,[],false))=_
  rw[hx,hr])
 have h48':(s.toList == [48])=false:=by simpa using h48
 have hd1:decide ((1:Int)<(s.size:Int))=true:=decide_eq_true (by omega)
 obtain⟨a,ha'⟩:∃ a,s[0]=a:=⟨_,rfl⟩
 rw[ha'] at ha
 have haz:((a.toNat:Int) == 48)=true:=byte_eq (d:=48) ha
 clear ha
 obtain⟨c,hc'⟩:∃ c,s[1]=c:=⟨_,rfl⟩
 rw[hc'] at hc
 have hc98:((c.toNat:Int) == 98)=false:=byte_ne (d:=98) (by rw[hc];decide)
 have hc66:((c.toNat:Int) == 66)=false:=byte_ne (d:=66) (by rw[hc];decide)
 have hc111:((c.toNat:Int) == 111)=false:=byte_ne (d:=111) (by rw[hc];decide)
 have hc79:((c.toNat:Int) == 79)=false:=byte_ne (d:=79) (by rw[hc];decide)
 have hc120:((c.toNat:Int) == 120)=true:=byte_eq (d:=120) hc
 clear hc
 clear hnum hx hr hpre h48
 cases ok with
 |true=>
  have HF:Hid (numOf s.data.toList=(16,d,true)):=Lib.hid (by rw[HE.out,if_pos rfl])
  clear HE
  go_enter Tryz.func150,Tryz.ntmps150
  go_wp2_with (go_at_call 167;refine(row_b _ _ _ _ hxl (by decide)).mono ?_;rintro e w' ⟨rfl,rfl⟩;rw[HR.out])
  go_ret3
  exact⟨by rw[HF.out];rfl,Below.refl _ _⟩
 |false=>
  have HF:Hid (numOf s.data.toList=(0,[],false)):=Lib.hid (by rw[HE.out,if_neg (by simp)])
  clear HE
  go_enter Tryz.func150,Tryz.ntmps150
  go_wp2_with (go_at_call 167;refine(row_b _ _ _ _ hxl (by decide)).mono ?_;rintro e w' ⟨rfl,rfl⟩;rw[HR.out])
  go_ret3
  exact⟨by rw[HF.out];rfl,Below.refl _ _⟩
theorem refDigits_88 (s:ByteArray) (w:World) (hs:s.size≤16777216) (h48:s.toList≠[48]) (h:1<s.size) (ha:s[0]=48) (hc:s[1]=88) (hpre:prefixOf s.data.toList=(16,2)) :
  Calls Tryz.prog 150 #[.string s] w (Triple (numOf s.data.toList).1 (numOf s.data.toList).2.1 (numOf s.data.toList).2.2 w):=by
 have hnum:=num_row s.data.toList
 rw[hpre] at hnum
 have hlen:2≤s.size:=by have:=(prefix_le s.data.toList).1;rw[hpre,sdata] at this;exact this
 obtain⟨x,hx⟩:∃ x,s.data.toList.drop 2=x:=⟨_,rfl⟩
 have hsl:∀ u:World,(Instr.slice 9 (.string s) (some (.int .i64 2)) none none).run Tryz.prog u=.ok (.string (B x)) u:=fun u=>by rw[← hx];exact slice_from s 2 hlen u
 have hxl:x.length≤16777216:=by rw[← hx,List.length_drop,sdata];omega
 obtain⟨d,ok,hr⟩:∃ d ok,rowOf 16 true x=(d,ok):=⟨_,_,rfl⟩
 have HR:=Lib.hid hr
 have HE:Hid (numOf s.data.toList=if ok then(16,d,true) else(0,[],false)):=Lib.hid (by
  rw[hnum]
  show(if (rowOf 16 true (s.data.toList.drop 2)).2 then(16,(rowOf 16 true (s.data.toList.drop 2)).1,true) else(0,[],false))=_
  rw[hx,hr])
 have h48':(s.toList == [48])=false:=by simpa using h48
 have hd1:decide ((1:Int)<(s.size:Int))=true:=decide_eq_true (by omega)
 obtain⟨a,ha'⟩:∃ a,s[0]=a:=⟨_,rfl⟩
 rw[ha'] at ha
 have haz:((a.toNat:Int) == 48)=true:=byte_eq (d:=48) ha
 clear ha
 obtain⟨c,hc'⟩:∃ c,s[1]=c:=⟨_,rfl⟩
 rw[hc'] at hc
 have hc98:((c.toNat:Int) == 98)=false:=byte_ne (d:=98) (by rw[hc];decide)
 have hc66:((c.toNat:Int) == 66)=false:=byte_ne (d:=66) (by rw[hc];decide)
 have hc111:((c.toNat:Int) == 111)=false:=byte_ne (d:=111) (by rw[hc];decide)
 have hc79:((c.toNat:Int) == 79)=false:=byte_ne (d:=79) (by rw[hc];decide)
 have hc120:((c.toNat:Int) == 120)=false:=byte_ne (d:=120) (by rw[hc];decide)
 have hc88:((c.toNat:Int) == 88)=true:=byte_eq (d:=88) hc
 clear hc
 clear hnum hx hr hpre h48
 cases ok with
 |true=>
  have HF:Hid (numOf s.data.toList=(16,d,true)):=Lib.hid (by rw[HE.out,if_pos rfl])
  clear HE
  go_enter Tryz.func150,Tryz.ntmps150
  go_wp2_with (go_at_call 167;refine(row_b _ _ _ _ hxl (by decide)).mono ?_;rintro e w' ⟨rfl,rfl⟩;rw[HR.out])
  go_ret3
  exact⟨by rw[HF.out];rfl,Below.refl _ _⟩
 |false=>
  have HF:Hid (numOf s.data.toList=(0,[],false)):=Lib.hid (by rw[HE.out,if_neg (by simp)])
  clear HE
  go_enter Tryz.func150,Tryz.ntmps150
  go_wp2_with (go_at_call 167;refine(row_b _ _ _ _ hxl (by decide)).mono ?_;rintro e w' ⟨rfl,rfl⟩;rw[HR.out])
  go_ret3
  exact⟨by rw[HF.out];rfl,Below.refl _ _⟩
theorem refDigits_eight (s:ByteArray) (w:World) (hs:s.size≤16777216) (h48:s.toList≠[48]) (h:1<s.size) (ha:s[0]=48) (n98:s[1]≠98) (n66:s[1]≠66) (n111:s[1]≠111) (n79:s[1]≠79) (n120:s[1]≠120) (n88:s[1]≠88) (hpre:prefixOf s.data.toList=(8,1)) :
  Calls Tryz.prog 150 #[.string s] w (Triple (numOf s.data.toList).1 (numOf s.data.toList).2.1 (numOf s.data.toList).2.2 w):=by
 have hnum:=num_row s.data.toList
 rw[hpre] at hnum
 have hlen:1≤s.size:=by have:=(prefix_le s.data.toList).1;rw[hpre,sdata] at this;exact this
 obtain⟨x,hx⟩:∃ x,s.data.toList.drop 1=x:=⟨_,rfl⟩
 have hsl:∀ u:World,(Instr.slice 9 (.string s) (some (.int .i64 1)) none none).run Tryz.prog u=.ok (.string (B x)) u:=fun u=>by rw[← hx];exact slice_from s 1 hlen u
 have hxl:x.length≤16777216:=by rw[← hx,List.length_drop,sdata];omega
 obtain⟨d,ok,hr⟩:∃ d ok,rowOf 8 true x=(d,ok):=⟨_,_,rfl⟩
 have HR:=Lib.hid hr
 have HE:Hid (numOf s.data.toList=if ok then(8,d,true) else(0,[],false)):=Lib.hid (by
  rw[hnum]
  show(if (rowOf 8 true (s.data.toList.drop 1)).2 then(8,(rowOf 8 true (s.data.toList.drop 1)).1,true) else(0,[],false))=_
  rw[hx,hr])
 have h48':(s.toList == [48])=false:=by simpa using h48
 have hd1:decide ((1:Int)<(s.size:Int))=true:=decide_eq_true (by omega)
 obtain⟨a,ha'⟩:∃ a,s[0]=a:=⟨_,rfl⟩
 rw[ha'] at ha
 have haz:((a.toNat:Int) == 48)=true:=byte_eq (d:=48) ha
 clear ha
 obtain⟨c,hc'⟩:∃ c,s[1]=c:=⟨_,rfl⟩
 rw[hc'] at n98 n66 n111 n79 n120 n88
 have hc98:((c.toNat:Int) == 98)=false:=byte_ne (d:=98) n98
 have hc66:((c.toNat:Int) == 66)=false:=byte_ne (d:=66) n66
 have hc111:((c.toNat:Int) == 111)=false:=byte_ne (d:=111) n111
 have hc79:((c.toNat:Int) == 79)=false:=byte_ne (d:=79) n79
 have hc120:((c.toNat:Int) == 120)=false:=byte_ne (d:=120) n120
 have hc88:((c.toNat:Int) == 88)=false:=byte_ne (d:=88) n88
 clear n98 n66 n111 n79 n120 n88
 clear hnum hx hr hpre h48
 cases ok with
 |true=>
  have HF:Hid (numOf s.data.toList=(8,d,true)):=Lib.hid (by rw[HE.out,if_pos rfl])
  clear HE
  go_enter Tryz.func150,Tryz.ntmps150
  go_wp2_with (go_at_call 167;refine(row_b _ _ _ _ hxl (by decide)).mono ?_;rintro e w' ⟨rfl,rfl⟩;rw[HR.out])
  go_ret3
  exact⟨by rw[HF.out];rfl,Below.refl _ _⟩
 |false=>
  have HF:Hid (numOf s.data.toList=(0,[],false)):=Lib.hid (by rw[HE.out,if_neg (by simp)])
  clear HE
  go_enter Tryz.func150,Tryz.ntmps150
  go_wp2_with (go_at_call 167;refine(row_b _ _ _ _ hxl (by decide)).mono ?_;rintro e w' ⟨rfl,rfl⟩;rw[HR.out])
  go_ret3
  exact⟨by rw[HF.out];rfl,Below.refl _ _⟩
theorem refDigits_zero (s:ByteArray) (w:World) (h48:s.toList=[48]) :
  Calls Tryz.prog 150 #[.string s] w (Triple (numOf s.data.toList).1 (numOf s.data.toList).2.1 (numOf s.data.toList).2.2 w):=by
 have e:numOf s.data.toList=(10,[48],true):=by rw[← Lib.toList_data,h48];decide
 have HE:=Lib.hid e
 have h48':(s.toList == [48])=true:=by simpa using h48
 clear e h48
 go_enter Tryz.func150,Tryz.ntmps150
 go_wp2_with fail
 go_ret3
 exact⟨by rw[HE.out];rfl,Below.refl _ _⟩
theorem refDigits_any (s:ByteArray) (w:World) (hs:s.size≤16777216) :
  Calls Tryz.prog 150 #[.string s] w (Triple (numOf s.data.toList).1 (numOf s.data.toList).2.1 (numOf s.data.toList).2.2 w):=by
 by_cases h48:s.toList=[48]
 ·exact refDigits_zero s w h48
 by_cases h:s.size<2
 ·exact refDigits_short s w hs h48 h (prefix_short (by rw[sdata];exact h))
 have h0:0<s.size:=by omega
 have h1:1<s.size:=by omega
 have e:=prefix_long (l:=s.data.toList) (by rw[sdata];exact h1)
 rw[at_data h0,at_data h1] at e
 by_cases ha:s[0]=48
 ·rw[if_pos ha] at e
  by_cases c98:s[1]=98
  ·rw[if_pos (.inl c98)] at e;exact refDigits_98 s w hs h48 h1 ha c98 e
  by_cases c66:s[1]=66
  ·rw[if_pos (.inr c66)] at e;exact refDigits_66 s w hs h48 h1 ha c66 e
  rw[if_neg (fun g=>g.elim c98 c66)] at e
  by_cases c111:s[1]=111
  ·rw[if_pos (.inl c111)] at e;exact refDigits_111 s w hs h48 h1 ha c111 e
  by_cases c79:s[1]=79
  ·rw[if_pos (.inr c79)] at e;exact refDigits_79 s w hs h48 h1 ha c79 e
  rw[if_neg (fun g=>g.elim c111 c79)] at e
  by_cases c120:s[1]=120
  ·rw[if_pos (.inl c120)] at e;exact refDigits_120 s w hs h48 h1 ha c120 e
  by_cases c88:s[1]=88
  ·rw[if_pos (.inr c88)] at e;exact refDigits_88 s w hs h48 h1 ha c88 e
  rw[if_neg (fun g=>g.elim c120 c88)] at e
  exact refDigits_eight s w hs h48 h1 ha c98 c66 c111 c79 c120 c88 e
 ·rw[if_neg ha] at e
  exact refDigits_ten s w hs h48 h1 ha e
end Go.Proofs.YtcekbbkidipbnaaGreat.tok
