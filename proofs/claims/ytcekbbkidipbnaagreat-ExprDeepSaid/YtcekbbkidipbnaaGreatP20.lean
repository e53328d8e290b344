/-
  Texts put together: RefRuneB.
-/
import Derived.Test.YtcekbbkidipbnaaGreatP19
set_option maxRecDepth 100000
set_option maxHeartbeats 8000000
namespace Go.Proofs.YtcekbbkidipbnaaGreat.tok
open Go.RowKit
theorem zpJ (s:ByteArray) (w:World) (hs:s.size≤140737488351232) :
  Calls Tryz.prog 170 #[.string s] w (Runed (runeOf s.data.toList) w):=by
 by_cases h2:s.size<2
 ·have hd:decide ((s.size:Int)<2)=true:=decide_eq_true zdC
  have HF:=Lib.hid (zjX (l:=s.data.toList) (by rw[sdata];exact h2))
  exact zdo
 have hd:decide ((s.size:Int)<2)=false:=decide_eq_false zdC
 have h0:0<s.size:=by omega
 have h1:1<s.size:=by omega
 have e:=zkK (l:=s.data.toList) (by rw[sdata];exact h1)
 rw[zfY h0,zfY h1] at e
 obtain⟨a,ha⟩:∃ a,s[0]'h0=a:=⟨_,rfl⟩
 obtain⟨c,hc⟩:∃ c,s[1]'h1=c:=⟨_,rfl⟩
 have hix0:∀ u:World,(Instr.index 9 (.string s) (.int .i64 0)).run Tryz.prog u=.ok (.int .u8 (a.toNat:Int)) u:=fun u=>by
  rw[zfJ s 0 0 zdC zdC u,ha]
 have hix1:∀ u:World,(Instr.index 9 (.string s) (.int .i64 1)).run Tryz.prog u=.ok (.int .u8 (c.toNat:Int)) u:=fun u=>by
  rw[zfJ s 1 1 zdC zdC u,hc]
 rw[ha,hc] at e
 by_cases ca:a=39
 ·have za:((a.toNat:Int) != 39)=false:=zhm (d:=39) ca
  rw[if_pos ca] at e
  have HCH:Hid (∀ u:World,Calls Tryz.prog 186 #[.string s,.int .i64 1] u (Chr (ChrOf (s.data.toList.drop 1)) u)):=Lib.hid (fun u=>zqg s u hs h1)
  obtain⟨p,m,hpm⟩:∃ p m,ChrOf (s.data.toList.drop 1)=(p,m):=⟨_,_,rfl⟩
  have hmb:m≤4:=by have:=(zom (s.data.toList.drop 1)).2.2;have h':=congrArg Prod.snd hpm;simp only[ChrOf] at h';omega
  have hp1:((charL (s.data.toList.drop 1)).1:Int)=p:=congrArg Prod.fst hpm
  have hm1:(charL (s.data.toList.drop 1)).2=m:=congrArg Prod.snd hpm
  rw[hpm] at HCH
  rw[hp1,hm1] at e
  clear ca ha hpm hp1 hm1
  by_cases c92:c=92
  ·have z92:((c.toNat:Int) == 92)=true:=zfM (d:=92) c92
   have z39:((c.toNat:Int) == 39)=false:=zfx (d:=39) (by rw[c92];decide)
   have z10:((c.toNat:Int) == 10)=false:=zfx (d:=10) (by rw[c92];decide)
   rw[if_pos c92] at e
   have hfit:=zkh s.data.toList 1 39
   have HES:Hid (∀ u:World,Calls Tryz.prog 185 #[.string s,.int .i64 1,.int .u8 39] u (RefEsc (escV s.data.toList 1 39) u)):=Lib.hid (fun u=>zke s 1 39 u zdC zdC (.inr rfl))
   obtain⟨n,r,wd,hv⟩:∃ n r wd,escV s.data.toList 1 39=(n,r,wd):=⟨_,_,_,rfl⟩
   rw[hv] at e hfit HES
   simp only[] at e
   obtain⟨t,ht⟩:∃ t,escT (n,r,wd)=t:=⟨_,rfl⟩
   unfold RefEsc at HES
   rw[ht] at HES
   have HFIT:=Lib.hid hfit
   clear c92 hv hfit ht hc
   by_cases hw:wd=0
   ·have hwz:((wd:Int) == 0)=true:=by rw[hw];rfl
    rw[if_pos hw] at e
    have HF:=Lib.hid e
    clear e HFIT
    go_enter Tryz.func170,Tryz.ntmps170
    go_wp2_with (first|(go_at_call 186;refine(HCH.out _).mono ?_;rintro e w1 ⟨rfl,hb⟩;have HB1:=Lib.hid hb;have hbz:=hb.size;clear hb)|(go_at_call 185;refine(HES.out _).mono ?_;rintro e w2 ⟨rfl,hb⟩;have HB2:=Lib.hid hb;clear hb))
    go_ret3
    exact⟨by rw[HF.out];rfl,HB1.out.trans (HB2.out.mono hbz)⟩
   ·rw[if_neg hw] at e
    have HFN:=Lib.hid e
    have hwb:wd≤s.size:=by have:=(HFIT.out.2 hw).1;rw[sdata] at this;simp only[] at this;omega
    clear e HFIT
    have h0:¬ wd=0:=hw
    clear hw
    have hnz:((wd:Int) == 0)=false:=beq_eq_false_iff_ne.2 zdC
    by_cases hlen:s.size=wd+2
    ·have hl:((s.size:Int) != (wd:Int)+2)=false:=by rw[hlen];simp
     obtain⟨d,hd⟩:∃ d,s[wd+1]=d:=⟨_,rfl⟩
     have hixd:∀ u:World,(Instr.index 9 (.string s) (.int .i64 ((wd:Int)+1))).run Tryz.prog u=.ok (.int .u8 (d.toNat:Int)) u:=fun u=>by
      rw[← hd];exact zfJ s _ (wd+1) zdC zdC u
     have hat:s.data.toList[wd+1]? = some d:=by rw[List.getElem?_eq_getElem zdW,zfY zdC,hd]
     by_cases h39:d=39
     ·have z3:((d.toNat:Int) != 39)=false:=zhm (d:=39) h39
      have HR:Hid (runeOf s.data.toList=(n,0,0)):=Lib.hid zei
      clear h39 hat hd hlen
      exact zbf
     ·have z3:((d.toNat:Int) != 39)=true:=zhf (d:=39) h39
      have HR:Hid (runeOf s.data.toList=(0,107,0)):=Lib.hid zej
      clear h39 hat hd hlen
      exact zbf
    ·have hl:((s.size:Int) != (wd:Int)+2)=true:=by simp;omega
     have HR:Hid (runeOf s.data.toList=(0,107,0)):=Lib.hid zek
     exact zbf
  ·have z92:((c.toNat:Int) == 92)=false:=zfx (d:=92) c92
   rw[if_neg c92] at e
   by_cases c3:c=39
   ·have z39:((c.toNat:Int) == 39)=true:=zfM (d:=39) c3
    rw[if_pos (.inl c3)] at e
    have HF:=Lib.hid e
    clear e c3 c92 hc
    by_cases h0:m=0
    ·have hnz:((m:Int) == 0)=true:=by rw[h0];rfl
     exact zbk
    ·have hnz:((m:Int) == 0)=false:=beq_eq_false_iff_ne.2 zdC
     exact zbk
   have z39:((c.toNat:Int) == 39)=false:=zfx (d:=39) c3
   by_cases c1:c=10
   ·have z10:((c.toNat:Int) == 10)=true:=zfM (d:=10) c1
    rw[if_pos (.inr c1)] at e
    have HF:=Lib.hid e
    clear e c3 c92 c1 hc
    by_cases h0:m=0
    ·have hnz:((m:Int) == 0)=true:=by rw[h0];rfl
     exact zbk
    ·have hnz:((m:Int) == 0)=false:=beq_eq_false_iff_ne.2 zdC
     exact zbk
   have z10:((c.toNat:Int) == 10)=false:=zfx (d:=10) c1
   rw[if_neg (fun g=>g.elim c3 c1)] at e
   have HFN:=Lib.hid e
   clear e c3 c92 c1 hc
   by_cases h0:m=0
   ·have hnz:((m:Int) == 0)=true:=by rw[h0];rfl
    have HR:Hid (runeOf s.data.toList=(0,107,0)):=Lib.hid (by rw[HFN.out];exact zoC (fun g=>g.1 h0))
    clear h0
    exact zbm
   have hnz:((m:Int) == 0)=false:=beq_eq_false_iff_ne.2 zdC
   by_cases hlen:s.size=m+2
   ·have hl:((s.size:Int) != (m:Int)+2)=false:=by rw[hlen];simp
    obtain⟨d,hd⟩:∃ d,s[m+1]=d:=⟨_,rfl⟩
    have hixd:∀ u:World,(Instr.index 9 (.string s) (.int .i64 ((m:Int)+1))).run Tryz.prog u=.ok (.int .u8 (d.toNat:Int)) u:=fun u=>by
     rw[← hd];exact zfJ s _ (m+1) zdC zdC u
    have hat:s.data.toList[m+1]? = some d:=by rw[List.getElem?_eq_getElem zdW,zfY zdC,hd]
    by_cases h39:d=39
    ·have z3:((d.toNat:Int) != 39)=false:=zhm (d:=39) h39
     have HR:Hid (runeOf s.data.toList=(p,0,0)):=Lib.hid zei
     clear h39 hat hd hlen
     exact zbm
    ·have z3:((d.toNat:Int) != 39)=true:=zhf (d:=39) h39
     have HR:Hid (runeOf s.data.toList=(0,107,0)):=Lib.hid zej
     clear h39 hat hd hlen
     exact zbm
   ·have hl:((s.size:Int) != (m:Int)+2)=true:=by simp;omega
    have HR:Hid (runeOf s.data.toList=(0,107,0)):=Lib.hid zek
    exact zbm
 ·have za:((a.toNat:Int) != 39)=true:=zhf (d:=39) ca
  rw[if_neg ca] at e
  have HF:=Lib.hid e
  clear e ca ha hc
  exact zdo
end Go.Proofs.YtcekbbkidipbnaaGreat.tok
