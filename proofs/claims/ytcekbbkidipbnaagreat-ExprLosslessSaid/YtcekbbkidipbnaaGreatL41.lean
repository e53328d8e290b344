/-
  Texts put together: Rbp, Rbq, Rbr.
-/
import Derived.Test.YtcekbbkidipbnaaGreatL39
import Derived.Test.YtcekbbkidipbnaaGreatL37
import Derived.Test.YtcekbbkidipbnaaGreatL40
set_option maxRecDepth 100000
set_option maxHeartbeats 8000000
namespace Go.Proofs.YtcekbbkidipbnaaGreat.lx
open Go.RowKit Go.Proofs.YtcekbbkidipbnaaGreat.tok
theorem refNext_7 {s:ByteArray} {i:Nat} {c:UInt8} {w:World} (hlt:i<s.size) (hc:s[i]=c) (hs:s.size≤4194304) (m:Nx) (hm:m=if (numOf ((s.data.toList.drop i).take (runL isWd (s.data.toList.drop i)))).2.2=true then right 11 (runL isWd (s.data.toList.drop i)) else wrong 11 (runL isWd (s.data.toList.drop i)) 109) (h1:i≠0∨Lib.hasPrefix s.data.toList mark=false) (h2:isBl c=false) (h3:c≠10) (h4:c≠47) (h6:isLt c=false) (h7:isDg c=true) :
  Calls Tryz.prog 134 #[.string s,.int .i64 (i:Int)] w (Told m i w):=by
 have HW:=Lib.hid hm
 have HSD:=Lib.hid (sdata s)
 have hix:∀ u:World,(Instr.index 9 (.string s) (.int .i64 (i:Int))).run Tryz.prog u=.ok (.int .u8 (c.toNat:Int)) u:=fun u=>by rw[← hc];exact index_at s _ i rfl hlt u
 have HC:Hid (∀ h:i<s.data.toList.length,isWd s.data.toList[i]=true):=Lib.hid (fun _=>by rw[show s.data.toList[i]=s[i] from rfl,hc];unfold isWd;rw[h7,Bool.or_true])
 have H2:=Lib.hid (fun u=>refBlank_then c u)
 rw[h2] at H2
 have b10:((c.toNat:Int) == 10)=false:=byte_ne (d:=10) h3
 have b47:((c.toNat:Int) == 47)=false:=byte_ne (d:=47) h4
 have H6:=Lib.hid (fun u=>refLetter_any c u)
 rw[h6] at H6
 have H7:=Lib.hid (fun u=>refDigit_any c u)
 rw[h7] at H7
 clear h2 h3 h4 h6 h7 hm hc
 rcases nm_cases h1 with h1|⟨h1,h3⟩|⟨h1,h3,h4⟩
 ·have b1:((i:Int) == 0)=false:=beq_eq_false_iff_ne.2 (by omega)
  clear h1
  go_enter Tryz.func134,Tryz.ntmps134
  go_wp2_with (first|(go_at_call 146;refine(H2.out _).mono ?_;rintro e W ⟨rfl,hbW⟩;have HF:=Lib.hid ((four_new w (.int .i64 0) (.int .i64 (i:Int)) (.int .i64 ((i:Int)+1)) (.int .i64 0) (.int .i64 (i:Int)) (.int .i64 0)).then hbW);obtain⟨⟨⟨u0,u1,u2,u3,u4,u5,k0,k1,k2,k3,k4,k5⟩,f0,f1,f2,f3,f4,f5⟩,x0,x1,x2,y0,y1,y2,⟨⟨g0,g1,g2⟩,g3,g4,g5⟩,_⟩:=HF.out;clear hbW)|(go_at_call 147;refine(H6.out _).mono ?_;rintro e w' ⟨rfl,rfl⟩)|(go_at_call 148;refine(H7.out _).mono ?_;rintro e w' ⟨rfl,rfl⟩))
  have HF1:=Lib.hid (HF.out.set0 (.int .i64 11))
  have e1:((i:Int)+1)=((i+1:Nat):Int):=by omega
  have HF2:=HF1
  rw[e1] at HF2
  clear k0 k1 k2 k3 k4 k5 f0 f1 f2 f3 f4 f5 x0 x1 x2 y0 y1 y2 g0 g1 g2 g3 g4 g5
  go_loopw [] (fun wr=>∃ n:Nat,i<n∧n≤s.size∧Four w wr (.int .i64 11) (.int .i64 (i:Int)) (.int .i64 (n:Int)) (.int .i64 0) (.int .i64 (i:Int)) (.int .i64 0)∧∀ j,i≤j→j<n→∀ h:j<s.data.toList.length,isWd s.data.toList[j]=true) (fun wr=>s.size - (intOf ((wr.cell? ⟨w.heap.size+1+1,2,none⟩).getD undef)).toNat)
  case atStart=>exact⟨i+1,by omega,by omega,HF2.out,fun j g1 g2 h=>by
           obtain rfl:j=i:=by omega
           exact HC.out h⟩
  case round=>
   obtain⟨n,hn1,hn2,hfo,hall⟩:=hrel
   have HR:=Lib.hid hfo
   have HA:=Lib.hid hall
   clear hfo hall HF HF1 HF2 e1
   obtain⟨⟨⟨u0,u1,u2,u3,u4,u5,k0,k1,k2,k3,k4,k5⟩,f0,f1,f2,f3,f4,f5⟩,x0,x1,x2,y0,y1,y2,⟨⟨g0,g1,g2⟩,g3,g4,g5⟩,_⟩:=HR.out
   by_cases hlt2:n<s.size
   ·obtain⟨d,hd⟩:∃ d,s[n]'hlt2=d:=⟨_,rfl⟩
    have hixn:∀ u:World,(Instr.index 9 (.string s) (.int .i64 (n:Int))).run Tryz.prog u=.ok (.int .u8 (d.toNat:Int)) u:=fun u=>by rw[← hd];exact index_at s _ n rfl hlt2 u
    have HD:Hid (∀ h:n<s.data.toList.length,s.data.toList[n]=d):=Lib.hid (fun _=>by rw[← hd];rfl)
    have dlt:decide ((n:Int)<(s.size:Int))=true:=decide_eq_true (by omega)
    clear hd
    cases hL:isLt d with
    |true=>
     have H3:=Lib.hid (fun u=>refLetter_any d u)
     rw[hL] at H3
     have HP:Hid (isWd d=true):=Lib.hid (by unfold isWd;rw[hL];rfl)
     clear hL
     go_wp2_with (go_at_call 147;refine(H3.out _).mono ?_;rintro e w' ⟨rfl,rfl⟩)
     go_roundw
     case rel=>exact⟨n+1,by omega,by omega,by have:=HR.out.set2 (.int .i64 ((n+1:Nat):Int));exact this,fun j g1 g2 h=>by
            by_cases e:j=n
            ·subst e;rw[HD.out h];exact HP.out
            ·exact HA.out j g1 (by omega) h⟩
     case measure=>have e2:=(HR.out.set2 (.int .i64 ((n:Int)+1))).x2;simp only[x2,e2,Option.getD_some,intOf];omega
    |false=>
     have H3:=Lib.hid (fun u=>refLetter_any d u)
     rw[hL] at H3
     have H5:=Lib.hid (fun u=>refDigit_any d u)
     cases hG:isDg d with
     |true=>
      rw[hG] at H5
      have HP:Hid (isWd d=true):=Lib.hid (by unfold isWd;rw[hL,hG];rfl)
      clear hL hG
      go_wp2_with (first|(go_at_call 147;refine(H3.out _).mono ?_;rintro e w' ⟨rfl,rfl⟩)|(go_at_call 148;refine(H5.out _).mono ?_;rintro e w' ⟨rfl,rfl⟩))
      go_roundw
      case rel=>exact⟨n+1,by omega,by omega,by have:=HR.out.set2 (.int .i64 ((n+1:Nat):Int));exact this,fun j g1 g2 h=>by
             by_cases e:j=n
             ·subst e;rw[HD.out h];exact HP.out
             ·exact HA.out j g1 (by omega) h⟩
      case measure=>have e2:=(HR.out.set2 (.int .i64 ((n:Int)+1))).x2;simp only[x2,e2,Option.getD_some,intOf];omega
     |false=>
      rw[hG] at H5
      have HP:Hid (isWd d=false):=Lib.hid (by unfold isWd;rw[hL,hG];rfl)
      clear hL hG
      have HE:Hid (i+runL isWd (s.data.toList.drop i)=n):=Lib.hid (run_to (by omega) (by rw[HSD.out];exact hlt2) HA.out (by rw[HD.out (by rw[HSD.out];exact hlt2)];exact HP.out))
      have hsl:=piece_mid s i n (i:Int) (n:Int) rfl rfl (by omega) (by omega)
      have HK:=Lib.hid (fun u=>refDigits_any (B ((s.data.toList.drop i).take (n - i))) u (by rw[bsize,List.length_take,List.length_drop,HSD.out];omega))
      rw[bdata] at HK
      have hw:runL isWd (s.data.toList.drop i)=n - i:=by have:=HE.out;omega
      have HW3:=HW
      rw[hw] at HW3
      obtain⟨z1,z2,z3,hz⟩:∃ z1 z2 z3,numOf ((s.data.toList.drop i).take (n - i))=(z1,z2,z3):=⟨_,_,_,rfl⟩
      obtain⟨x,hx⟩:∃ x,B ((s.data.toList.drop i).take (n - i))=x:=⟨_,rfl⟩
      rw[hz] at HK HW3
      rw[hx] at HK hsl
      have HE2:Hid ((i:Int)+((n - i:Nat):Int)=(n:Int)):=Lib.hid (by omega)
      clear hz hx hw HW HE HA
      cases z3 with
      |true=>
       rw[if_pos rfl] at HW3
       go_wp2_with (first|(go_at_call 147;refine(H3.out _).mono ?_;rintro e w' ⟨rfl,rfl⟩)|(go_at_call 148;refine(H5.out _).mono ?_;rintro e w' ⟨rfl,rfl⟩)|(go_at_call 150;refine(HK.out _).mono ?_;rintro e W5 ⟨rfl,hb5⟩;have HG:=Lib.hid (HR.out.then hb5);clear k0 k1 k2 k3 k4 k5 f0 f1 f2 f3 f4 f5 x0 x1 x2 y0 y1 y2 g0 g1 g2 g3 g4 g5;clear hb5;obtain⟨⟨⟨u0,u1,u2,u3,u4,u5,k0,k1,k2,k3,k4,k5⟩,f0,f1,f2,f3,f4,f5⟩,x0,x1,x2,y0,y1,y2,⟨⟨g0,g1,g2⟩,g3,g4,g5⟩,_⟩:=HG.out))
       go_region
       go_wp2_with fail
       exact bodyPost_ret (results_drew Tryz.results134 _ (by repeat (first|exact HG.out.six|refine six_past ?_ (by omega) _)) (.int .i64 11) (.int .i64 (i:Int)) (.int .i64 (n:Int)) (.int .i64 0) (.int .i64 (i:Int)) (.int .i64 (n:Int)) rfl rfl) rfl (Told.mk' (x:=(i:Int)) (y:=(n:Int)) (by rw[HW3.out];simp only[right];rw[HE2.out]) (by rw[HW3.out];exact fun h=>absurd rfl h) (below_put6 (by repeat (first|exact HG.out.below|refine below_at ?_ (by omega) _)) (Nat.le_refl _) _ _ _ _ _ _).drew)
      |false=>
       rw[if_neg (by simp)] at HW3
       go_wp2_with (first|(go_at_call 147;refine(H3.out _).mono ?_;rintro e w' ⟨rfl,rfl⟩)|(go_at_call 148;refine(H5.out _).mono ?_;rintro e w' ⟨rfl,rfl⟩)|(go_at_call 150;refine(HK.out _).mono ?_;rintro e W5 ⟨rfl,hb5⟩;have HG:=Lib.hid (HR.out.then hb5);clear k0 k1 k2 k3 k4 k5 f0 f1 f2 f3 f4 f5 x0 x1 x2 y0 y1 y2 g0 g1 g2 g3 g4 g5;clear hb5;obtain⟨⟨⟨u0,u1,u2,u3,u4,u5,k0,k1,k2,k3,k4,k5⟩,f0,f1,f2,f3,f4,f5⟩,x0,x1,x2,y0,y1,y2,⟨⟨g0,g1,g2⟩,g3,g4,g5⟩,_⟩:=HG.out))
       go_region
       go_wp2_with fail
       exact bodyPost_ret (results_drew Tryz.results134 _ (by repeat (first|exact HG.out.six|refine six_past ?_ (by omega) _)) (.int .i64 11) (.int .i64 (i:Int)) (.int .i64 (n:Int)) (.int .i64 109) (.int .i64 (i:Int)) (.int .i64 (n:Int)) rfl rfl) rfl (Told.mk' (x:=(i:Int)) (y:=(n:Int)) (by rw[HW3.out];simp only[wrong];rw[HE2.out]) (by rw[HW3.out];exact fun _=>⟨by simp [wrong],by simp only[wrong];rw[← HE2.out];simp⟩) (below_put6 (by repeat (first|exact HG.out.below|refine below_at ?_ (by omega) _)) (Nat.le_refl _) _ _ _ _ _ _).drew)
   ·have dlt:decide ((n:Int)<(s.size:Int))=false:=decide_eq_false (by omega)
    obtain rfl:n=s.size:=by omega
    have HE:Hid (i+runL isWd (s.data.toList.drop i)=s.size):=Lib.hid (by rw[run_end (by rw[HSD.out];omega) (fun j g1 h=>HA.out j g1 (by rw[HSD.out] at h;omega) h),HSD.out])
    have hsl:=piece_mid s i s.size (i:Int) (s.size:Int) rfl rfl (by omega) (by omega)
    have HK:=Lib.hid (fun u=>refDigits_any (B ((s.data.toList.drop i).take (s.size - i))) u (by rw[bsize,List.length_take,List.length_drop,HSD.out];omega))
    rw[bdata] at HK
    have hw:runL isWd (s.data.toList.drop i)=s.size - i:=by have:=HE.out;omega
    have HW3:=HW
    rw[hw] at HW3
    obtain⟨z1,z2,z3,hz⟩:∃ z1 z2 z3,numOf ((s.data.toList.drop i).take (s.size - i))=(z1,z2,z3):=⟨_,_,_,rfl⟩
    obtain⟨x,hx⟩:∃ x,B ((s.data.toList.drop i).take (s.size - i))=x:=⟨_,rfl⟩
    rw[hz] at HK HW3
    rw[hx] at HK hsl
    have HE2:Hid ((i:Int)+((s.size - i:Nat):Int)=(s.size:Int)):=Lib.hid (by omega)
    clear hz hx hw HW HE HA
    cases z3 with
    |true=>
     rw[if_pos rfl] at HW3
     go_wp2_with (first|(go_at_call 150;refine(HK.out _).mono ?_;rintro e W5 ⟨rfl,hb5⟩;have HG:=Lib.hid (HR.out.then hb5);clear k0 k1 k2 k3 k4 k5 f0 f1 f2 f3 f4 f5 x0 x1 x2 y0 y1 y2 g0 g1 g2 g3 g4 g5;clear hb5;obtain⟨⟨⟨u0,u1,u2,u3,u4,u5,k0,k1,k2,k3,k4,k5⟩,f0,f1,f2,f3,f4,f5⟩,x0,x1,x2,y0,y1,y2,⟨⟨g0,g1,g2⟩,g3,g4,g5⟩,_⟩:=HG.out))
     go_region
     go_wp2_with fail
     exact bodyPost_ret (results_drew Tryz.results134 _ (by repeat (first|exact HG.out.six|refine six_past ?_ (by omega) _)) (.int .i64 11) (.int .i64 (i:Int)) (.int .i64 (s.size:Int)) (.int .i64 0) (.int .i64 (i:Int)) (.int .i64 (s.size:Int)) rfl rfl) rfl (Told.mk' (x:=(i:Int)) (y:=(s.size:Int)) (by rw[HW3.out];simp only[right];rw[HE2.out]) (by rw[HW3.out];exact fun h=>absurd rfl h) (below_put6 (by repeat (first|exact HG.out.below|refine below_at ?_ (by omega) _)) (Nat.le_refl _) _ _ _ _ _ _).drew)
    |false=>
     rw[if_neg (by simp)] at HW3
     go_wp2_with (first|(go_at_call 150;refine(HK.out _).mono ?_;rintro e W5 ⟨rfl,hb5⟩;have HG:=Lib.hid (HR.out.then hb5);clear k0 k1 k2 k3 k4 k5 f0 f1 f2 f3 f4 f5 x0 x1 x2 y0 y1 y2 g0 g1 g2 g3 g4 g5;clear hb5;obtain⟨⟨⟨u0,u1,u2,u3,u4,u5,k0,k1,k2,k3,k4,k5⟩,f0,f1,f2,f3,f4,f5⟩,x0,x1,x2,y0,y1,y2,⟨⟨g0,g1,g2⟩,g3,g4,g5⟩,_⟩:=HG.out))
     go_region
     go_wp2_with fail
     exact bodyPost_ret (results_drew Tryz.results134 _ (by repeat (first|exact HG.out.six|refine six_past ?_ (by omega) _)) (.int .i64 11) (.int .i64 (i:Int)) (.int .i64 (s.size:Int)) (.int .i64 109) (.int .i64 (i:Int)) (.int .i64 (s.size:Int)) rfl rfl) rfl (Told.mk' (x:=(i:Int)) (y:=(s.size:Int)) (by rw[HW3.out];simp only[wrong];rw[HE2.out]) (by rw[HW3.out];exact fun _=>⟨by simp [wrong],by simp only[wrong];rw[← HE2.out];simp⟩) (below_put6 (by repeat (first|exact HG.out.below|refine below_at ?_ (by omega) _)) (Nat.le_refl _) _ _ _ _ _ _).drew)
 ·have b1:((i:Int) == 0)=true:=beq_iff_eq.2 (by omega)
  have d3:decide (3≤(s.size:Int))=false:=decide_eq_false (by omega)
  clear h1 h3
  go_enter Tryz.func134,Tryz.ntmps134
  go_wp2_with (first|(go_at_call 146;refine(H2.out _).mono ?_;rintro e W ⟨rfl,hbW⟩;have HF:=Lib.hid ((four_new w (.int .i64 0) (.int .i64 (i:Int)) (.int .i64 ((i:Int)+1)) (.int .i64 0) (.int .i64 (i:Int)) (.int .i64 0)).then hbW);obtain⟨⟨⟨u0,u1,u2,u3,u4,u5,k0,k1,k2,k3,k4,k5⟩,f0,f1,f2,f3,f4,f5⟩,x0,x1,x2,y0,y1,y2,⟨⟨g0,g1,g2⟩,g3,g4,g5⟩,_⟩:=HF.out;clear hbW)|(go_at_call 147;refine(H6.out _).mono ?_;rintro e w' ⟨rfl,rfl⟩)|(go_at_call 148;refine(H7.out _).mono ?_;rintro e w' ⟨rfl,rfl⟩))
  have HF1:=Lib.hid (HF.out.set0 (.int .i64 11))
  have e1:((i:Int)+1)=((i+1:Nat):Int):=by omega
  have HF2:=HF1
  rw[e1] at HF2
  clear k0 k1 k2 k3 k4 k5 f0 f1 f2 f3 f4 f5 x0 x1 x2 y0 y1 y2 g0 g1 g2 g3 g4 g5
  go_loopw [] (fun wr=>∃ n:Nat,i<n∧n≤s.size∧Four w wr (.int .i64 11) (.int .i64 (i:Int)) (.int .i64 (n:Int)) (.int .i64 0) (.int .i64 (i:Int)) (.int .i64 0)∧∀ j,i≤j→j<n→∀ h:j<s.data.toList.length,isWd s.data.toList[j]=true) (fun wr=>s.size - (intOf ((wr.cell? ⟨w.heap.size+1+1,2,none⟩).getD undef)).toNat)
  case atStart=>exact⟨i+1,by omega,by omega,HF2.out,fun j g1 g2 h=>by
           obtain rfl:j=i:=by omega
           exact HC.out h⟩
  case round=>
   obtain⟨n,hn1,hn2,hfo,hall⟩:=hrel
   have HR:=Lib.hid hfo
   have HA:=Lib.hid hall
   clear hfo hall HF HF1 HF2 e1
   obtain⟨⟨⟨u0,u1,u2,u3,u4,u5,k0,k1,k2,k3,k4,k5⟩,f0,f1,f2,f3,f4,f5⟩,x0,x1,x2,y0,y1,y2,⟨⟨g0,g1,g2⟩,g3,g4,g5⟩,_⟩:=HR.out
   by_cases hlt2:n<s.size
   ·obtain⟨d,hd⟩:∃ d,s[n]'hlt2=d:=⟨_,rfl⟩
    have hixn:∀ u:World,(Instr.index 9 (.string s) (.int .i64 (n:Int))).run Tryz.prog u=.ok (.int .u8 (d.toNat:Int)) u:=fun u=>by rw[← hd];exact index_at s _ n rfl hlt2 u
    have HD:Hid (∀ h:n<s.data.toList.length,s.data.toList[n]=d):=Lib.hid (fun _=>by rw[← hd];rfl)
    have dlt:decide ((n:Int)<(s.size:Int))=true:=decide_eq_true (by omega)
    clear hd
    cases hL:isLt d with
    |true=>
     have H3:=Lib.hid (fun u=>refLetter_any d u)
     rw[hL] at H3
     have HP:Hid (isWd d=true):=Lib.hid (by unfold isWd;rw[hL];rfl)
     clear hL
     go_wp2_with (go_at_call 147;refine(H3.out _).mono ?_;rintro e w' ⟨rfl,rfl⟩)
     go_roundw
     case rel=>exact⟨n+1,by omega,by omega,by have:=HR.out.set2 (.int .i64 ((n+1:Nat):Int));exact this,fun j g1 g2 h=>by
            by_cases e:j=n
            ·subst e;rw[HD.out h];exact HP.out
            ·exact HA.out j g1 (by omega) h⟩
     case measure=>have e2:=(HR.out.set2 (.int .i64 ((n:Int)+1))).x2;simp only[x2,e2,Option.getD_some,intOf];omega
    |false=>
     have H3:=Lib.hid (fun u=>refLetter_any d u)
     rw[hL] at H3
     have H5:=Lib.hid (fun u=>refDigit_any d u)
     cases hG:isDg d with
     |true=>
      rw[hG] at H5
      have HP:Hid (isWd d=true):=Lib.hid (by unfold isWd;rw[hL,hG];rfl)
      clear hL hG
      go_wp2_with (first|(go_at_call 147;refine(H3.out _).mono ?_;rintro e w' ⟨rfl,rfl⟩)|(go_at_call 148;refine(H5.out _).mono ?_;rintro e w' ⟨rfl,rfl⟩))
      go_roundw
      case rel=>exact⟨n+1,by omega,by omega,by have:=HR.out.set2 (.int .i64 ((n+1:Nat):Int));exact this,fun j g1 g2 h=>by
             by_cases e:j=n
             ·subst e;rw[HD.out h];exact HP.out
             ·exact HA.out j g1 (by omega) h⟩
      case measure=>have e2:=(HR.out.set2 (.int .i64 ((n:Int)+1))).x2;simp only[x2,e2,Option.getD_some,intOf];omega
     |false=>
      rw[hG] at H5
      have HP:Hid (isWd d=false):=Lib.hid (by unfold isWd;rw[hL,hG];rfl)
      clear hL hG
      have HE:Hid (i+runL isWd (s.data.toList.drop i)=n):=Lib.hid (run_to (by omega) (by rw[HSD.out];exact hlt2) HA.out (by rw[HD.out (by rw[HSD.out];exact hlt2)];exact HP.out))
      have hsl:=piece_mid s i n (i:Int) (n:Int) rfl rfl (by omega) (by omega)
      have HK:=Lib.hid (fun u=>refDigits_any (B ((s.data.toList.drop i).take (n - i))) u (by rw[bsize,List.length_take,List.length_drop,HSD.out];omega))
      rw[bdata] at HK
      have hw:runL isWd (s.data.toList.drop i)=n - i:=by have:=HE.out;omega
      have HW3:=HW
      rw[hw] at HW3
      obtain⟨z1,z2,z3,hz⟩:∃ z1 z2 z3,numOf ((s.data.toList.drop i).take (n - i))=(z1,z2,z3):=⟨_,_,_,rfl⟩
      obtain⟨x,hx⟩:∃ x,B ((s.data.toList.drop i).take (n - i))=x:=⟨_,rfl⟩
      rw[hz] at HK HW3
      rw[hx] at HK hsl
      have HE2:Hid ((i:Int)+((n - i:Nat):Int)=(n:Int)):=Lib.hid (by omega)
      clear hz hx hw HW HE HA
      cases z3 with
      |true=>
       rw[if_pos rfl] at HW3
       go_wp2_with (first|(go_at_call 147;refine(H3.out _).mono ?_;rintro e w' ⟨rfl,rfl⟩)|(go_at_call 148;refine(H5.out _).mono ?_;rintro e w' ⟨rfl,rfl⟩)|(go_at_call 150;refine(HK.out _).mono ?_;rintro e W5 ⟨rfl,hb5⟩;have HG:=Lib.hid (HR.out.then hb5);clear k0 k1 k2 k3 k4 k5 f0 f1 f2 f3 f4 f5 x0 x1 x2 y0 y1 y2 g0 g1 g2 g3 g4 g5;clear hb5;obtain⟨⟨⟨u0,u1,u2,u3,u4,u5,k0,k1,k2,k3,k4,k5⟩,f0,f1,f2,f3,f4,f5⟩,x0,x1,x2,y0,y1,y2,⟨⟨g0,g1,g2⟩,g3,g4,g5⟩,_⟩:=HG.out))
       go_region
       go_wp2_with fail
       exact bodyPost_ret (results_drew Tryz.results134 _ (by repeat (first|exact HG.out.six|refine six_past ?_ (by omega) _)) (.int .i64 11) (.int .i64 (i:Int)) (.int .i64 (n:Int)) (.int .i64 0) (.int .i64 (i:Int)) (.int .i64 (n:Int)) rfl rfl) rfl (Told.mk' (x:=(i:Int)) (y:=(n:Int)) (by rw[HW3.out];simp only[right];rw[HE2.out]) (by rw[HW3.out];exact fun h=>absurd rfl h) (below_put6 (by repeat (first|exact HG.out.below|refine below_at ?_ (by omega) _)) (Nat.le_refl _) _ _ _ _ _ _).drew)
      |false=>
       rw[if_neg (by simp)] at HW3
       go_wp2_with (first|(go_at_call 147;refine(H3.out _).mono ?_;rintro e w' ⟨rfl,rfl⟩)|(go_at_call 148;refine(H5.out _).mono ?_;rintro e w' ⟨rfl,rfl⟩)|(go_at_call 150;refine(HK.out _).mono ?_;rintro e W5 ⟨rfl,hb5⟩;have HG:=Lib.hid (HR.out.then hb5);clear k0 k1 k2 k3 k4 k5 f0 f1 f2 f3 f4 f5 x0 x1 x2 y0 y1 y2 g0 g1 g2 g3 g4 g5;clear hb5;obtain⟨⟨⟨u0,u1,u2,u3,u4,u5,k0,k1,k2,k3,k4,k5⟩,f0,f1,f2,f3,f4,f5⟩,x0,x1,x2,y0,y1,y2,⟨⟨g0,g1,g2⟩,g3,g4,g5⟩,_⟩:=HG.out))
       go_region
       go_wp2_with fail
       exact bodyPost_ret (results_drew Tryz.results134 _ (by repeat (first|exact HG.out.six|refine six_past ?_ (by omega) _)) (.int .i64 11) (.int .i64 (i:Int)) (.int .i64 (n:Int)) (.int .i64 109) (.int .i64 (i:Int)) (.int .i64 (n:Int)) rfl rfl) rfl (Told.mk' (x:=(i:Int)) (y:=(n:Int)) (by rw[HW3.out];simp only[wrong];rw[HE2.out]) (by rw[HW3.out];exact fun _=>⟨by simp [wrong],by simp only[wrong];rw[← HE2.out];simp⟩) (below_put6 (by repeat (first|exact HG.out.below|refine below_at ?_ (by omega) _)) (Nat.le_refl _) _ _ _ _ _ _).drew)
   ·have dlt:decide ((n:Int)<(s.size:Int))=false:=decide_eq_false (by omega)
    obtain rfl:n=s.size:=by omega
    have HE:Hid (i+runL isWd (s.data.toList.drop i)=s.size):=Lib.hid (by rw[run_end (by rw[HSD.out];omega) (fun j g1 h=>HA.out j g1 (by rw[HSD.out] at h;omega) h),HSD.out])
    have hsl:=piece_mid s i s.size (i:Int) (s.size:Int) rfl rfl (by omega) (by omega)
    have HK:=Lib.hid (fun u=>refDigits_any (B ((s.data.toList.drop i).take (s.size - i))) u (by rw[bsize,List.length_take,List.length_drop,HSD.out];omega))
    rw[bdata] at HK
    have hw:runL isWd (s.data.toList.drop i)=s.size - i:=by have:=HE.out;omega
    have HW3:=HW
    rw[hw] at HW3
    obtain⟨z1,z2,z3,hz⟩:∃ z1 z2 z3,numOf ((s.data.toList.drop i).take (s.size - i))=(z1,z2,z3):=⟨_,_,_,rfl⟩
    obtain⟨x,hx⟩:∃ x,B ((s.data.toList.drop i).take (s.size - i))=x:=⟨_,rfl⟩
    rw[hz] at HK HW3
    rw[hx] at HK hsl
    have HE2:Hid ((i:Int)+((s.size - i:Nat):Int)=(s.size:Int)):=Lib.hid (by omega)
    clear hz hx hw HW HE HA
    cases z3 with
    |true=>
     rw[if_pos rfl] at HW3
     go_wp2_with (first|(go_at_call 150;refine(HK.out _).mono ?_;rintro e W5 ⟨rfl,hb5⟩;have HG:=Lib.hid (HR.out.then hb5);clear k0 k1 k2 k3 k4 k5 f0 f1 f2 f3 f4 f5 x0 x1 x2 y0 y1 y2 g0 g1 g2 g3 g4 g5;clear hb5;obtain⟨⟨⟨u0,u1,u2,u3,u4,u5,k0,k1,k2,k3,k4,k5⟩,f0,f1,f2,f3,f4,f5⟩,x0,x1,x2,y0,y1,y2,⟨⟨g0,g1,g2⟩,g3,g4,g5⟩,_⟩:=HG.out))
     go_region
     go_wp2_with fail
     exact bodyPost_ret (results_drew Tryz.results134 _ (by repeat (first|exact HG.out.six|refine six_past ?_ (by omega) _)) (.int .i64 11) (.int .i64 (i:Int)) (.int .i64 (s.size:Int)) (.int .i64 0) (.int .i64 (i:Int)) (.int .i64 (s.size:Int)) rfl rfl) rfl (Told.mk' (x:=(i:Int)) (y:=(s.size:Int)) (by rw[HW3.out];simp only[right];rw[HE2.out]) (by rw[HW3.out];exact fun h=>absurd rfl h) (below_put6 (by repeat (first|exact HG.out.below|refine below_at ?_ (by omega) _)) (Nat.le_refl _) _ _ _ _ _ _).drew)
    |false=>
     rw[if_neg (by simp)] at HW3
     go_wp2_with (first|(go_at_call 150;refine(HK.out _).mono ?_;rintro e W5 ⟨rfl,hb5⟩;have HG:=Lib.hid (HR.out.then hb5);clear k0 k1 k2 k3 k4 k5 f0 f1 f2 f3 f4 f5 x0 x1 x2 y0 y1 y2 g0 g1 g2 g3 g4 g5;clear hb5;obtain⟨⟨⟨u0,u1,u2,u3,u4,u5,k0,k1,k2,k3,k4,k5⟩,f0,f1,f2,f3,f4,f5⟩,x0,x1,x2,y0,y1,y2,⟨⟨g0,g1,g2⟩,g3,g4,g5⟩,_⟩:=HG.out))
     go_region
     go_wp2_with fail
     exact bodyPost_ret (results_drew Tryz.results134 _ (by repeat (first|exact HG.out.six|refine six_past ?_ (by omega) _)) (.int .i64 11) (.int .i64 (i:Int)) (.int .i64 (s.size:Int)) (.int .i64 109) (.int .i64 (i:Int)) (.int .i64 (s.size:Int)) rfl rfl) rfl (Told.mk' (x:=(i:Int)) (y:=(s.size:Int)) (by rw[HW3.out];simp only[wrong];rw[HE2.out]) (by rw[HW3.out];exact fun _=>⟨by simp [wrong],by simp only[wrong];rw[← HE2.out];simp⟩) (below_put6 (by repeat (first|exact HG.out.below|refine below_at ?_ (by omega) _)) (Nat.le_refl _) _ _ _ _ _ _).drew)
 ·have b1:((i:Int) == 0)=true:=beq_iff_eq.2 (by omega)
  have d3:decide (3≤(s.size:Int))=true:=decide_eq_true (by omega)
  have hsl3:=slice_to s 3 3 rfl h3
  obtain⟨x3,hx3⟩:∃ x,B (s.data.toList.take 3)=x:=⟨_,rfl⟩
  rw[hx3] at h4 hsl3
  clear h1 h3 hx3
  go_enter Tryz.func134,Tryz.ntmps134
  go_wp2_with (first|(go_at_call 146;refine(H2.out _).mono ?_;rintro e W ⟨rfl,hbW⟩;have HF:=Lib.hid ((four_new w (.int .i64 0) (.int .i64 (i:Int)) (.int .i64 ((i:Int)+1)) (.int .i64 0) (.int .i64 (i:Int)) (.int .i64 0)).then hbW);obtain⟨⟨⟨u0,u1,u2,u3,u4,u5,k0,k1,k2,k3,k4,k5⟩,f0,f1,f2,f3,f4,f5⟩,x0,x1,x2,y0,y1,y2,⟨⟨g0,g1,g2⟩,g3,g4,g5⟩,_⟩:=HF.out;clear hbW)|(go_at_call 147;refine(H6.out _).mono ?_;rintro e w' ⟨rfl,rfl⟩)|(go_at_call 148;refine(H7.out _).mono ?_;rintro e w' ⟨rfl,rfl⟩))
  have HF1:=Lib.hid (HF.out.set0 (.int .i64 11))
  have e1:((i:Int)+1)=((i+1:Nat):Int):=by omega
  have HF2:=HF1
  rw[e1] at HF2
  clear k0 k1 k2 k3 k4 k5 f0 f1 f2 f3 f4 f5 x0 x1 x2 y0 y1 y2 g0 g1 g2 g3 g4 g5
  go_loopw [] (fun wr=>∃ n:Nat,i<n∧n≤s.size∧Four w wr (.int .i64 11) (.int .i64 (i:Int)) (.int .i64 (n:Int)) (.int .i64 0) (.int .i64 (i:Int)) (.int .i64 0)∧∀ j,i≤j→j<n→∀ h:j<s.data.toList.length,isWd s.data.toList[j]=true) (fun wr=>s.size - (intOf ((wr.cell? ⟨w.heap.size+1+1,2,none⟩).getD undef)).toNat)
  case atStart=>exact⟨i+1,by omega,by omega,HF2.out,fun j g1 g2 h=>by
           obtain rfl:j=i:=by omega
           exact HC.out h⟩
  case round=>
   obtain⟨n,hn1,hn2,hfo,hall⟩:=hrel
   have HR:=Lib.hid hfo
   have HA:=Lib.hid hall
   clear hfo hall HF HF1 HF2 e1
   obtain⟨⟨⟨u0,u1,u2,u3,u4,u5,k0,k1,k2,k3,k4,k5⟩,f0,f1,f2,f3,f4,f5⟩,x0,x1,x2,y0,y1,y2,⟨⟨g0,g1,g2⟩,g3,g4,g5⟩,_⟩:=HR.out
   by_cases hlt2:n<s.size
   ·obtain⟨d,hd⟩:∃ d,s[n]'hlt2=d:=⟨_,rfl⟩
    have hixn:∀ u:World,(Instr.index 9 (.string s) (.int .i64 (n:Int))).run Tryz.prog u=.ok (.int .u8 (d.toNat:Int)) u:=fun u=>by rw[← hd];exact index_at s _ n rfl hlt2 u
    have HD:Hid (∀ h:n<s.data.toList.length,s.data.toList[n]=d):=Lib.hid (fun _=>by rw[← hd];rfl)
    have dlt:decide ((n:Int)<(s.size:Int))=true:=decide_eq_true (by omega)
    clear hd
    cases hL:isLt d with
    |true=>
     have H3:=Lib.hid (fun u=>refLetter_any d u)
     rw[hL] at H3
     have HP:Hid (isWd d=true):=Lib.hid (by unfold isWd;rw[hL];rfl)
     clear hL
     go_wp2_with (go_at_call 147;refine(H3.out _).mono ?_;rintro e w' ⟨rfl,rfl⟩)
     go_roundw
     case rel=>exact⟨n+1,by omega,by omega,by have:=HR.out.set2 (.int .i64 ((n+1:Nat):Int));exact this,fun j g1 g2 h=>by
            by_cases e:j=n
            ·subst e;rw[HD.out h];exact HP.out
            ·exact HA.out j g1 (by omega) h⟩
     case measure=>have e2:=(HR.out.set2 (.int .i64 ((n:Int)+1))).x2;simp only[x2,e2,Option.getD_some,intOf];omega
    |false=>
     have H3:=Lib.hid (fun u=>refLetter_any d u)
     rw[hL] at H3
     have H5:=Lib.hid (fun u=>refDigit_any d u)
     cases hG:isDg d with
     |true=>
      rw[hG] at H5
      have HP:Hid (isWd d=true):=Lib.hid (by unfold isWd;rw[hL,hG];rfl)
      clear hL hG
      go_wp2_with (first|(go_at_call 147;refine(H3.out _).mono ?_;rintro e w' ⟨rfl,rfl⟩)|(go_at_call 148;refine(H5.out _).mono ?_;rintro e w' ⟨rfl,rfl⟩))
      go_roundw
      case rel=>exact⟨n+1,by omega,by omega,by have:=HR.out.set2 (.int .i64 ((n+1:Nat):Int));exact this,fun j g1 g2 h=>by
             by_cases e:j=n
             ·subst e;rw[HD.out h];exact HP.out
             ·exact HA.out j g1 (by omega) h⟩
      case measure=>have e2:=(HR.out.set2 (.int .i64 ((n:Int)+1))).x2;simp only[x2,e2,Option.getD_some,intOf];omega
     |false=>
      rw[hG] at H5
      have HP:Hid (isWd d=false):=Lib.hid (by unfold isWd;rw[hL,hG];rfl)
      clear hL hG
      have HE:Hid (i+runL isWd (s.data.toList.drop i)=n):=Lib.hid (run_to (by omega) (by rw[HSD.out];exact hlt2) HA.out (by rw[HD.out (by rw[HSD.out];exact hlt2)];exact HP.out))
      have hsl:=piece_mid s i n (i:Int) (n:Int) rfl rfl (by omega) (by omega)
      have HK:=Lib.hid (fun u=>refDigits_any (B ((s.data.toList.drop i).take (n - i))) u (by rw[bsize,List.length_take,List.length_drop,HSD.out];omega))
      rw[bdata] at HK
      have hw:runL isWd (s.data.toList.drop i)=n - i:=by have:=HE.out;omega
      have HW3:=HW
      rw[hw] at HW3
      obtain⟨z1,z2,z3,hz⟩:∃ z1 z2 z3,numOf ((s.data.toList.drop i).take (n - i))=(z1,z2,z3):=⟨_,_,_,rfl⟩
      obtain⟨x,hx⟩:∃ x,B ((s.data.toList.drop i).take (n - i))=x:=⟨_,rfl⟩
      rw[hz] at HK HW3
      rw[hx] at HK hsl
      have HE2:Hid ((i:Int)+((n - i:Nat):Int)=(n:Int)):=Lib.hid (by omega)
      clear hz hx hw HW HE HA
      cases z3 with
      |true=>
       rw[if_pos rfl] at HW3
       go_wp2_with (first|(go_at_call 147;refine(H3.out _).mono ?_;rintro e w' ⟨rfl,rfl⟩)|(go_at_call 148;refine(H5.out _).mono ?_;rintro e w' ⟨rfl,rfl⟩)|(go_at_call 150;refine(HK.out _).mono ?_;rintro e W5 ⟨rfl,hb5⟩;have HG:=Lib.hid (HR.out.then hb5);clear k0 k1 k2 k3 k4 k5 f0 f1 f2 f3 f4 f5 x0 x1 x2 y0 y1 y2 g0 g1 g2 g3 g4 g5;clear hb5;obtain⟨⟨⟨u0,u1,u2,u3,u4,u5,k0,k1,k2,k3,k4,k5⟩,f0,f1,f2,f3,f4,f5⟩,x0,x1,x2,y0,y1,y2,⟨⟨g0,g1,g2⟩,g3,g4,g5⟩,_⟩:=HG.out))
       go_region
       go_wp2_with fail
       exact bodyPost_ret (results_drew Tryz.results134 _ (by repeat (first|exact HG.out.six|refine six_past ?_ (by omega) _)) (.int .i64 11) (.int .i64 (i:Int)) (.int .i64 (n:Int)) (.int .i64 0) (.int .i64 (i:Int)) (.int .i64 (n:Int)) rfl rfl) rfl (Told.mk' (x:=(i:Int)) (y:=(n:Int)) (by rw[HW3.out];simp only[right];rw[HE2.out]) (by rw[HW3.out];exact fun h=>absurd rfl h) (below_put6 (by repeat (first|exact HG.out.below|refine below_at ?_ (by omega) _)) (Nat.le_refl _) _ _ _ _ _ _).drew)
      |false=>
       rw[if_neg (by simp)] at HW3
       go_wp2_with (first|(go_at_call 147;refine(H3.out _).mono ?_;rintro e w' ⟨rfl,rfl⟩)|(go_at_call 148;refine(H5.out _).mono ?_;rintro e w' ⟨rfl,rfl⟩)|(go_at_call 150;refine(HK.out _).mono ?_;rintro e W5 ⟨rfl,hb5⟩;have HG:=Lib.hid (HR.out.then hb5);clear k0 k1 k2 k3 k4 k5 f0 f1 f2 f3 f4 f5 x0 x1 x2 y0 y1 y2 g0 g1 g2 g3 g4 g5;clear hb5;obtain⟨⟨⟨u0,u1,u2,u3,u4,u5,k0,k1,k2,k3,k4,k5⟩,f0,f1,f2,f3,f4,f5⟩,x0,x1,x2,y0,y1,y2,⟨⟨g0,g1,g2⟩,g3,g4,g5⟩,_⟩:=HG.out))
       go_region
       go_wp2_with fail
       exact bodyPost_ret (results_drew Tryz.results134 _ (by repeat (first|exact HG.out.six|refine six_past ?_ (by omega) _)) (.int .i64 11) (.int .i64 (i:Int)) (.int .i64 (n:Int)) (.int .i64 109) (.int .i64 (i:Int)) (.int .i64 (n:Int)) rfl rfl) rfl (Told.mk' (x:=(i:Int)) (y:=(n:Int)) (by rw[HW3.out];simp only[wrong];rw[HE2.out]) (by rw[HW3.out];exact fun _=>⟨by simp [wrong],by simp only[wrong];rw[← HE2.out];simp⟩) (below_put6 (by repeat (first|exact HG.out.below|refine below_at ?_ (by omega) _)) (Nat.le_refl _) _ _ _ _ _ _).drew)
   ·have dlt:decide ((n:Int)<(s.size:Int))=false:=decide_eq_false (by omega)
    obtain rfl:n=s.size:=by omega
    have HE:Hid (i+runL isWd (s.data.toList.drop i)=s.size):=Lib.hid (by rw[run_end (by rw[HSD.out];omega) (fun j g1 h=>HA.out j g1 (by rw[HSD.out] at h;omega) h),HSD.out])
    have hsl:=piece_mid s i s.size (i:Int) (s.size:Int) rfl rfl (by omega) (by omega)
    have HK:=Lib.hid (fun u=>refDigits_any (B ((s.data.toList.drop i).take (s.size - i))) u (by rw[bsize,List.length_take,List.length_drop,HSD.out];omega))
    rw[bdata] at HK
    have hw:runL isWd (s.data.toList.drop i)=s.size - i:=by have:=HE.out;omega
    have HW3:=HW
    rw[hw] at HW3
    obtain⟨z1,z2,z3,hz⟩:∃ z1 z2 z3,numOf ((s.data.toList.drop i).take (s.size - i))=(z1,z2,z3):=⟨_,_,_,rfl⟩
    obtain⟨x,hx⟩:∃ x,B ((s.data.toList.drop i).take (s.size - i))=x:=⟨_,rfl⟩
    rw[hz] at HK HW3
    rw[hx] at HK hsl
    have HE2:Hid ((i:Int)+((s.size - i:Nat):Int)=(s.size:Int)):=Lib.hid (by omega)
    clear hz hx hw HW HE HA
    cases z3 with
    |true=>
     rw[if_pos rfl] at HW3
     go_wp2_with (first|(go_at_call 150;refine(HK.out _).mono ?_;rintro e W5 ⟨rfl,hb5⟩;have HG:=Lib.hid (HR.out.then hb5);clear k0 k1 k2 k3 k4 k5 f0 f1 f2 f3 f4 f5 x0 x1 x2 y0 y1 y2 g0 g1 g2 g3 g4 g5;clear hb5;obtain⟨⟨⟨u0,u1,u2,u3,u4,u5,k0,k1,k2,k3,k4,k5⟩,f0,f1,f2,f3,f4,f5⟩,x0,x1,x2,y0,y1,y2,⟨⟨g0,g1,g2⟩,g3,g4,g5⟩,_⟩:=HG.out))
     go_region
     go_wp2_with fail
     exact bodyPost_ret (results_drew Tryz.results134 _ (by repeat (first|exact HG.out.six|refine six_past ?_ (by omega) _)) (.int .i64 11) (.int .i64 (i:Int)) (.int .i64 (s.size:Int)) (.int .i64 0) (.int .i64 (i:Int)) (.int .i64 (s.size:Int)) rfl rfl) rfl (Told.mk' (x:=(i:Int)) (y:=(s.size:Int)) (by rw[HW3.out];simp only[right];rw[HE2.out]) (by rw[HW3.out];exact fun h=>absurd rfl h) (below_put6 (by repeat (first|exact HG.out.below|refine below_at ?_ (by omega) _)) (Nat.le_refl _) _ _ _ _ _ _).drew)
    |false=>
     rw[if_neg (by simp)] at HW3
     go_wp2_with (first|(go_at_call 150;refine(HK.out _).mono ?_;rintro e W5 ⟨rfl,hb5⟩;have HG:=Lib.hid (HR.out.then hb5);clear k0 k1 k2 k3 k4 k5 f0 f1 f2 f3 f4 f5 x0 x1 x2 y0 y1 y2 g0 g1 g2 g3 g4 g5;clear hb5;obtain⟨⟨⟨u0,u1,u2,u3,u4,u5,k0,k1,k2,k3,k4,k5⟩,f0,f1,f2,f3,f4,f5⟩,x0,x1,x2,y0,y1,y2,⟨⟨g0,g1,g2⟩,g3,g4,g5⟩,_⟩:=HG.out))
     go_region
     go_wp2_with fail
     exact bodyPost_ret (results_drew Tryz.results134 _ (by repeat (first|exact HG.out.six|refine six_past ?_ (by omega) _)) (.int .i64 11) (.int .i64 (i:Int)) (.int .i64 (s.size:Int)) (.int .i64 109) (.int .i64 (i:Int)) (.int .i64 (s.size:Int)) rfl rfl) rfl (Told.mk' (x:=(i:Int)) (y:=(s.size:Int)) (by rw[HW3.out];simp only[wrong];rw[HE2.out]) (by rw[HW3.out];exact fun _=>⟨by simp [wrong],by simp only[wrong];rw[← HE2.out];simp⟩) (below_put6 (by repeat (first|exact HG.out.below|refine below_at ?_ (by omega) _)) (Nat.le_refl _) _ _ _ _ _ _).drew)
open Go.RowKit Go.Proofs.YtcekbbkidipbnaaGreat.tok
theorem refNext_1 {s:ByteArray} {i:Nat} {c:UInt8} {w:World} (hlt:i<s.size) (hc:s[i]=c) (hs:s.size≤4194304) (m:Nx) (hm:m=right 1 3) (h1:i=0) (h3:3≤s.size) (h4:((B (s.data.toList.take 3)).toList == [239,187,191])=true) :
  Calls Tryz.prog 134 #[.string s,.int .i64 (i:Int)] w (Told m i w):=by
 have HW:=Lib.hid hm
 have hix:∀ u:World,(Instr.index 9 (.string s) (.int .i64 (i:Int))).run Tryz.prog u=.ok (.int .u8 (c.toNat:Int)) u:=fun u=>by rw[← hc];exact index_at s _ i rfl hlt u
 have b1:((i:Int) == 0)=true:=beq_iff_eq.2 (by omega)
 have d3:decide (3≤(s.size:Int))=true:=decide_eq_true (by omega)
 have hsl3:=slice_to s 3 3 rfl h3
 obtain⟨x3,hx3⟩:∃ x,B (s.data.toList.take 3)=x:=⟨_,rfl⟩
 rw[hx3] at h4 hsl3
 have HE:Hid ((i:Int)=0):=Lib.hid (by omega)
 clear h1 h3 hx3 hc hm
 go_enter Tryz.func134,Tryz.ntmps134
 go_wp2
 have HF:=Lib.hid (four_new w (.int .i64 1) (.int .i64 (i:Int)) (.int .i64 3) (.int .i64 0) (.int .i64 (i:Int)) (.int .i64 3))
 unfold boxes4 at HF
 generalize (((w.alloc (.cells #[.int .i64 0,.int .i64 0,.int .i64 0] 55)).alloc (.cells #[.int .i64 0,.int .i64 0,.int .i64 0] 37)).alloc (.cells #[.int .i64 1,.int .i64 (i:Int),.int .i64 3] 55)).alloc (.cells #[.int .i64 0,.int .i64 (i:Int),.int .i64 3] 37)=W at *
 obtain⟨⟨⟨u0,u1,u2,u3,u4,u5,k0,k1,k2,k3,k4,k5⟩,f0,f1,f2,f3,f4,f5⟩,x0,x1,x2,y0,y1,y2,⟨⟨g0,g1,g2⟩,g3,g4,g5⟩,_⟩:=HF.out
 go_region
 go_wp2_with fail
 exact bodyPost_ret (results_drew Tryz.results134 _ (by repeat (first|exact HF.out.six|refine six_past ?_ (by omega) _)) (.int .i64 1) (.int .i64 (i:Int)) (.int .i64 (3:Int)) (.int .i64 0) (.int .i64 (i:Int)) (.int .i64 (3:Int)) rfl rfl) rfl (Told.mk' (x:=(i:Int)) (y:=(3:Int)) (by rw[HW.out];simp only[right];rw[HE.out];rfl) (by rw[HW.out];exact fun h=>absurd rfl h) (below_put6 (by repeat (first|exact HF.out.below|refine below_at ?_ (by omega) _)) (Nat.le_refl _) _ _ _ _ _ _).drew)
open Go.RowKit Go.Proofs.YtcekbbkidipbnaaGreat.tok
theorem pre_two {c a b:UInt8} {r:List UInt8}:Lib.hasPrefix (c::r) [a,b]=true↔c=a∧r.head? = some b:=by
 cases r with
 |nil=>simp [Lib.hasPrefix,List.isPrefixOf]
 |cons d r=>
  simp only[Lib.hasPrefix,List.isPrefixOf,Bool.and_true,Bool.and_eq_true,beq_iff_eq,List.head?_cons,Option.some.injEq]
  exact⟨fun⟨x,y⟩=>⟨x.symm,y.symm⟩,fun⟨x,y⟩=>⟨x.symm,y.symm⟩⟩
theorem head_drop {s:ByteArray} {i:Nat} {b:UInt8}:(s.data.toList.drop (i+1)).head? = some b↔∃ h:i+1<s.size,s[i+1]=b:=by
 by_cases h:i+1<s.size
 ·have:s.data.toList.drop (i+1)=s[i+1]::s.data.toList.drop (i+2):=List.drop_eq_getElem_cons (by rw[sdata];exact h)
  rw[this]
  simp [h]
 ·rw[List.drop_of_length_le (by rw[sdata];omega)]
  simp [h]
theorem refNext_any (s:ByteArray) (i:Nat) (w:World) (hs:s.size≤4194304) (hlt:i<s.size) :
  Calls Tryz.prog 134 #[.string s,.int .i64 (i:Int)] w (Told (nxAt lang s.data.toList i) i w):=by
 have hd:s.data.toList.drop i=s[i]::s.data.toList.drop (i+1):=List.drop_eq_getElem_cons (by rw[sdata];exact hlt)
 have hn:nxAt lang s.data.toList i=nxOf lang (cls (i == 0) (s.data.toList.drop i)) (s.data.toList.drop i):=rfl
 have hh2:∀ b,(s.data.toList.drop (i+1)).head? = some b↔∃ h:i+1<s.size,s[i+1]=b:=fun b=>head_drop
 obtain⟨c,hc⟩:∃ c,s[i]=c:=⟨_,rfl⟩
 rw[hc] at hd
 have hcls:cls (i == 0) (s.data.toList.drop i)=cls (i == 0) (c::s.data.toList.drop (i+1)):=by rw[hd]
 rw[cls,← hd] at hcls
 rw[hn]
 by_cases h1:((i == 0) && Lib.hasPrefix (s.data.toList.drop i) mark)=true
 ·rw[if_pos h1] at hcls
  rw[Bool.and_eq_true,beq_iff_eq] at h1
  obtain⟨h0,hp⟩:=h1
  rw[h0,List.drop_zero] at hp
  have hl:=(List.isPrefixOf_iff_prefix.1 hp).length_le
  rw[sdata] at hl
  have e:=piece_is s.data.toList mark 0
  rw[List.drop_zero] at e
  exact refNext_1 hlt hc hs _ (by rw[hcls];rfl) h0 hl (by rw[blist];exact e.trans hp)
 rw[if_neg h1] at hcls
 have g1:i≠0∨Lib.hasPrefix s.data.toList mark=false:=by
  by_cases ha:i=0
  ·refine .inr ?_
   rw[ha,List.drop_zero] at h1
   simpa using h1
  ·exact .inl ha
 by_cases h2:isBl c=true
 ·rw[if_pos h2] at hcls
  exact refNext_2 hlt hc hs _ (by rw[hcls];rfl) g1 h2
 rw[if_neg h2] at hcls
 have h2:isBl c=false:=by simpa using h2
 by_cases h3:c=10
 ·rw[if_pos h3] at hcls
  exact refNext_3 hlt hc hs _ (by rw[hcls];rfl) g1 h2 h3
 rw[if_neg h3] at hcls
 have hpa:∀ a b,Lib.hasPrefix (s.data.toList.drop i) [a,b]=true↔c=a∧∃ h:i+1<s.size,s[i+1]=b:=fun a b=>by rw[hd,pre_two,hh2]
 by_cases h4:Lib.hasPrefix (s.data.toList.drop i) [47,47]=true
 ·rw[if_pos h4] at hcls
  obtain⟨e,h,e2⟩:=(hpa 47 47).1 h4
  exact refNext_4 hlt hc hs _ (by rw[hcls];rfl) g1 h2 h3 e h e2
 rw[if_neg h4] at hcls
 by_cases h5:Lib.hasPrefix (s.data.toList.drop i) [47,42]=true
 ·rw[if_pos h5] at hcls
  obtain⟨e,h,e2⟩:=(hpa 47 42).1 h5
  exact refNext_5 hlt hc hs _ (by rw[hcls];rfl) g1 h2 h3 e h e2
 rw[if_neg h5] at hcls
 by_cases h6:isLt c=true
 ·rw[if_pos h6] at hcls
  exact refNext_6 hlt hc hs _ (by rw[hcls];rfl) g1 h2 h3 (by rintro rfl;exact absurd h6 (by decide)) h6
 rw[if_neg h6] at hcls
 have h6:isLt c=false:=by simpa using h6
 by_cases h7:isDg c=true
 ·rw[if_pos h7] at hcls
  exact refNext_7 hlt hc hs _ (by rw[hcls];rfl) g1 h2 h3 (by rintro rfl;exact absurd h7 (by decide)) h6 h7
 rw[if_neg h7] at hcls
 have h7:isDg c=false:=by simpa using h7
 by_cases h8:c=34
 ·rw[if_pos h8] at hcls
  exact refNext_8 hlt hc hs _ (by rw[hcls];rfl) g1 h2 h3 (by rw[h8];decide) h6 h7 h8
 rw[if_neg h8] at hcls
 by_cases h9:c=39
 ·rw[if_pos h9] at hcls
  exact refNext_9 hlt hc hs _ (by rw[hcls];rfl) g1 h2 h3 (by rw[h9];decide) h6 h7 h8 h9
 rw[if_neg h9] at hcls
 by_cases h10:c=96
 ·rw[if_pos h10] at hcls
  exact refNext_10 hlt hc hs _ (by rw[hcls];rfl) g1 h2 h3 (by rw[h10];decide) h6 h7 h8 h9 h10
 rw[if_neg h10] at hcls
 by_cases h47:c=47
 ·by_cases hl:i+1<s.size
  ·exact refNext_11c hlt hc hs _ (by rw[hcls];rfl) g1 h2 h3 h47 hl _ rfl (fun e=>h4 ((hpa 47 47).2 ⟨h47,hl,e⟩)) (fun e=>h5 ((hpa 47 42).2 ⟨h47,hl,e⟩)) h6 h7 h8 h9 h10
  ·exact refNext_11b hlt hc hs _ (by rw[hcls];rfl) g1 h2 h3 h47 (by omega) h6 h7 h8 h9 h10
 ·exact refNext_11a hlt hc hs _ (by rw[hcls];rfl) g1 h2 h3 h47 h6 h7 h8 h9 h10
end Go.Proofs.YtcekbbkidipbnaaGreat.lx
